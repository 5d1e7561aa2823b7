import PyProof.Rows.All
import Wide.All
import OpenK.AllK
import Wide.FinOn
import Lean
import PyProof.EqAt
import PyProof.EqKinds
import PyProof.TupleCall
import PySem.Challenge.RW_currentfloor_k42_whole_one_end
set_option Elab.async false
set_option linter.all false
set_option maxRecDepth 100000
namespace L2
open PySem PySem.Spec PyProof.Rows

noncomputable abbrev Key := Sum Int Str
noncomputable def keyIs : Key → Value → Bool
  | .inl k, v => Value.isInt k v
  | .inr x, v => Value.isStrOf x v
noncomputable def keyH (w : World) : Key → Int
  | .inl k => hashInt k
  | .inr x => hashStr w x
theorem keyIs_shape : ∀ {k : Key} {v : Value}, keyIs k v = true → (∃ i t, k = Sum.inl i ∧ v = Value.int i t) ∨ (∃ x t, k = Sum.inr x ∧ v = Value.str x t)
  | .inl i, v, h => by
    obtain ⟨t, e⟩ := Value.isInt_shape (k := i) (v := v) h
    exact .inl ⟨i, t, rfl, e⟩
  | .inr x, v, h => by
    obtain ⟨t, e⟩ := Value.isStrOf_shape (x := x) (v := v) h
    exact .inr ⟨x, t, rfl, e⟩
theorem key_ll (a b : Int) : decide ((Sum.inl a : Key) = Sum.inl b) = (a == b) := by
  by_cases e : a = b
  · subst e; simp
  · have h : ¬ (Sum.inl a : Key) = Sum.inl b := fun q => e (Sum.inl.inj q)
    rw [decide_eq_false h]
    exact (beq_eq_false_iff_ne.mpr e).symm
theorem key_rr (a b : Str) : decide ((Sum.inr a : Key) = Sum.inr b) = decide (a = b) := by
  by_cases e : a = b
  · subst e; simp
  · have h : ¬ (Sum.inr a : Key) = Sum.inr b := fun q => e (Sum.inr.inj q)
    rw [decide_eq_false h, decide_eq_false e]
theorem key_lr (a : Int) (b : Str) : decide ((Sum.inl a : Key) = Sum.inr b) = false := decide_eq_false (fun q => nomatch q)
theorem key_rl (a : Str) (b : Int) : decide ((Sum.inr a : Key) = Sum.inl b) = false := decide_eq_false (fun q => nomatch q)

noncomputable def mixKind (prog : Program) (w : World) : PySem.KeyKind prog w Key where
  is := keyIs
  hash := keyH w
  inj := fun v a b ha hb => by
    rcases keyIs_shape ha with ⟨i, t, rfl, rfl⟩ | ⟨x, t, rfl, rfl⟩
    · rcases keyIs_shape hb with ⟨j, u, rfl, e⟩ | ⟨y, u, rfl, e⟩
      · injection e with e1 _; rw [e1]
      · exact nomatch e
    · rcases keyIs_shape hb with ⟨j, u, rfl, e⟩ | ⟨y, u, rfl, e⟩
      · exact nomatch e
      · injection e with e1 _; rw [e1]
  byValue := fun k v h => by
    rcases keyIs_shape h with ⟨i, t, rfl, rfl⟩ | ⟨x, t, rfl, rfl⟩ <;> rfl
  pyHash := fun hv h => by
    rcases keyIs_shape hv with ⟨i, t, rfl, rfl⟩ | ⟨x, t, rfl, rfl⟩
    · exact wpAny_pyHash_int h
    · exact wpAny_pyHash_str h
  eqBool := fun hu hv h => by
    rcases keyIs_shape hu with ⟨i, t, rfl, rfl⟩ | ⟨x, t, rfl, rfl⟩
    · rcases keyIs_shape hv with ⟨j, u, rfl, rfl⟩ | ⟨y, u, rfl, rfl⟩
      · rw [key_ll] at h; exact wpAny_eqBool_int h
      · rw [key_lr] at h; exact SeqAt.EqAt.int_str i t y u _ _ _ _ h
    · rcases keyIs_shape hv with ⟨j, u, rfl, rfl⟩ | ⟨y, u, rfl, rfl⟩
      · rw [key_rl] at h; exact SeqAt.EqAt.str_int x t j u _ _ _ _ h
      · rw [key_rr] at h; exact wpAny_eqBool_str h
  «strs» := fun k x t v h => by
    rcases keyIs_shape h with ⟨i, u, rfl, e⟩ | ⟨y, u, rfl, e⟩
    · exact nomatch e
    · injection e with e1 _
      subst e1
      cases v <;> rfl

end L2

namespace L2
open PySem PySem.Spec PyProof.Rows

inductive V where
  | non | bl (b : Bool) | int (i : Int) | str (x : Str) | byt (b : Array UInt8) | flt (b : UInt64) | ref (a : Addr) | ty (n : String)
  deriving DecidableEq

noncomputable def RelV : V → Value → Prop
  | .non, u => u = Value.none
  | .bl b, u => u = Value.bool b
  | .int i, u => ∃ t, u = Value.int i t
  | .str x, u => ∃ t, u = Value.str x t
  | .byt b, u => ∃ t, u = Value.bytes b t
  | .flt b, u => ∃ t, u = Value.float b t
  | .ref a, u => u = Value.ref a
  | .ty n, u => u = Value.type n

noncomputable abbrev Vals : List V → List Value → Prop := Paired RelV
theorem Vals.length {xs : List V} {us : List Value} (r : Vals xs us) : xs.length = us.length := Paired.length r
theorem Vals.get : ∀ {xs : List V} {us : List Value} {i : Nat} {x : V}, Vals xs us → xs[i]? = some x → ∃ u, us[i]? = some u ∧ RelV x u
  | _, _, _, _, .nil, e => by simp at e
  | _, _, 0, _, .cons r _, e => by simp at e; subst e; exact ⟨_, rfl, r⟩
  | _, _, i + 1, x, .cons _ t, e => by
    obtain ⟨u, h1, h2⟩ := Vals.get (i := i) (x := x) t (by simpa using e)
    exact ⟨u, by simpa using h1, h2⟩
theorem Vals.set {x : V} {u : Value} (r : RelV x u) : ∀ {xs : List V} {us : List Value} (i : Nat), Vals xs us → Vals (xs.set i x) (us.set i u)
  | _, _, _, .nil => .nil
  | _, _, 0, .cons _ t => .cons r t
  | _, _, i + 1, .cons q t => .cons q (Vals.set r i t)
theorem Vals.append : ∀ {xs ys : List V} {us ws : List Value}, Vals xs us → Vals ys ws → Vals (xs ++ ys) (us ++ ws)
  | _, _, _, _, .nil, s => s
  | _, _, _, _, .cons r t, s => .cons r (Vals.append t s)
theorem Vals.take : ∀ {xs : List V} {us : List Value} (n : Nat), Vals xs us → Vals (xs.take n) (us.take n)
  | _, _, 0, _ => .nil
  | _, _, _ + 1, .nil => .nil
  | _, _, n + 1, .cons r t => .cons r (Vals.take n t)
theorem Vals.drop : ∀ {xs : List V} {us : List Value} (n : Nat), Vals xs us → Vals (xs.drop n) (us.drop n)
  | _, _, 0, r => r
  | _, _, _ + 1, .nil => .nil
  | _, _, n + 1, .cons _ t => Vals.drop n t
theorem Vals.none_of : ∀ {xs : List V} {us : List Value} {i : Nat}, Vals xs us → xs[i]? = none → us[i]? = none := fun {xs us i} r e => by
  have h1 := r.length
  have h2 : xs.length ≤ i := List.getElem?_eq_none_iff.mp e
  exact List.getElem?_eq_none_iff.mpr (by omega)

noncomputable def RelO : Option V → Option Value → Prop
  | some v, some u => RelV v u
  | none, none => True
  | _, _ => False
noncomputable def KV {κ : Type} : List (κ × V) → List (κ × Value) → Prop := Paired fun (p : κ × V) (q : κ × Value) => p.1 = q.1 ∧ RelV p.2 q.2

noncomputable def kV : Key → V
  | .inl i => .int i
  | .inr x => .str x

inductive HO where
    | lst (xs : List V)
    | tup (xs : List V)
    | dK (kvs : List (Key × V)) | dT (kvs : List (List Key × V))
    | set (S : Int → Bool) (n : Nat)
    | ins (C dx : Addr) (fs : List (Str × V))
    | own (x : Addr)
    | xd (fs : List (Str × V))
    | met (f x : Addr)
    | rng (lo hi : Int)
    | frz (o : Obj) (u : HO)
    | tbl (ps : Array Value)
    | ext (φ : Heap → Prop)

noncomputable abbrev Hp := Addr → Option HO
noncomputable def upd (H : Hp) (a : Addr) (o : HO) : Hp := fun b => if b = a then some o else H b
theorem upd_same {H : Hp} {a : Addr} {o : HO} : upd H a o a = some o := by unfold upd; rw [if_pos rfl]
theorem upd_ne {H : Hp} {a b : Addr} {o : HO} (h : b ≠ a) : upd H a o b = H b := by unfold upd; rw [if_neg h]
theorem ne_of_none {H : Hp} {a b : Addr} {o : HO} (h : H a = some o) (h' : H b = none) : a ≠ b := by
  intro e; subst e; rw [h] at h'; cases h'

section
variable (P : Program) (w : World)
noncomputable def ObjOk (H : Hp) (h : Heap) (a : Addr) : HO → Prop
  | .lst xs => xs.length ≤ sizeLine ∧ ∃ (its : List Value) (n : Nat), Vals xs its ∧ h.get? a = some { cls := .type "list", data := .seq its.toArray n }
  | .tup xs => xs.length ≤ sizeLine ∧ ∃ its : List Value, Vals xs its ∧ IsTup h a its.toArray ∧ ∃ o, h.get? a = some o ∧ o.dict = none
  | .dK kvs => kvs.length ≤ sizeLine ∧ (a == sysModules) = false ∧ ∃ vs, KV kvs vs ∧ h.DictOf (mixKind P w) a vs
  | .dT kvs => kvs.length ≤ sizeLine ∧ (a == sysModules) = false ∧ ∃ xs : List (List Key × Addr × Value),
      Paired (fun (p : List Key × V) (q : List Key × Addr × Value) => p.1 = q.1 ∧ H q.2.1 = some (.tup (p.1.map kV)) ∧ RelV p.2 q.2.2) kvs xs ∧
      ∃ o es ep, h.get? a = some o ∧ o.ExactDict ∧ o.data = .dict es ep ∧ es.toList = xs.map (entryOfKey (tupleKind (mixKind P w))) ∧ (xs.map (·.1)).Nodup
  | .set S n => h.SetOf (intKind P w) a S n
  | .ins C dx fs => H dx = some (.own a) ∧ fs.length ≤ 1000 ∧ dx ≠ a ∧ h.get? a = some (PySem.W.instObj C dx) ∧
      ∃ mA, h.Ns1 dx mA ∧ (∀ f, RelO (fs.lookup f) (mA f)) ∧ PySem.Within mA (fs.map (·.1))
  | .own _ => ∃ o, h.get? a = some o
  | .xd fs => ∃ mA, h.Ns1 a mA ∧ ∀ f, RelO (fs.lookup f) (mA f)
  | .rng lo hi => ∃ t u v, h.get? a = some { cls := .type "range", data := .fields #[.int lo t, .int hi u, .int 1 v] }
  | .frz o u => h.get? a = some o ∧ ObjOk H h a u
  | .tbl ps => h.get? a = some { cls := .none, data := .fields ps }
  | .met f x => h.get? a = some (PySem.W.methodObj (.ref f) (.ref x))
  | .ext φ => φ h ∧ (∃ o, h.get? a = some o) ∧ ∀ h1 h2 : Heap, φ h1 → (∀ o, h1.get? a = some o → h2.get? a = some o) → φ h2
noncomputable def HOk (H : Hp) (h : Heap) : Prop := ∀ a o, H a = some o → ObjOk P w H h a o
end

section
variable {P : Program} {w : World} {H H' : Hp} {h h' : Heap} {a : Addr} {o : HO}
theorem ObjOk.lt (x : ObjOk P w H h a o) : a < h.objs.size := by
  cases o with
  | lst xs => obtain ⟨_, _, _, _, e⟩ := x; exact Heap.lt_size e
  | tup xs => obtain ⟨_, _, _, p, _⟩ := x; exact p.lt
  | dK kvs => obtain ⟨_, _, _, _, o, _, _, e, _⟩ := x; exact Heap.lt_size e
  | dT kvs => obtain ⟨_, _, _, _, o, _, _, e, _⟩ := x; exact Heap.lt_size e
  | set S n => obtain ⟨o, _, _, _, e, _⟩ := x; exact Heap.lt_size e
  | ins C dx fs => obtain ⟨_, _, _, e, _⟩ := x; exact Heap.lt_size e
  | own y => obtain ⟨_, e⟩ := x; exact Heap.lt_size e
  | xd fs => obtain ⟨_, ⟨_, _, _, e, _⟩, _⟩ := x; exact Heap.lt_size e
  | rng lo hi => obtain ⟨_, _, _, e⟩ := x; exact Heap.lt_size e
  | frz ob u => obtain ⟨e, _⟩ := x; exact Heap.lt_size e
  | tbl ps => exact Heap.lt_size (show h.get? a = some _ from x)
  | met f y => exact Heap.lt_size (show h.get? a = some _ from x)
  | ext φ => obtain ⟨_, ⟨_, e⟩, _⟩ := x; exact Heap.lt_size e
theorem Paired.mapP {α β : Type} {F G : α → β → Prop} : ∀ {l₁ : List α} {l₂ : List β}, Paired F l₁ l₂ → (∀ a b, F a b → G a b) → Paired G l₁ l₂
  | _, _, .nil, _ => .nil
  | _, _, .cons r t, f => .cons (f _ _ r) (Paired.mapP t f)
theorem ObjOk.stay (x : ObjOk P w H h a o) (k : ∀ b u, (b = a ∨ H b = some (.own a)) → h.get? b = some u → h'.get? b = some u)
    (ho : ∀ b, H b = some (.own a) → H' b = some (.own a)) (ht : ∀ b xs, H b = some (.tup xs) → H' b = some (.tup xs)) : ObjOk P w H' h' a o := by
  induction o with
  | lst xs => obtain ⟨z, its, n, r, e⟩ := x; exact ⟨z, its, n, r, k _ _ (.inl rfl) e⟩
  | tup xs => obtain ⟨z, its, r, ⟨ob, e, c⟩, ob2, e2, c2⟩ := x; exact ⟨z, its, r, ⟨ob, k _ _ (.inl rfl) e, c⟩, ob2, k _ _ (.inl rfl) e2, c2⟩
  | dK kvs => obtain ⟨z, y, vs, r, ob, es, ep, e, c⟩ := x; exact ⟨z, y, vs, r, ob, es, ep, k _ _ (.inl rfl) e, c⟩
  | dT kvs =>
    obtain ⟨z, y, xs, r, ob, es, ep, e, c⟩ := x
    exact ⟨z, y, xs, Paired.mapP r fun p q z => ⟨z.1, ht _ _ z.2.1, z.2.2⟩, ob, es, ep, k _ _ (.inl rfl) e, c⟩
  | set S n => obtain ⟨ob, es, ep, t, e, c⟩ := x; exact ⟨ob, es, ep, t, k _ _ (.inl rfl) e, c⟩
  | ins C dx fs =>
    obtain ⟨d, z, ne, e, mA, ⟨od, es, ep, e2, c⟩, r⟩ := x
    exact ⟨ho _ d, z, ne, k _ _ (.inl rfl) e, mA, ⟨od, es, ep, k _ _ (.inr d) e2, c⟩, r⟩
  | own y => obtain ⟨ob, e⟩ := x; exact ⟨ob, k _ _ (.inl rfl) e⟩
  | xd fs => obtain ⟨mA, ⟨od, es, ep, e, c⟩, r⟩ := x; exact ⟨mA, ⟨od, es, ep, k _ _ (.inl rfl) e, c⟩, r⟩
  | rng lo hi => obtain ⟨t, u, v, e⟩ := x; exact ⟨t, u, v, k _ _ (.inl rfl) e⟩
  | frz ob u ih => obtain ⟨e, q⟩ := x; exact ⟨k _ _ (.inl rfl) e, ih q⟩
  | tbl ps =>
    have e : h.get? a = some { cls := .none, data := .fields ps } := x
    show h'.get? a = some { cls := .none, data := .fields ps }
    exact k a _ (.inl rfl) e
  | met f y =>
    have e : h.get? a = some (PySem.W.methodObj (.ref f) (.ref y)) := x
    show h'.get? a = some (PySem.W.methodObj (.ref f) (.ref y))
    exact k a _ (.inl rfl) e
  | ext φ => obtain ⟨p, ⟨o, e⟩, st⟩ := x; exact ⟨st _ _ p fun o q => k _ _ (.inl rfl) q, ⟨o, k _ _ (.inl rfl) e⟩, st⟩
theorem HOk.lt (x : HOk P w H h) (e : H a = some o) : a < h.objs.size := (x a o e).lt
theorem HOk.fresh (x : HOk P w H h) (e : h.objs.size ≤ a) : H a = none := by
  cases q : H a with
  | none => rfl
  | some u => exact absurd (Nat.lt_of_lt_of_le (x.lt q) e) (Nat.lt_irrefl _)
theorem HOk.kept (x : HOk P w H h) (k : ∀ b u, h.get? b = some u → h'.get? b = some u) : HOk P w H h' := fun a o e =>
  (x a o e).stay (fun b u _ q => k b u q) (fun _ q => q) fun _ _ q => q
theorem HOk.laid (x : HOk P w H h) (k : ∀ b u, h.get? b = some u → h'.get? b = some u) (hp : h.objs.size ≤ a) (new : ObjOk P w (upd H a o) h' a o) : HOk P w (upd H a o) h' := fun b u e => by
  have hn := x.fresh hp
  by_cases hb : b = a
  · subst hb; rw [upd_same] at e; cases e; exact new
  · rw [upd_ne hb] at e
    exact (x b u e).stay (fun c v _ q => k c v q) (fun c q => by rw [upd_ne (ne_of_none q hn)]; exact q) fun c xs q => by rw [upd_ne (ne_of_none q hn)]; exact q
end

noncomputable def Rd (H : Hp) (a : Addr) (u : HO) : Prop := H a = some u ∨ ∃ o, H a = some (.frz o u)
theorem Rd.of {H : Hp} {a : Addr} {u : HO} (h : H a = some u) : Rd H a u := .inl h
theorem Rd.ok {P : Program} {w : World} {H : Hp} {h : Heap} {a : Addr} {u : HO} (r : Rd H a u) (x : HOk P w H h) : ObjOk P w H h a u := by
  rcases r with r | ⟨o, r⟩
  · exact x a u r
  · obtain ⟨_, q⟩ := x a _ r
    exact q
noncomputable def Mut : Option HO → Prop
  | some (.lst _) => True
  | some (.dK _) => True
  | some (.dT _) => True
  | some (.set _ _) => True
  | some (.ins _ _ _) => True
  | some (.ext _) => True
  | _ => False
section
variable {P : Program} {w : World} {H : Hp} {h h' : Heap} {x e : Addr} {o' : HO}
theorem HOk.write (ok : HOk P w H h) (mu : Mut (H x)) (he : e = x ∨ H e = some (.own x)) (k : ∀ b u, b ≠ e → h.get? b = some u → h'.get? b = some u) (heo : ∃ u, h'.get? e = some u)
    (new : ObjOk P w (upd H x o') h' x o') : HOk P w (upd H x o') h' := fun b u q => by
  have nown : ∀ c y, H c = some (.own y) → c ≠ x := fun c y r z => by subst z; rw [r] at mu; exact mu
  have ntup : ∀ c xs, H c = some (.tup xs) → c ≠ x := fun c xs r z => by subst z; rw [r] at mu; exact mu
  by_cases hb : b = x
  · subst hb; rw [upd_same] at q; cases q; exact new
  · rw [upd_ne hb] at q
    by_cases hbe : b = e
    · have q' : H b = some (.own x) := by
        rcases he with z | z
        · exact absurd (hbe.trans z) hb
        · rw [hbe]; exact z
      rw [q] at q'; cases q'
      obtain ⟨v, hv⟩ := heo
      exact ⟨v, by rw [hbe]; exact hv⟩
    · refine (ok b u q).stay (fun c v hc r => k c v ?_ r) (fun c r => by rw [upd_ne (nown c b r)]; exact r) fun c xs r => by rw [upd_ne (ntup c xs r)]; exact r
      rcases hc with rfl | hc
      · exact hbe
      · rintro rfl
        rcases he with z | z
        · exact nown c b hc z
        · rw [hc] at z; cases z; exact hb rfl
end

structure Un (fs ex : List Addr) (H H' : Hp) (h h' : Heap) : Prop where
  keep : ∀ b o, h.get? b = some o → H b = none → b ∉ fs → b ∉ ex → h'.get? b = some o
  slot : ∀ b o, h.get? b = some o → H b = none → b ∈ fs → b ∉ ex → ∃ sl, h'.get? b = some { o with slots := sl }
  free : ∀ b o, h.get? b = some o → H b = none → b ∉ ex → H' b = none
  there : ∀ b o, h.get? b = some o → b ∉ ex → ∃ o', h'.get? b = some o'
  tups : ∀ b xs, H b = some (.tup xs) → H' b = some (.tup xs)
  frzs : ∀ b o u, H b = some (.frz o u) → H' b = some (.frz o u)
  tbls : ∀ b ps, H b = some (.tbl ps) → ∃ more, H' b = some (.tbl (ps ++ more))
section
variable {fs fs' ex ex' : List Addr} {H H1 H2 : Hp} {h h1 h2 h' : Heap} {a x e : Addr} {o : HO}
theorem Un.any (u : Un fs ex H H1 h h1) {b : Addr} {ob : Obj} (q : h.get? b = some ob) (n : H b = none) (hx : b ∉ ex) : ∃ sl, h1.get? b = some { ob with slots := sl } := by
  by_cases hb : b ∈ fs
  · exact u.slot b ob q n hb hx
  · exact ⟨ob.slots, u.keep b ob q n hb hx⟩
theorem Un.trans (a : Un fs ex H H1 h h1) (b : Un fs ex H1 H2 h1 h2) : Un fs ex H H2 h h2 where
  keep := fun c ob q n hc hx => b.keep c ob (a.keep c ob q n hc hx) (a.free c ob q n hx) hc hx
  slot := fun c ob q n hc hx => by
    obtain ⟨sl, e1⟩ := a.slot c ob q n hc hx
    obtain ⟨sl', e2⟩ := b.slot c _ e1 (a.free c ob q n hx) hc hx
    exact ⟨sl', e2⟩
  free := fun c ob q n hx => by
    obtain ⟨o', e1⟩ := a.there c ob q hx
    exact b.free c o' e1 (a.free c ob q n hx) hx
  there := fun c ob q hx => by
    obtain ⟨o', e1⟩ := a.there c ob q hx
    exact b.there c o' e1 hx
  tups := fun c xs q => b.tups c xs (a.tups c xs q)
  frzs := fun c ob xs q => b.frzs c ob xs (a.frzs c ob xs q)
  tbls := fun c ps q => by
    obtain ⟨m1, e1⟩ := a.tbls c ps q
    obtain ⟨m2, e2⟩ := b.tbls c _ e1
    exact ⟨m1 ++ m2, by rw [e2, Array.append_assoc]⟩
theorem Un.kept (k : ∀ b u, h.get? b = some u → h'.get? b = some u) : Un fs ex H H h h' :=
  ⟨fun b ob q _ _ _ => k b ob q, fun b ob q _ _ _ => ⟨ob.slots, k b ob q⟩, fun _ _ _ n _ => n, fun b ob q _ => ⟨ob, k b ob q⟩, fun _ _ q => q, fun _ _ _ q => q, fun _ ps q => ⟨#[], by rw [q]; simp⟩⟩
theorem Un.refl : Un fs ex H H h h := Un.kept fun _ _ q => q
theorem Un.laid (k : ∀ b u, h.get? b = some u → h'.get? b = some u) (hp : h.objs.size ≤ a) (hn : H a = none) : Un fs ex H (upd H a o) h h' where
  keep := fun b u q _ _ _ => k b u q
  slot := fun b u q _ _ _ => ⟨u.slots, k b u q⟩
  free := fun b u q n _ => by rw [upd_ne (Nat.ne_of_lt (Nat.lt_of_lt_of_le (Heap.lt_size q) hp))]; exact n
  there := fun b u q _ => ⟨u, k b u q⟩
  tups := fun b xs q => by rw [upd_ne (ne_of_none q hn)]; exact q
  frzs := fun b u xs q => by rw [upd_ne (ne_of_none q hn)]; exact q
  tbls := fun b ps q => ⟨#[], by rw [upd_ne (ne_of_none q hn), q]; simp⟩
theorem Un.write (mu : Mut (H x)) (he : e = x ∨ H e = some (.own x)) (k : ∀ b u, b ≠ e → h.get? b = some u → h'.get? b = some u) (heo : ∃ u, h'.get? e = some u) : Un fs ex H (upd H x o) h h' := by
  have hx : ∀ b, H b = none → b ≠ x := fun b n z => by subst z; rw [n] at mu; exact mu
  have hb : ∀ b, H b = none → b ≠ e := fun b n z => by
    subst z
    rcases he with r | r
    · exact hx b n r
    · rw [n] at r; cases r
  have hm : ∀ b u, H b = some u → ¬ Mut (some u) → b ≠ x := fun b u q nm z => by subst z; rw [q] at mu; exact nm mu
  refine ⟨fun b u q n _ _ => k b u (hb b n) q, fun b u q n _ _ => ⟨u.slots, k b u (hb b n) q⟩, fun b u q n _ => by rw [upd_ne (hx b n)]; exact n, fun b u q _ => ?_,
    fun b xs q => by rw [upd_ne (hm b _ q fun z => z)]; exact q, fun b u xs q => by rw [upd_ne (hm b _ q fun z => z)]; exact q, fun b ps q => ⟨#[], by rw [upd_ne (hm b _ q fun z => z), q]; simp⟩⟩
  by_cases hbe : b = e
  · subst hbe; exact heo
  · exact ⟨u, k b u hbe q⟩
theorem Un.mono (u : Un fs ex H H1 h h1) (hs : ∀ b ∈ fs, b ∈ fs') (hx : ∀ b ∈ ex, b ∈ ex') : Un fs' ex' H H1 h h1 :=
  ⟨fun b ob q n hb he => u.keep b ob q n (fun z => hb (hs b z)) fun z => he (hx b z), fun _ _ q n _ he => u.any q n fun z => he (hx _ z), fun b ob q n he => u.free b ob q n fun z => he (hx b z), fun b ob q he => u.there b ob q fun z => he (hx b z), u.tups, u.frzs, u.tbls⟩
end

noncomputable def trk (h : Heap) (H : Hp) : List Addr := (List.range h.objs.size).filter fun a => (H a).isSome
noncomputable def hidT (h : Heap) (H : Hp) : Heap := PySem.W.hideAll h (trk h H)
theorem hidT_size (h : Heap) (H : Hp) : (hidT h H).objs.size = h.objs.size := PySem.W.hideAll_size _ _
theorem hidT_get {h : Heap} {H : Hp} {b : Addr} {o : Obj} (e : h.get? b = some o) (n : H b = none) : (hidT h H).get? b = some o :=
  PySem.W.hideAll_get _ e fun hm => by
    have q : (H b).isSome = true := (List.mem_filter.mp hm).2
    rw [n] at q; simp at q
theorem of_hidT {h : Heap} {H : Hp} {b : Addr} {o : Obj} (e : (hidT h H).get? b = some o) : h.get? b = some o ∧ H b = none := by
  have e' : h.get? b = some o := PySem.W.of_hideAll (trk h H) e
  refine ⟨e', ?_⟩
  cases q : H b with
  | none => rfl
  | some x =>
    have hm : b ∈ trk h H := List.mem_filter.mpr ⟨List.mem_range.mpr (Heap.lt_size e'), by simp [q]⟩
    have z : (hidT h H).get? b = none := PySem.W.hideAll_none (trk h H) hm
    rw [z] at e; cases e

noncomputable def allNews (g h : Heap) (L : Addr) : List (Addr × Obj) := (List.range h.objs.size).filterMap fun a => if a = L ∨ (g.get? a).isSome = true then none else (h.get? a).map fun o => (a, o)
noncomputable def rest (g h : Heap) (L d : Addr) : List (Addr × Obj) := (allNews g h L).filter fun p => decide (p.1 ≠ d)
end L2

namespace L2
open PySem PySem.Spec PyProof.Rows

structure Mod (K : PySem.W.Frag) (mg : Str → Option Value) (base : Heap) : Prop where
  kin : K.In base
  glob : base.Ns mainGlobals mg
  blt : ∃ mb, base.Ns builtinsNs mb ∧ ∀ x : Str, x ≠ "__name__" → mb x = bootBuiltins x
  nolimit : base.NoLimit

structure Cx where
  prog : Program
  w : World
  K : PySem.W.Frag
  mg : Str → Option Value
  base : Heap
  A : Around
  N : List Str
  s₀ : Shared
  H₀ : Hp
  env : Env
  outer : List Env
  stack : List Env
  ex : List Addr
  fn : Str → Bool
  calm : Bool
  pn : List (Addr × Obj)
  xe : Value → Shared → Prop
noncomputable def frs (l : List Env) : List Addr := l.filterMap (·.frame)
noncomputable abbrev Cx.fs (X : Cx) : List Addr := frs X.outer

noncomputable def Vis (sc : Scope) (x : Str) : Prop := sc.names.lookup x = some .local ∨ sc.names.lookup x = some .cell ∨ sc.names.lookup x = some .free
noncomputable def Loc (sc : Scope) (x : Str) : Prop := sc.names.lookup x = some .local ∨ sc.names.lookup x = some .cell
noncomputable def Look (env : Env) (h : Heap) (m : Str → Option Value) (x : Str) (u : Value) : Prop :=
  (env.kindOf x = some .local ∧ m x = some u) ∨ ((env.kindOf x = some .cell ∨ env.kindOf x = some .free) ∧ ∃ c, env.cells.lookup x = some c ∧ h.IsCell c (some u))

structure Cx.Ok (X : Cx) : Prop where
  mod : Mod X.K X.mg X.base
  kind : X.env.scope.kind = .function
  glob : X.env.globals = mainGlobals
  blt : X.env.builtins = builtinsNs
  above : X.s₀.heap.objs.size ≤ X.env.locals
  inj : ∀ x y c, X.env.cells.lookup x = some c → X.env.cells.lookup y = some c → x = y
  has : ∀ x, (X.env.kindOf x = some .cell ∨ X.env.kindOf x = some .free) → ∃ c, X.env.cells.lookup x = some c
  cab : ∀ x c, X.fn x = true → X.env.cells.lookup x = some c → X.s₀.heap.objs.size ≤ c
  hd : X.calm = true → X.A.handled = none
  frames : X.A.frames = some X.stack
  stk : X.stack = X.outer ∨ (X.stack = X.env :: X.outer ∧ X.env.frame = some X.env.locals)
  exf : ∀ b ∈ X.ex, b ≠ X.env.locals ∧ ∀ x c, X.env.cells.lookup x = some c → c ≠ b
  bs : ∀ b o, X.base.get? b = some o → X.s₀.heap.get? b = some o ∧ X.H₀ b = none
  bsz : X.base.objs.size ≤ X.s₀.heap.objs.size
  noex : ∀ b o, X.base.get? b = some o → b ∉ X.ex
  exfs : ∀ b ∈ X.ex, b ∉ X.fs
  funs : X.s₀.heap.FunFrames X.base X.outer
  frf : ∀ b ∈ X.fs, X.H₀ b = none

structure Inv (X : Cx) (pins : List (Addr × Obj)) (σ : List (Option V)) (H : Hp) (s : Shared) : Prop where
  ok : X.Ok
  os : s.os = X.s₀.os
  bare : AllBare s.gens
  base : Un X.fs X.ex X.H₀ H X.s₀.heap s.heap
  loc : ∃ m, s.heap.Ns X.env.locals m ∧ ∀ (i : Nat) (x : Str) (v : V), X.N[i]? = some x → σ[i]? = some (some v) → Vis X.env.scope x → ∃ u, RelV v u ∧ Look X.env s.heap m x u
  cell : ∀ x c, X.env.cells.lookup x = some c → ∃ v, s.heap.IsCell c v
  free : H X.env.locals = none
  freeC : ∀ x c, X.env.cells.lookup x = some c → H c = none
  pin : ∀ p ∈ X.pn ++ pins, s.heap.get? p.1 = some p.2 ∧ H p.1 = none ∧ p.1 ≠ X.env.locals ∧ p.1 ∉ X.fs ∧ ∀ v, p.2.data ≠ .cell v
  hok : HOk X.prog X.w H s.heap
  len : σ.length = X.N.length

section
variable {X : Cx} {pins : List (Addr × Obj)} {σ : List (Option V)} {H H' : Hp} {s : Shared} {h' : Heap}

theorem Cx.Ok.nofr (ok : X.Ok) {b : Addr} {o : Obj} (e : X.base.get? b = some o) : b ∉ X.fs := fun hb => by
  have := (ok.funs.mem hb).1
  rw [e] at this; cases this
theorem Inv.bs (I : Inv X pins σ H s) : ∀ b o, X.base.get? b = some o → s.heap.get? b = some o ∧ H b = none := fun b o e =>
  ⟨I.base.keep b o (I.ok.bs b o e).1 (I.ok.bs b o e).2 (I.ok.nofr e) (I.ok.noex b o e), I.base.free b o (I.ok.bs b o e).1 (I.ok.bs b o e).2 (I.ok.noex b o e)⟩
theorem Inv.bk (I : Inv X pins σ H s) : ∀ b o, X.base.get? b = some o → s.heap.get? b = some o := fun b o e => (I.bs b o e).1
theorem Inv.mod (I : Inv X pins σ H s) : Mod X.K X.mg X.base := I.ok.mod
theorem Inv.kIn (I : Inv X pins σ H s) : X.K.In s.heap := I.ok.mod.kin.keeps I.bk
theorem Inv.nolimit (I : Inv X pins σ H s) : s.heap.NoLimit := I.ok.mod.nolimit.keeps I.bk
theorem Inv.lt (I : Inv X pins σ H s) : X.env.locals < s.heap.objs.size := let ⟨_, hn, _⟩ := I.loc; hn.lt
theorem Inv.sz (I : Inv X pins σ H s) : X.s₀.heap.objs.size ≤ s.heap.objs.size := Nat.le_trans I.ok.above (Nat.le_of_lt I.lt)
theorem Inv.nofs (I : Inv X pins σ H s) {a : Addr} (h : s.heap.objs.size ≤ a) : a ∉ X.fs := fun hb => by
  obtain ⟨_, o, ho, _⟩ := I.ok.funs.mem hb
  exact absurd (Nat.lt_of_lt_of_le (Heap.lt_size ho) (Nat.le_trans I.sz h)) (Nat.lt_irrefl _)
theorem Inv.cne (I : Inv X pins σ H s) : ∀ x c, X.env.cells.lookup x = some c → c ≠ X.env.locals := fun x c e z => by
  obtain ⟨v, o, ho, hd⟩ := I.cell x c e
  obtain ⟨m, ⟨o', es, ep, ho', hd', _⟩, _⟩ := I.loc
  rw [z, ho'] at ho; cases ho; rw [hd'] at hd; cases hd
theorem Inv.funs (I : Inv X pins σ H s) : s.heap.FunFrames X.base X.outer := by
  have all : ∀ (l : List Env), (∀ b ∈ frs l, b ∈ X.fs) → X.s₀.heap.FunFrames X.base l → s.heap.FunFrames X.base l := by
    intro l
    induction l with
    | nil => intro _ _; trivial
    | cons env r ih =>
      intro hs hl
      obtain ⟨hk, ⟨L, o, hf, hn, ho, hd⟩, hr⟩ := hl
      have hL : L ∈ X.fs := hs L (by unfold frs; rw [List.filterMap_cons, hf]; exact List.mem_cons_self)
      obtain ⟨sl, e⟩ := I.base.slot L o ho (I.ok.frf L hL) hL fun z => I.ok.exfs L z hL
      exact ⟨hk, ⟨L, _, hf, hn, e, hd⟩, ih (fun b hb => hs b (by unfold frs; rw [List.filterMap_cons, hf]; exact List.mem_cons_of_mem _ hb)) hr⟩
  exact all X.outer (fun _ hb => hb) I.ok.funs

theorem Inv.stack (I : Inv X pins σ H s) : s.heap.FunFrames X.base X.stack := by
  rcases I.ok.stk with e | ⟨e, hf⟩
  · rw [e]; exact I.funs
  · rw [e]
    obtain ⟨m, hn, _⟩ := I.loc
    refine .cons (by rw [I.ok.kind]; decide) hf hn ?_ I.funs
    exact Heap.get?_none_of_le (Nat.le_trans I.ok.bsz I.ok.above)
theorem Inv.stkSub (I : Inv X pins σ H s) : ∀ b ∈ frs X.stack, b ∈ X.env.locals :: X.fs := fun b hb => by
  rcases I.ok.stk with e | ⟨e, hf⟩
  · rw [e] at hb; exact List.mem_cons_of_mem _ hb
  · rw [e] at hb
    unfold frs at hb
    rw [List.filterMap_cons, hf] at hb
    exact hb
theorem Inv.stkFree (I : Inv X pins σ H s) : ∀ b ∈ frs X.stack, H b = none := fun b hb => by
  rcases List.mem_cons.mp (I.stkSub b hb) with e | hb
  · rw [e]; exact I.free
  · obtain ⟨_, o, ho, _⟩ := I.ok.funs.mem hb
    exact I.base.free b o ho (I.ok.frf b hb) fun z => I.ok.exfs b z hb

theorem Inv.step {g' : Array GenState} {t' : Nat} {d' : Drawn} {ch : List Addr} (I : Inv X pins σ H s)
    (hch : ∀ b ∈ ch, (b ∈ X.ex ∨ X.s₀.heap.objs.size ≤ b) ∧ b ≠ X.env.locals ∧ (∀ x c, X.env.cells.lookup x = some c → c ≠ b) ∧ ∀ p ∈ X.pn ++ pins, p.1 ≠ b)
    (keep : ∀ b o, b ≠ X.env.locals → b ∉ X.fs → b ∉ ch → s.heap.get? b = some o → H b = none → h'.get? b = some o)
    (slot : ∀ b o, b ≠ X.env.locals → b ∈ X.fs → b ∉ ch → s.heap.get? b = some o → H b = none → ∃ sl, h'.get? b = some { o with slots := sl }) (free : ∀ b o, b ∉ ch → s.heap.get? b = some o → H b = none → H' b = none)
    (there : ∀ b o, b ∉ ch → s.heap.get? b = some o → ∃ o', h'.get? b = some o')
    (tups : ∀ b xs, H b = some (.tup xs) → H' b = some (.tup xs)) (frzs : ∀ b o u, H b = some (.frz o u) → H' b = some (.frz o u)) (tbls : ∀ b ps, H b = some (.tbl ps) → ∃ more, H' b = some (.tbl (ps ++ more)))
    (ns : ∀ m, s.heap.Ns X.env.locals m → h'.Ns X.env.locals m) (hok : HOk X.prog X.w H' h') (hg : AllBare g') :
    Inv X pins σ H' { s with heap := h', gens := g', drawn := d', toks := t' } := by
  have neL : ∀ b o, X.s₀.heap.get? b = some o → b ≠ X.env.locals := fun b o e => Nat.ne_of_lt (Nat.lt_of_lt_of_le (Heap.lt_size e) I.ok.above)
  have neC : ∀ b o, X.s₀.heap.get? b = some o → b ∉ X.ex → b ∉ ch := fun b o e hx hb => by
    rcases (hch b hb).1 with z | z
    · exact hx z
    · exact absurd (Nat.lt_of_lt_of_le (Heap.lt_size e) z) (Nat.lt_irrefl _)
  have cellK : ∀ x c, X.env.cells.lookup x = some c → ∀ v, s.heap.IsCell c v → h'.IsCell c v := fun x c e v ⟨o, ho, hd⟩ => by
    have nch : c ∉ ch := fun z => (hch c z).2.2.1 x c e rfl
    by_cases hc : c ∈ X.fs
    · obtain ⟨sl, q⟩ := slot c o (I.cne x c e) hc nch ho (I.freeC x c e)
      exact ⟨_, q, hd⟩
    · exact ⟨o, keep c o (I.cne x c e) hc nch ho (I.freeC x c e), hd⟩
  refine ⟨I.ok, I.os, hg, ⟨fun b o e n hb hx => ?_, fun b o e n hb hx => ?_, fun b o e n hx => ?_, fun b o e hx => ?_, fun b xs e => tups b xs (I.base.tups b xs e), fun b o xs e => frzs b o xs (I.base.frzs b o xs e), fun b ps e => ?_⟩, ?_, fun x c e => ?_, ?_, fun x c e => ?_, fun p hp => ?_, hok, I.len⟩
  · exact keep b o (neL b o e) hb (neC b o e hx) (I.base.keep b o e n hb hx) (I.base.free b o e n hx)
  · obtain ⟨sl, e1⟩ := I.base.slot b o e n hb hx
    obtain ⟨sl', e2⟩ := slot b _ (neL b o e) hb (neC b o e hx) e1 (I.base.free b o e n hx)
    exact ⟨sl', e2⟩
  · obtain ⟨o', e1⟩ := I.base.there b o e hx
    exact free b o' (neC b o e hx) e1 (I.base.free b o e n hx)
  · obtain ⟨o', e1⟩ := I.base.there b o e hx
    exact there b o' (neC b o e hx) e1
  · obtain ⟨m1, e1⟩ := I.base.tbls b ps e
    obtain ⟨m2, e2⟩ := tbls b _ e1
    exact ⟨m1 ++ m2, by rw [e2, Array.append_assoc]⟩
  · obtain ⟨m, hn, hl⟩ := I.loc
    refine ⟨m, ns m hn, fun i x v e1 e2 e3 => ?_⟩
    obtain ⟨u, r, l⟩ := hl i x v e1 e2 e3
    refine ⟨u, r, ?_⟩
    rcases l with l | ⟨k, c, e, z⟩
    · exact .inl l
    · exact .inr ⟨k, c, e, cellK x c e _ z⟩
  · obtain ⟨v, z⟩ := I.cell x c e
    exact ⟨v, cellK x c e v z⟩
  · obtain ⟨m, ⟨o, _, _, ho, _⟩, _⟩ := I.loc
    exact free _ o (fun z => (hch _ z).2.1 rfl) ho I.free
  · obtain ⟨v, o, ho, hd⟩ := I.cell x c e
    exact free c o (fun z => (hch c z).2.2.1 x c e rfl) ho (I.freeC x c e)
  · obtain ⟨e, n, ne, nf, d⟩ := I.pin p hp
    have nch : p.1 ∉ ch := fun z => (hch p.1 z).2.2.2 p hp rfl
    exact ⟨keep p.1 p.2 ne nf nch e n, free p.1 p.2 nch e n, ne, nf, d⟩
theorem Inv.un {t' : Nat} (I : Inv X pins σ H s) (u : Un X.fs [] H H' s.heap h') (hok : HOk X.prog X.w H' h') : Inv X pins σ H' { s with heap := h', toks := t' } := by
  obtain ⟨m, ⟨o, es, ep, ho, r⟩, _⟩ := id I.loc
  obtain ⟨sl, hL⟩ := u.any ho I.free (by simp)
  exact I.step (g' := s.gens) (d' := s.drawn) (ch := []) (fun _ z => nomatch z) (fun b o _ hb _ e n => u.keep b o e n hb (by simp)) (fun b o _ hb _ e n => u.slot b o e n hb (by simp)) (fun b o _ e n => u.free b o e n (by simp)) (fun b o _ e => u.there b o e (by simp)) u.tups u.frzs u.tbls (fun m' hm => by
    obtain ⟨o', es', ep', ho', r'⟩ := hm
    rw [ho] at ho'; cases ho'
    exact ⟨_, es', ep', hL, r'⟩) hok I.bare
theorem Inv.call {g' : Array GenState} {t' : Nat} {d' : Drawn} {ch : List Addr} (I : Inv X pins σ H s) (u : Un (frs X.stack) ch H H' s.heap h') (hok : HOk X.prog X.w H' h') (hg : AllBare g')
    (hch : ∀ b ∈ ch, (b ∈ X.ex ∨ X.s₀.heap.objs.size ≤ b) ∧ b ≠ X.env.locals ∧ (∀ x c, X.env.cells.lookup x = some c → c ≠ b) ∧ ∀ p ∈ X.pn ++ pins, p.1 ≠ b) :
    Inv X pins σ H' { s with heap := h', gens := g', drawn := d', toks := t' } := by
  obtain ⟨m, ⟨o, es, ep, ho, r⟩, _⟩ := id I.loc
  obtain ⟨sl, hL⟩ := u.any ho I.free fun z => (hch _ z).2.1 rfl
  exact I.step (ch := ch) hch (fun b o hL hb hc e n => u.keep b o e n (fun z => (List.mem_cons.mp (I.stkSub b z)).elim hL hb) hc) (fun b o _ _ hc e n => u.any e n hc) (fun b o hc e n => u.free b o e n hc) (fun b o hc e => u.there b o e hc) u.tups u.frzs u.tbls (fun m' hm => by
    obtain ⟨o', es', ep', ho', r'⟩ := hm
    rw [ho] at ho'; cases ho'
    exact ⟨_, es', ep', hL, r'⟩) hok hg
theorem Inv.turned {t' : Nat} {it : Addr} (I : Inv X pins σ H s) (k : ∀ b o, b ≠ it → s.heap.get? b = some o → h'.get? b = some o) (hn : H it = none) (hL : it ≠ X.env.locals)
    (h1 : it ∈ X.ex ∨ X.s₀.heap.objs.size ≤ it) (h2 : ∀ x c, X.env.cells.lookup x = some c → c ≠ it) (h3 : ∀ p ∈ X.pn ++ pins, p.1 ≠ it) : Inv X pins σ H { s with heap := h', toks := t' } := by
  have nit : ∀ b u, H b = some u → b ≠ it := fun b u e z => by rw [z, hn] at e; cases e
  refine I.step (g' := s.gens) (d' := s.drawn) (ch := [it]) (fun b hb => ?_) (fun b o _ _ hc e _ => k b o (fun z => hc (by simp [z])) e) (fun b o _ _ hc e _ => ⟨o.slots, k b o (fun z => hc (by simp [z])) e⟩) (fun _ _ _ _ n => n)
    (fun b o hc e => ⟨o, k b o (fun z => hc (by simp [z])) e⟩) (fun _ _ e => e) (fun _ _ _ e => e) (fun b ps e => ⟨#[], by rw [e]; simp⟩) (fun m hm => ?_) (fun b u e => ?_) I.bare
  · have e : b = it := by simpa using hb
    subst e
    exact ⟨h1, hL, h2, h3⟩
  · obtain ⟨o, es, ep, ho, r⟩ := hm
    exact ⟨o, es, ep, k _ o (Ne.symm hL) ho, r⟩
  · refine (I.hok b u e).stay (fun c v hc q => k c v ?_ q) (fun _ q => q) fun _ _ q => q
    rcases hc with z | z
    · rw [z]; exact nit b u e
    · exact nit c _ z
theorem Inv.tok (I : Inv X pins σ H s) (t : Nat) : Inv X pins σ H { s with toks := t } := I.un (h' := s.heap) (t' := t) Un.refl I.hok
theorem Inv.kept {t' : Nat} (I : Inv X pins σ H s) (k : ∀ b u, s.heap.get? b = some u → h'.get? b = some u) : Inv X pins σ H { s with heap := h', toks := t' } := I.un (Un.kept k) (I.hok.kept k)
theorem Inv.laid {a : Addr} {o : HO} {t' : Nat} (I : Inv X pins σ H s) (k : ∀ b u, s.heap.get? b = some u → h'.get? b = some u) (hp : s.heap.objs.size ≤ a) (new : ObjOk X.prog X.w (upd H a o) h' a o) :
    Inv X pins σ (upd H a o) { s with heap := h', toks := t' } := I.un (Un.laid k hp (I.hok.fresh hp)) (I.hok.laid k hp new)
theorem Inv.write {x e : Addr} {o : HO} {t' : Nat} (I : Inv X pins σ H s) (mu : Mut (H x)) (he : e = x ∨ H e = some (.own x)) (k : ∀ b u, b ≠ e → s.heap.get? b = some u → h'.get? b = some u) (heo : ∃ u, h'.get? e = some u)
    (new : ObjOk X.prog X.w (upd H x o) h' x o) : Inv X pins σ (upd H x o) { s with heap := h', toks := t' } := I.un (Un.write mu he k heo) (I.hok.write mu he k heo new)
theorem Inv.pins_of {pins' : List (Addr × Obj)} (I : Inv X pins σ H s) (h : ∀ p ∈ pins', s.heap.get? p.1 = some p.2 ∧ H p.1 = none ∧ p.1 ≠ X.env.locals ∧ p.1 ∉ X.fs ∧ ∀ v, p.2.data ≠ .cell v) : Inv X pins' σ H s :=
  ⟨I.ok, I.os, I.bare, I.base, I.loc, I.cell, I.free, I.freeC, fun p hp => (List.mem_append.mp hp).elim (fun z => I.pin p (List.mem_append_left _ z)) (h p), I.hok, I.len⟩

theorem nodup_ix {N : List Str} (hN : N.Nodup) {i j : Nat} {x : Str} (a : N[i]? = some x) (b : N[j]? = some x) : i = j := by
  obtain ⟨h1, e1⟩ := List.getElem?_eq_some_iff.mp a
  obtain ⟨h2, e2⟩ := List.getElem?_eq_some_iff.mp b
  exact (List.getElem_inj hN).mp (e1.trans e2.symm)

theorem store_ok2 {M : Model} {A : Around} {E : Value → Shared → Prop} {i : Nat} {x : Str} {v : V} {u : Value} {Q : Unit → Shared → Prop} (I : Inv X pins σ H s) (hN : X.N.Nodup) (hi : X.N[i]? = some x) (hx : Loc X.env.scope x) (r : RelV v u)
    (h : ∀ s', Inv X pins (σ.set i (some v)) H s' → (∃ a, Heap.SameBut a s.heap s'.heap ∧ (a = X.env.locals ∨ X.env.cells.lookup x = some a)) → Q () s') (hf : X.fn x = true ∨ X.env.scope.names.lookup x = some .local := by first | exact .inl rfl | exact .inr rfl | assumption) : wpAny M A (storeName X.env x u) Q E s := by
  obtain ⟨m, hn, hl⟩ := id I.loc
  have hcls : (X.env.scope.kind == .class || (X.env.scope.kind == .module && X.env.locals != X.env.globals)) = false := by rw [I.ok.kind]; rfl
  have hiσ : i < σ.length := by rw [I.len]; exact (List.getElem?_eq_some_iff.mp hi).1
  have cne := I.cne
  have tracked : ∀ {a : Addr} {h' : Heap}, (∃ o, s.heap.get? a = some o ∧ H a = none) → Heap.SameBut a s.heap h' → HOk X.prog X.w H h' := fun {a h'} ha hs b ob e => by
    obtain ⟨_, _, hfree⟩ := ha
    refine (I.hok b ob e).stay (fun c w' hc q => (hs.2 c ?_).trans q) (fun _ q => q) fun _ _ q => q
    rintro rfl
    rcases hc with rfl | hc
    · rw [hfree] at e; cases e
    · rw [hfree] at hc; cases hc
  rcases hx with hk | hk
  · refine wpAny_storeName_local hk hn (fun h' hn' hs => ?_) hcls
    obtain ⟨oL, _, _, hoL, _⟩ := id hn
    refine h _ ⟨I.ok, I.os, I.bare, ⟨fun b o e n hb hx => ?_, fun b o e n hb hx => ?_, I.base.free, fun b o e hx => ?_, I.base.tups, I.base.frzs, I.base.tbls⟩, ⟨_, hn', fun j y v' e1 e2 e3 => ?_⟩, fun y c e => ?_, I.free, I.freeC, fun p hp => ?_, tracked ⟨oL, hoL, I.free⟩ hs, by simpa using I.len⟩ ⟨_, hs, .inl rfl⟩
    · exact (hs.2 b (Nat.ne_of_lt (Nat.lt_of_lt_of_le (Heap.lt_size e) I.ok.above))).trans (I.base.keep b o e n hb hx)
    · obtain ⟨sl, e1⟩ := I.base.slot b o e n hb hx
      exact ⟨sl, (hs.2 b (Nat.ne_of_lt (Nat.lt_of_lt_of_le (Heap.lt_size e) I.ok.above))).trans e1⟩
    · obtain ⟨o', e1⟩ := I.base.there b o e hx
      exact ⟨o', (hs.2 b (Nat.ne_of_lt (Nat.lt_of_lt_of_le (Heap.lt_size e) I.ok.above))).trans e1⟩
    · by_cases hj : j = i
      · subst hj
        rw [hi] at e1; cases e1
        rw [List.getElem?_set_self hiσ] at e2
        cases e2
        exact ⟨u, r, .inl ⟨hk, by simp⟩⟩
      · rw [List.getElem?_set_ne (Ne.symm hj)] at e2
        obtain ⟨u', r', q⟩ := hl j y v' e1 e2 e3
        refine ⟨u', r', ?_⟩
        rcases q with ⟨k, e⟩ | ⟨k, c, e, z⟩
        · refine .inl ⟨k, ?_⟩
          have : y ≠ x := fun e => hj (nodup_ix hN e1 (e ▸ hi))
          simp [this, e]
        · exact .inr ⟨k, c, e, z.sameBut hs (cne y c e)⟩
    · obtain ⟨w', z⟩ := I.cell y c e
      exact ⟨w', z.sameBut hs (cne y c e)⟩
    · obtain ⟨e, n, ne, nf, d⟩ := I.pin p hp
      exact ⟨(hs.2 p.1 ne).trans e, n, ne, nf, d⟩
  · have hfn : X.fn x = true := by
      rcases hf with z | z
      · exact z
      · rw [z] at hk; cases hk
    obtain ⟨c, hc⟩ := I.ok.has x (.inl hk)
    obtain ⟨w', z⟩ := I.cell x c hc
    refine wpAny_storeName_cell I.ok.kind hk hc z (fun h' hc' hs => ?_)
    obtain ⟨oc, hoc, hocd⟩ := id z
    refine h { s with heap := h' } ⟨I.ok, I.os, I.bare, ⟨fun b o e n hb hx => ?_, fun b o e n hb hx => ?_, I.base.free, fun b o e hx => ?_, I.base.tups, I.base.frzs, I.base.tbls⟩, ⟨m, hn.sameBut hs (Ne.symm (cne x c hc)), fun j y v' e1 e2 e3 => ?_⟩, fun y c' e => ?_, I.free, I.freeC, fun p hp => ?_, tracked ⟨oc, hoc, I.freeC x c hc⟩ hs, by simpa using I.len⟩ ⟨c, hs, .inr hc⟩
    · exact (hs.2 b (Nat.ne_of_lt (Nat.lt_of_lt_of_le (Heap.lt_size e) (I.ok.cab x c hfn hc)))).trans (I.base.keep b o e n hb hx)
    · obtain ⟨sl, e1⟩ := I.base.slot b o e n hb hx
      exact ⟨sl, (hs.2 b (Nat.ne_of_lt (Nat.lt_of_lt_of_le (Heap.lt_size e) (I.ok.cab x c hfn hc)))).trans e1⟩
    · obtain ⟨o', e1⟩ := I.base.there b o e hx
      exact ⟨o', (hs.2 b (Nat.ne_of_lt (Nat.lt_of_lt_of_le (Heap.lt_size e) (I.ok.cab x c hfn hc)))).trans e1⟩
    · by_cases hj : j = i
      · subst hj
        rw [hi] at e1; cases e1
        rw [List.getElem?_set_self hiσ] at e2
        cases e2
        exact ⟨u, r, .inr ⟨.inl hk, c, hc, hc'⟩⟩
      · rw [List.getElem?_set_ne (Ne.symm hj)] at e2
        obtain ⟨u', r', q⟩ := hl j y v' e1 e2 e3
        refine ⟨u', r', ?_⟩
        rcases q with q | ⟨k, c', e, z'⟩
        · exact .inl q
        · refine .inr ⟨k, c', e, z'.sameBut hs ?_⟩
          rintro rfl
          exact hj (nodup_ix hN e1 (I.ok.inj _ _ _ e hc ▸ hi))
    · by_cases hcc : c' = c
      · subst hcc; exact ⟨_, hc'⟩
      · obtain ⟨w2, z2⟩ := I.cell y c' e
        exact ⟨w2, z2.sameBut hs hcc⟩
    · obtain ⟨e, n, ne, nf, d⟩ := I.pin p hp
      refine ⟨(hs.2 p.1 ?_).trans e, n, ne, nf, d⟩
      intro q
      rw [q, hoc] at e
      have q' : oc = p.2 := Option.some.inj e
      exact d w' (by rw [← q']; exact hocd)
theorem store_ok {M : Model} {A : Around} {E : Value → Shared → Prop} {i : Nat} {x : Str} {v : V} {u : Value} {Q : Unit → Shared → Prop} (I : Inv X pins σ H s) (hN : X.N.Nodup) (hi : X.N[i]? = some x) (hx : Loc X.env.scope x) (r : RelV v u)
    (h : ∀ s', Inv X pins (σ.set i (some v)) H s' → Q () s') (hf : X.fn x = true ∨ X.env.scope.names.lookup x = some .local := by first | exact .inl rfl | exact .inr rfl | assumption) : wpAny M A (storeName X.env x u) Q E s :=
  store_ok2 I hN hi hx r (fun s' I' _ => h s' I') hf
theorem Inv.call' {s' : Shared} {ch : List Addr} (I : Inv X pins σ H s) (ho : s'.os = s.os) (u : Un (frs X.stack) ch H H' s.heap s'.heap) (hok : HOk X.prog X.w H' s'.heap) (hg : AllBare s'.gens)
    (hch : ∀ b ∈ ch, (b ∈ X.ex ∨ X.s₀.heap.objs.size ≤ b) ∧ b ≠ X.env.locals ∧ (∀ x c, X.env.cells.lookup x = some c → c ≠ b) ∧ ∀ p ∈ X.pn ++ pins, p.1 ≠ b) : Inv X pins σ H' s' := by
  obtain ⟨h', g', d', t', o'⟩ := s'
  have e : o' = s.os := ho
  subst e
  exact I.call (g' := g') (t' := t') (d' := d') u hok hg hch
end

noncomputable abbrev XK := Value → Option Addr → Hp → Prop
noncomputable abbrev St := List (Option V)
noncomputable abbrev VK := V → Hp → Prop
noncomputable abbrev TE := St → Hp → VK → Prop
noncomputable abbrev TT := St → Hp → (Bool → Hp → Prop) → Prop
noncomputable abbrev TA := St → Hp → (List V → Hp → Prop) → Prop
structure Ends where
  nx : St → Hp → Prop
  rt : VK
  bk : St → Hp → Prop := fun _ _ => False
  ct : St → Hp → Prop := fun _ _ => False
noncomputable abbrev TS := Ends → St → Hp → Prop

noncomputable def EP (X : Cx) (pins : List (Addr × Obj)) (σ : St) (Q : VK) (u : Value) (s' : Shared) : Prop := ∃ v H', Inv X pins σ H' s' ∧ RelV v u ∧ Q v H'
noncomputable def TP (X : Cx) (pins : List (Addr × Obj)) (σ : St) (Q : Bool → Hp → Prop) (b : Bool) (s' : Shared) : Prop := ∃ H', Inv X pins σ H' s' ∧ Q b H'
noncomputable def AP (X : Cx) (pins : List (Addr × Obj)) (σ : St) (Q : List V → Hp → Prop) (us : List Value) (s' : Shared) : Prop := ∃ vs H', Inv X pins σ H' s' ∧ Vals vs us ∧ Q vs H'
noncomputable def SP (X : Cx) (pins : List (Addr × Obj)) (D : Ends) (f : Flow) (s' : Shared) : Prop :=
  match f with
  | .next => ∃ σ' H', Inv X pins σ' H' s' ∧ D.nx σ' H'
  | .brk => ∃ σ' H', Inv X pins σ' H' s' ∧ D.bk σ' H'
  | .cont => ∃ σ' H', Inv X pins σ' H' s' ∧ D.ct σ' H'
  | .ret u => ∃ v σ' H', Inv X pins σ' H' s' ∧ RelV v u ∧ D.rt v H'

noncomputable def PE (X : Cx) (e : Expr) (t : TE) : Prop :=
  ∀ (pins : List (Addr × Obj)) (s : Shared) (σ : St) (H : Hp) (Q : VK), Inv X pins σ H s → t σ H Q → wpAny (model X.prog X.w) X.A (eval e X.env) (EP X pins σ Q) X.xe s
noncomputable def PT (X : Cx) (e : Expr) (t : TT) : Prop :=
  ∀ (pins : List (Addr × Obj)) (s : Shared) (σ : St) (H : Hp) (Q : Bool → Hp → Prop), Inv X pins σ H s → t σ H Q → wpAny (model X.prog X.w) X.A (isTrue e X.env (eval e X.env)) (TP X pins σ Q) X.xe s
noncomputable def PW (X : Cx) (e : Expr) (t : TT) : Prop :=
  ∀ (whole : Sem Value) (pins : List (Addr × Obj)) (s : Shared) (σ : St) (H : Hp) (Q : Bool → Hp → Prop), Inv X pins σ H s → t σ H Q → wpAny (model X.prog X.w) X.A (isTrue e X.env whole) (TP X pins σ Q) X.xe s
theorem PW.pt {X : Cx} {e : Expr} {t : TT} (h : PW X e t) : PT X e t := h _
noncomputable def PA (X : Cx) (es : List Expr) (t : TA) : Prop :=
  ∀ (pos : Pos) (pins : List (Addr × Obj)) (s : Shared) (σ : St) (H : Hp) (Q : List V → Hp → Prop), Inv X pins σ H s → t σ H Q → wpAny (model X.prog X.w) X.A (spliced (backTo pos (starEach es X.env))) (AP X pins σ Q) X.xe s
noncomputable def PS (X : Cx) (st : Stmt) (t : TS) : Prop :=
  ∀ (pins : List (Addr × Obj)) (s : Shared) (σ : St) (H : Hp) (D : Ends), Inv X pins σ H s → t D σ H → wpAny (model X.prog X.w) X.A (exec st X.env) (SP X pins D) X.xe s
noncomputable def PSs (X : Cx) (st : List Stmt) (t : TS) : Prop :=
  ∀ (pins : List (Addr × Obj)) (s : Shared) (σ : St) (H : Hp) (D : Ends), Inv X pins σ H s → t D σ H → wpAny (model X.prog X.w) X.A (execs st X.env) (SP X pins D) X.xe s
theorem thn {α : Type} {t : Sem α} {Q Q' : α → Shared → Prop} {M : Model} {A : Around} {E : Value → Shared → Prop} {s : Shared} (h : wpAny M A t Q E s) (hQ : ∀ a s, Q a s → Q' a s) : wpAny M A t Q' E s := wpAny_mono h hQ fun _ _ x => x
end L2

namespace L2
open PySem PySem.Spec PyProof.Rows
section
variable {X : Cx}

inductive VarR (i : Nat) (σ : St) (H : Hp) (Q : VK) : Prop
  | mk (v : V) (e : σ[i]? = some (some v)) (q : Q v H) : VarR i σ H Q
noncomputable def tVar (i : Nat) : TE := fun σ H Q => VarR i σ H Q
inductive BlR (x : V) (H : Hp) (Q : Bool → Hp → Prop) : Prop
  | mk (c : Bool) (e : x = .bl c) (q : Q c H) : BlR x H Q
noncomputable def tC (v : V) : TE := fun _ H Q => Q v H
theorem pe_var {i : Nat} {x : Str} {pos : Pos} (hN : X.N[i]? = some x) (hv : Vis X.env.scope x) (hd : (x == ("__debug__" : Str)) = false := by decide) (hcd : (x == ("__classdict__" : Str)) = false := by decide) : PE X (.Name x pos) (tVar i) := by
  intro pins s σ H Q I h
  obtain ⟨v, e, h⟩ := h
  obtain ⟨m, hn, hl⟩ := I.loc
  obtain ⟨u, r, l⟩ := hl i x v hN e hv
  have fin : EP X pins σ Q u s := ⟨v, H, I, r, h⟩
  rcases l with ⟨hk, hm⟩ | ⟨hk, c, hc, hcell⟩
  · exact wpAny_Name (wpAny_loadName_local I.ok.kind hk hn hm fin) hd
  · rcases hk with hk | hk
    · exact wpAny_Name (wpAny_loadName_cell I.ok.kind hk hc hcell fin) hd
    · exact wpAny_Name (wpAny_loadName_free I.ok.kind hk hc hcell fin hcd) hd
theorem pe_int {i j pos} : PE X (.Constant (.int i) j pos) (tC (.int i)) := fun _ _ _ H _ I h => wpAny_Constant_int ⟨.int i, H, I.tok _, ⟨_, rfl⟩, h⟩
theorem pe_bl {b j pos} : PE X (.Constant (.bool b) j pos) (tC (.bl b)) := fun _ _ _ H _ I h => Constant_bool ⟨.bl b, H, I, rfl, h⟩
theorem pe_non {j pos} : PE X (.Constant .none j pos) (tC .non) := fun _ _ _ H _ I h => Constant_none ⟨.non, H, I, rfl, h⟩
theorem pe_str {x j pos} : PE X (.Constant (.str x) j pos) (tC (.str x)) := fun _ _ _ H _ I h => Calls.Constant_str ⟨.str x, H, I.tok _, ⟨_, rfl⟩, h⟩

noncomputable def Gl (X : Cx) (x : Str) : Prop := X.env.kindOf x = some .globalImplicit
theorem ld_glob {E : Value → Shared → Prop} {pins : List (Addr × Obj)} {s : Shared} {σ : St} {H : Hp} {x : Str} {u : Value} {pos : Pos} {Q : Value → Shared → Prop} (I : Inv X pins σ H s) (hg : Gl X x) (hm : X.mg x = some u) (h : Q u s)
    (hd : (x == ("__debug__" : Str)) = false := by decide) : wpAny (model X.prog X.w) X.A (eval (.Name x pos) X.env) Q E s :=
  Calls.Name_function_global I.ok.kind hg (Calls.loadGlobal_global (by rw [I.ok.glob]; exact I.mod.glob.keeps I.bk) hm h) hd
theorem ld_blt {E : Value → Shared → Prop} {pins : List (Addr × Obj)} {s : Shared} {σ : St} {H : Hp} {x : Str} {u : Value} {pos : Pos} {Q : Value → Shared → Prop} (I : Inv X pins σ H s) (hg : Gl X x) (hm : X.mg x = none) (hv : bootBuiltins x = some u) (h : Q u s)
    (hn : x ≠ "__name__" := by decide) (hd : (x == ("__debug__" : Str)) = false := by decide) : wpAny (model X.prog X.w) X.A (eval (.Name x pos) X.env) Q E s := by
  obtain ⟨mb, h1, h2⟩ := I.mod.blt
  exact Calls.Name_function_global I.ok.kind hg (Calls.loadGlobal_builtin (by rw [I.ok.glob]; exact I.mod.glob.keeps I.bk) hm (by rw [I.ok.blt]; exact h1.keeps I.bk) ((h2 x hn).trans hv) h) hd
theorem pe_bltn {x : Str} {v : V} {u : Value} {pos : Pos} (hg : Gl X x) (hm : X.mg x = none) (hv : bootBuiltins x = some u) (r : RelV v u) (hn : x ≠ "__name__" := by decide) (hd : (x == ("__debug__" : Str)) = false := by decide) : PE X (.Name x pos) (tC v) :=
  fun _ _ _ H _ I h => ld_blt I hg hm hv ⟨v, H, I, r, h⟩ hn hd

variable {a b : Expr} {ta tb : TE} {pos : Pos}
noncomputable def PC (X : Cx) (op : CmpOp) (a b : Expr) (t : TE) : Prop :=
  ∀ (pins : List (Addr × Obj)) (s : Shared) (σ : St) (H : Hp) (Q : VK), Inv X pins σ H s → t σ H Q →
    wpAny (model X.prog X.w) X.A (eval a X.env) (fun v s₁ => wpAny (model X.prog X.w) X.A (eval b X.env) (fun u s₂ => wpAny (model X.prog X.w) X.A (compareOp op v u) (EP X pins σ Q) X.xe s₂) X.xe s₁) X.xe s
theorem nobehind (b : Expr) {op : CmpOp} (h : op ≠ .In) (h2 : op ≠ .NotIn) : behindInMarks op b = false := by
  have e1 : (op == CmpOp.In) = false := by cases op <;> first | rfl | exact absurd rfl h
  have e2 : (op == CmpOp.NotIn) = false := by cases op <;> first | rfl | exact absurd rfl h2
  cases b <;> simp [behindInMarks, e1, e2]
noncomputable def tIsN (ta : TE) : TE := fun σ H Q => ta σ H fun x H1 => Q (.bl (decide (x = .non))) H1
theorem RelV.none_iff {x : V} {v : Value} (r : RelV x v) : (v == Value.none) = decide (x = .non) := by
  cases x with
  | non => cases r; rfl
  | bl _ => cases r; rfl
  | int _ => obtain ⟨t, rfl⟩ := r; rfl
  | str _ => obtain ⟨t, rfl⟩ := r; rfl
  | byt _ => obtain ⟨t, rfl⟩ := r; rfl
  | flt _ => obtain ⟨t, rfl⟩ := r; rfl
  | ref _ => cases r; rfl
  | ty _ => cases r; rfl
theorem pc_isN {j pos'} (ha : PE X a ta) : PC X .Is a (.Constant .none j pos') (tIsN ta) := by
  intro pins s σ H Q I h
  refine thn (ha pins s σ H _ I h) fun v s1 ⟨x, H1, I1, r1, q1⟩ => ?_
  exact Constant_none (is_none_gen ⟨.bl _, H1, I1, by rw [r1.none_iff]; rfl, q1⟩)
noncomputable def tB (t : TE) : TT := fun σ H Q => t σ H fun x H1 => BlR x H1 Q
theorem pt_cmp {op : CmpOp} {t : TE} (h : PC X op a b t) (h1 : behindInMarks op b = false := by first | exact nobehind _ (by decide) (by decide) | rfl) : PT X (.Compare a [op] [b] pos) (tB t) := by
  intro pins s σ H Q I hw
  refine wpAny_isTrue_Compare1 (thn (h pins s σ H _ I hw) fun v s1 h1 => thn h1 fun u s2 h2 => thn h2 fun c s3 ⟨x, H1, I1, r1, q1⟩ => ?_) h1
  obtain ⟨d, rfl, q⟩ := q1
  cases r1
  exact wpAny_truthy_bool ⟨H1, I1, q⟩
theorem pt_val {e : Expr} {t : TE} (h : PE X e t) (he : ∀ whole, isTrue e X.env whole = (do let v ← whole; standAt e.pos; holding [v] (truthy v)) := by intro _; rfl) : PT X e (tB t) := by
  intro pins s σ H Q I hw
  refine isTrue_plain (thn (h pins s σ H _ I hw) fun v s1 ⟨x, H1, I1, r1, q1⟩ => ?_) (he _)
  obtain ⟨d, rfl, q⟩ := q1
  cases r1
  exact wpAny_truthy_bool ⟨H1, I1, q⟩

variable {tA tB' : TT} {rest : List Expr}
noncomputable def tAnd (t u : TT) : TT := fun σ H Q => t σ H fun c H1 => if c = true then u σ H1 Q else Q false H1
noncomputable def tOr (t u : TT) : TT := fun σ H Q => t σ H fun c H1 => if c = true then Q true H1 else u σ H1 Q
noncomputable def tNot (t : TT) : TT := fun σ H Q => t σ H fun c H1 => Q (!c) H1
theorem pw_and1 (ha : PT X a tA) : PW X (.BoolOp .And [a] pos) tA := by
  intro wh pins s σ H Q I h
  refine isTrue_and (thn (ha pins s σ H Q I h) fun c s1 e => ?_)
  cases c with
  | true => exact isTrue_and_nil e
  | false => exact e
theorem pw_or1 (ha : PT X a tA) : PW X (.BoolOp .Or [a] pos) tA := by
  intro wh pins s σ H Q I h
  refine isTrue_or (thn (ha pins s σ H Q I h) fun c s1 e => ?_)
  cases c with
  | false => exact isTrue_or_nil e
  | true => exact e
theorem pw_and (ha : PT X a tA) (hb : PW X (.BoolOp .And (b :: rest) pos) tB') : PW X (.BoolOp .And (a :: b :: rest) pos) (tAnd tA tB') := by
  intro wh pins s σ H Q I h
  refine isTrue_and (thn (ha pins s σ H _ I h) fun c s1 ⟨H1, I1, q1⟩ => ?_)
  cases c with
  | true => exact hb wh pins s1 σ H1 Q I1 q1
  | false => exact ⟨H1, I1, q1⟩
theorem pw_or (ha : PT X a tA) (hb : PW X (.BoolOp .Or (b :: rest) pos) tB') : PW X (.BoolOp .Or (a :: b :: rest) pos) (tOr tA tB') := by
  intro wh pins s σ H Q I h
  refine isTrue_or (thn (ha pins s σ H _ I h) fun c s1 ⟨H1, I1, q1⟩ => ?_)
  cases c with
  | true => exact ⟨H1, I1, q1⟩
  | false => exact hb wh pins s1 σ H1 Q I1 q1
theorem pt_not (ha : PT X a tA) : PT X (.UnaryOp .Not a pos) (tNot tA) := by
  intro pins s σ H Q I h
  exact isTrue_not (ha pins s σ H (fun c H1 => Q (!c) H1) I h)
noncomputable def tAndV (ta tb : TE) : TE := fun σ H Q => ta σ H fun x H1 => ∃ c, x = .bl c ∧ if c = true then tb σ H1 Q else Q (.bl false) H1
noncomputable def tOrV (ta tb : TE) : TE := fun σ H Q => ta σ H fun x H1 => ∃ c, x = .bl c ∧ if c = true then Q (.bl true) H1 else tb σ H1 Q
noncomputable def tNotV (ta : TE) : TE := fun σ H Q => ta σ H fun x H1 => ∃ c, x = .bl c ∧ Q (.bl (!c)) H1
theorem pe_one {op} {t : TE} (h : PE X a t) : PE X (.BoolOp op [a] pos) t := fun pins s σ H Q I hw => BoolOp_one (h pins s σ H Q I hw)
theorem pe_and (ha : PE X a ta) (hb : PE X (.BoolOp .And (b :: rest) pos) tb) : PE X (.BoolOp .And (a :: b :: rest) pos) (tAndV ta tb) := by
  intro pins s σ H Q I h
  refine BoolOp_and (thn (ha pins s σ H _ I h) fun v s1 ⟨x, H1, I1, r1, q1⟩ => ?_)
  obtain ⟨c, rfl, q1⟩ := q1
  cases r1
  refine wpAny_truthy_bool ?_
  cases c with
  | true => exact hb pins s1 σ H1 Q I1 q1
  | false => exact ⟨.bl false, H1, I1, rfl, q1⟩
theorem pe_or (ha : PE X a ta) (hb : PE X (.BoolOp .Or (b :: rest) pos) tb) : PE X (.BoolOp .Or (a :: b :: rest) pos) (tOrV ta tb) := by
  intro pins s σ H Q I h
  refine BoolOp_or (thn (ha pins s σ H _ I h) fun v s1 ⟨x, H1, I1, r1, q1⟩ => ?_)
  obtain ⟨c, rfl, q1⟩ := q1
  cases r1
  refine wpAny_truthy_bool ?_
  cases c with
  | false => exact hb pins s1 σ H1 Q I1 q1
  | true => exact ⟨.bl true, H1, I1, rfl, q1⟩
theorem pe_not (ha : PE X a ta) : PE X (.UnaryOp .Not a pos) (tNotV ta) := by
  intro pins s σ H Q I h
  refine UnaryOp_ (thn (ha pins s σ H _ I h) fun v s1 ⟨x, H1, I1, r1, q1⟩ => ?_)
  obtain ⟨c, rfl, q1⟩ := q1
  cases r1
  exact not_of (wpAny_truthy_bool ⟨.bl (!c), H1, I1, rfl, q1⟩)
noncomputable def tIf (t : TT) (ta tb : TE) : TE := fun σ H Q => t σ H fun c H1 => if c = true then ta σ H1 Q else tb σ H1 Q
theorem pe_ifExp {c : Expr} (hc : PT X c tA) (ha : PE X a ta) (hb : PE X b tb) : PE X (.IfExp c a b pos) (tIf tA ta tb) := by
  intro pins s σ H Q I h
  refine wpAny_IfExp (thn (hc pins s σ H _ I h) fun d s1 ⟨H1, I1, q1⟩ => ?_)
  cases d with
  | true => exact ha pins s1 σ H1 Q I1 q1
  | false => exact hb pins s1 σ H1 Q I1 q1
end
end L2

namespace L2
open PySem PySem.Spec PyProof.Rows

noncomputable def SqL (K : PySem.W.Frag) (H : Hp) (a : Addr) (xs : List V) : Prop :=
  Rd H a (.lst xs) ∨
    ∃ (o : Obj) (its : Array Value) (n : Nat), K.lookup a = some o ∧ o.cls = .type "list" ∧ o.dict = none ∧ o.data = .seq its n ∧ its.size ≤ sizeLine ∧ Vals xs its.toList
noncomputable def SqT (K : PySem.W.Frag) (H : Hp) (a : Addr) (xs : List V) : Prop :=
  Rd H a (.tup xs) ∨
    ∃ (o : Obj) (its : Array Value) (n : Nat), K.lookup a = some o ∧ o.cls = .type "tuple" ∧ o.data = .seq its n ∧ its.size ≤ sizeLine ∧ Vals xs its.toList
noncomputable def absV : Value → Option V
  | .none => some .non
  | .bool b => some (.bl b)
  | .int i _ => some (.int i)
  | .str x _ => some (.str x)
  | .bytes b _ => some (.byt b)
  | .float b _ => some (.flt b)
  | .ref a => some (.ref a)
  | .type n => some (.ty n)
  | _ => none
theorem RelV.abs {x : V} {u : Value} (r : RelV x u) : absV u = some x := by
  cases x with
  | non => cases r; rfl
  | bl _ => cases r; rfl
  | int _ => obtain ⟨t, rfl⟩ := r; rfl
  | str _ => obtain ⟨t, rfl⟩ := r; rfl
  | byt _ => obtain ⟨t, rfl⟩ := r; rfl
  | flt _ => obtain ⟨t, rfl⟩ := r; rfl
  | ref _ => cases r; rfl
  | ty _ => cases r; rfl
theorem RelV.inj {x y : V} {u : Value} (r : RelV x u) (q : RelV y u) : x = y := Option.some.inj (r.abs.symm.trans q.abs)
theorem Vals.inj : ∀ {xs ys : List V} {us : List Value}, Vals xs us → Vals ys us → xs = ys
  | _, _, _, .nil, .nil => rfl
  | _, _, _, .cons r t, .cons r' t' => by rw [r.inj r', Vals.inj t t']
section
variable {X : Cx} {pins : List (Addr × Obj)} {σ : St} {H : Hp} {s : Shared} {a : Addr} {xs ys : List V}
theorem SqL.of {K : PySem.W.Frag} (h : H a = some (.lst xs)) : SqL K H a xs := .inl (.inl h)
theorem SqT.of {K : PySem.W.Frag} (h : H a = some (.tup xs)) : SqT K H a xs := .inl (.inl h)
theorem Inv.list (I : Inv X pins σ H s) (h : SqL X.K H a xs) : ∃ its : List Value, Vals xs its ∧ PlainL s.heap a its.toArray ∧ xs.length ≤ sizeLine := by
  rcases h with h | ⟨o, its, n, hk, hc, hd, hs, hz, r⟩
  · obtain ⟨z, its, n, r, e⟩ := h.ok I.hok
    exact ⟨its, r, ⟨_, n, e, rfl, rfl, rfl⟩, z⟩
  · refine ⟨its.toList, r, ⟨o, n, I.kIn a o hk, hc, hd, by simpa using hs⟩, ?_⟩
    have e := r.length
    simp only [Array.length_toList] at e
    omega
theorem Inv.tuple (I : Inv X pins σ H s) (h : SqT X.K H a xs) : ∃ its : List Value, Vals xs its ∧ IsTup s.heap a its.toArray ∧ xs.length ≤ sizeLine := by
  rcases h with h | ⟨o, its, n, hk, hc, hs, hz, r⟩
  · obtain ⟨z, its, r, p, _⟩ := h.ok I.hok
    exact ⟨its, r, p, z⟩
  · refine ⟨its.toList, r, ⟨o, I.kIn a o hk, hc, n, by simpa using hs⟩, ?_⟩
    have e := r.length
    simp only [Array.length_toList] at e
    omega
theorem Inv.list_inj (I : Inv X pins σ H s) (h : SqL X.K H a xs) (h' : SqL X.K H a ys) : xs = ys := by
  obtain ⟨its, r, ⟨o, n, e, _, _, d⟩, _⟩ := I.list h
  obtain ⟨its', r', ⟨o', n', e', _, _, d'⟩, _⟩ := I.list h'
  rw [e] at e'; cases e'
  rw [d] at d'
  injection d' with d1 _
  have : its = its' := by simpa using congrArg Array.toList d1
  subst this
  exact r.inj r'
theorem Inv.tuple_inj (I : Inv X pins σ H s) (h : SqT X.K H a xs) (h' : SqT X.K H a ys) : xs = ys := by
  obtain ⟨its, r, ⟨o, e, _, n, d⟩, _⟩ := I.tuple h
  obtain ⟨its', r', ⟨o', e', _, n', d'⟩, _⟩ := I.tuple h'
  rw [e] at e'; cases e'
  rw [d] at d'
  injection d' with d1 _
  have : its = its' := by simpa using congrArg Array.toList d1
  subst this
  exact r.inj r'
end

noncomputable abbrev Cx.wish (X : Cx) (E : Value → Shared → Prop) : Cx := { X with xe := E }
noncomputable abbrev Cx.nox (X : Cx) : Cx := X.wish fun _ _ => False
theorem Cx.Ok.wish {X : Cx} (ok : X.Ok) (E : Value → Shared → Prop) : (X.wish E).Ok :=
  ⟨ok.mod, ok.kind, ok.glob, ok.blt, ok.above, ok.inj, ok.has, ok.cab, ok.hd, ok.frames, ok.stk, ok.exf, ok.bs, ok.bsz, ok.noex, ok.exfs, ok.funs, ok.frf⟩
theorem Cx.Ok.unwish {X : Cx} {E : Value → Shared → Prop} (ok : (X.wish E).Ok) : X.Ok :=
  ⟨ok.mod, ok.kind, ok.glob, ok.blt, ok.above, ok.inj, ok.has, ok.cab, ok.hd, ok.frames, ok.stk, ok.exf, ok.bs, ok.bsz, ok.noex, ok.exfs, ok.funs, ok.frf⟩
section
variable {X : Cx} {pins : List (Addr × Obj)} {σ : St} {H : Hp} {s : Shared} {E : Value → Shared → Prop}
theorem Inv.wish (I : Inv X pins σ H s) (E : Value → Shared → Prop) : Inv (X.wish E) pins σ H s := ⟨I.ok.wish E, I.os, I.bare, I.base, I.loc, I.cell, I.free, I.freeC, I.pin, I.hok, I.len⟩
theorem Inv.unwish (I : Inv (X.wish E) pins σ H s) : Inv X pins σ H s := ⟨I.ok.unwish, I.os, I.bare, I.base, I.loc, I.cell, I.free, I.freeC, I.pin, I.hok, I.len⟩
theorem SP.unwish {D : Ends} {f : Flow} {s' : Shared} (h : SP (X.wish E) pins D f s') : SP X pins D f s' := by
  cases f with
  | next => obtain ⟨σ', H', I, q⟩ := h; exact ⟨σ', H', I.unwish, q⟩
  | brk => obtain ⟨σ', H', I, q⟩ := h; exact ⟨σ', H', I.unwish, q⟩
  | cont => obtain ⟨σ', H', I, q⟩ := h; exact ⟨σ', H', I.unwish, q⟩
  | ret u => obtain ⟨v, σ', H', I, r, q⟩ := h; exact ⟨v, σ', H', I.unwish, r, q⟩
theorem PE.nox {e : Expr} {t : TE} (h : PE X.nox e t) : PE X e t := fun pins s σ H Q I hw =>
  wpAny_mono (h pins s σ H Q (I.wish _) hw) (fun _ _ ⟨v, H', I', r, q⟩ => ⟨v, H', I'.unwish, r, q⟩) fun _ _ z => False.elim z
theorem PT.nox {e : Expr} {t : TT} (h : PT X.nox e t) : PT X e t := fun pins s σ H Q I hw =>
  wpAny_mono (h pins s σ H Q (I.wish _) hw) (fun _ _ ⟨H', I', q⟩ => ⟨H', I'.unwish, q⟩) fun _ _ z => False.elim z
theorem PSs.nox {st : List Stmt} {t : TS} (h : PSs X.nox st t) : PSs X st t := fun pins s σ H D I hw =>
  wpAny_mono (h pins s σ H D (I.wish _) hw) (fun _ _ q => q.unwish) fun _ _ z => False.elim z
end

section
variable {X : Cx} {st : Stmt} {rest : List Stmt} {t u : TS} {e : Expr} {te : TE} {pos : Pos}
noncomputable def tNext : TS := fun D σ H => D.nx σ H
noncomputable def tSeq (t u : TS) : TS := fun D σ H => t { D with nx := u D } σ H
theorem pss_nil : PSs X [] tNext := fun _ _ σ H _ I h => wpAny_execs_nil ⟨σ, H, I, h⟩
theorem pss_cons (h1 : PS X st t) (h2 : PSs X rest u) : PSs X (st :: rest) (tSeq t u) := by
  intro pins s σ H D I h
  refine wpAny_execs_cons (thn (h1 pins s σ H { D with nx := u D } I h) fun f s1 q => ?_)
  cases f with
  | next =>
    obtain ⟨σ', H', I', q⟩ := q
    exact h2 pins s1 σ' H' D I' q
  | ret v => exact q
  | brk => exact q
  | cont => exact q
theorem pss_one (h1 : PS X st t) : PSs X [st] t := by
  intro pins s σ H D I h
  refine wpAny_execs_cons (thn (h1 pins s σ H D I h) fun f s1 q => ?_)
  cases f with
  | next => exact wpAny_execs_nil q
  | ret v => exact q
  | brk => exact q
  | cont => exact q
theorem Inv.quiet {pins : List (Addr × Obj)} {σ : St} {H : Hp} {s : Shared} (I : Inv X pins σ H s) : interactive X.env = false := by simp [interactive, I.ok.kind]
noncomputable def tDrop (te : TE) : TS := fun D σ H => te σ H fun _ H1 => D.nx σ H1
theorem ps_expr (he : PE X e te) (hs : swapsWith e none pos.line X.env = pure false := by rfl) : PS X (.Expr e pos) (tDrop te) := by
  intro pins s σ H D I h
  exact wpAny_Expr_any (thn (he pins s σ H _ I h) fun v s1 ⟨x, H1, I1, r1, q1⟩ => ⟨σ, H1, I1, q1⟩) I.quiet hs
noncomputable def tRet (te : TE) : TS := fun D σ H => te σ H D.rt
theorem ps_ret (he : PE X e te) : PS X (.Return (some e) pos) (tRet te) := by
  intro pins s σ H D I h
  exact wpAny_Return_some (thn (he pins s σ H _ I h) fun v s1 ⟨x, H1, I1, r1, q1⟩ => ⟨x, σ, H1, I1, r1, q1⟩)
noncomputable def tIfS (c : TT) (t u : TS) : TS := fun D σ H => c σ H fun b H1 => if b = true then t D σ H1 else u D σ H1
theorem ps_if {c : Expr} {a b : List Stmt} {tc : TT} (hc : PT X c tc) (ha : PSs X a t) (hb : PSs X b u) : PS X (.If c a b pos) (tIfS tc t u) := by
  intro pins s σ H D I h
  refine wpAny_If (thn (hc pins s σ H _ I h) fun d s1 ⟨H1, I1, q1⟩ => ?_)
  cases d with
  | true => exact ha pins s1 σ H1 D I1 q1
  | false => exact hb pins s1 σ H1 D I1 q1
noncomputable def tNever : TS := fun _ _ _ => False
theorem ps_never : PS X st tNever := fun _ _ _ _ _ _ h => h.elim
theorem pss_never {sts : List Stmt} : PSs X sts tNever := fun _ _ _ _ _ _ h => h.elim
end

noncomputable abbrev TG := V → St → Hp → (St → Hp → Prop) → Prop
noncomputable abbrev TGs := List V → St → Hp → (St → Hp → Prop) → Prop
noncomputable def PG (X : Cx) (target : Expr) (t : TG) : Prop :=
  ∀ (pins : List (Addr × Obj)) (s : Shared) (σ : St) (H : Hp) (v : V) (u : Value) (Q : St → Hp → Prop), Inv X pins σ H s → RelV v u → t v σ H Q →
    wpAny (model X.prog X.w) X.A (assign target X.env u) (fun _ s' => ∃ σ' H', Inv X pins σ' H' s' ∧ Q σ' H') X.xe s
noncomputable def PGs (X : Cx) (ts : List Expr) (t : TGs) : Prop :=
  ∀ (pins : List (Addr × Obj)) (s : Shared) (σ : St) (H : Hp) (vs : List V) (us : List Value) (Q : St → Hp → Prop), Inv X pins σ H s → Vals vs us → t vs σ H Q →
    wpAny (model X.prog X.w) X.A (assignInOrder ((assignEach ts X.env).map (·.2)) us) (fun _ s' => ∃ σ' H', Inv X pins σ' H' s' ∧ Q σ' H') X.xe s
noncomputable abbrev TSet := V → V → V → Hp → (Hp → Prop) → Prop
noncomputable def PSet (X : Cx) (t : TSet) : Prop :=
  ∀ (pins : List (Addr × Obj)) (s : Shared) (σ : St) (H : Hp) (o i v : V) (ov iv u : Value) (Q : Hp → Prop), Inv X pins σ H s → RelV o ov → RelV i iv → RelV v u → t o i v H Q →
    wpAny (model X.prog X.w) X.A (setItem ov iv u) (fun _ s' => ∃ H', Inv X pins σ H' s' ∧ Q H') X.xe s
section
variable {X : Cx} {pos : Pos}
noncomputable def gName (i : Nat) : TG := fun v σ H Q => Q (σ.set i (some v)) H
theorem pg_name {i : Nat} {x : Str} (hN : X.N.Nodup) (hi : X.N[i]? = some x) (hx : Loc X.env.scope x) (hf : X.fn x = true ∨ X.env.scope.names.lookup x = some .local := by first | exact .inl rfl | exact .inr rfl | assumption) : PG X (.Name x pos) (gName i) := by
  intro pins s σ H v u Q I r h
  exact wpAny_assign_Name (store_ok I hN hi hx r (fun s' I' => ⟨_, H, I', h⟩) hf)
inductive GNilR (vs : List V) (σ : St) (H : Hp) (Q : St → Hp → Prop) : Prop
  | mk (e : vs = []) (q : Q σ H) : GNilR vs σ H Q
noncomputable def gNil : TGs := fun vs σ H Q => GNilR vs σ H Q
inductive GConsR (t : TG) (u : TGs) (vs : List V) (σ : St) (H : Hp) (Q : St → Hp → Prop) : Prop
  | mk (v : V) (r : List V) (e : vs = v :: r) (q : t v σ H fun σ' H' => u r σ' H' Q) : GConsR t u vs σ H Q
noncomputable def gCons (t : TG) (u : TGs) : TGs := fun vs σ H Q => GConsR t u vs σ H Q
theorem pgs_nil : PGs X [] gNil := by
  intro pins s σ H vs us Q I r h
  obtain ⟨e, h⟩ := h
  subst e
  cases r
  exact assignInOrder_nil ⟨σ, H, I, h⟩
theorem pgs_cons {e : Expr} {es : List Expr} {t : TG} {u : TGs} (h1 : PG X e t) (h2 : PGs X es u)
    (hs : (assignEach (e :: es) X.env).map (·.2) = assign e X.env :: (assignEach es X.env).map (·.2) := by rfl) : PGs X (e :: es) (gCons t u) := by
  intro pins s σ H vs us Q I r h
  obtain ⟨v, vr, e1, h⟩ := h
  subst e1
  cases r with
  | cons r rr =>
    rw [hs]
    refine assignInOrder_cons (thn (h1 pins s σ H _ _ _ I r h) fun _ s1 ⟨σ1, H1, I1, q1⟩ => ?_)
    exact h2 pins s1 σ1 H1 _ _ Q I1 rr q1
inductive GTupR (K : PySem.W.Frag) (n : Nat) (t : TGs) (v : V) (σ : St) (H : Hp) (Q : St → Hp → Prop) : Prop
  | mk (a : Addr) (xs : List V) (e : v = .ref a) (s : SqT K H a xs) (l : xs.length = n) (q : t xs σ H Q) : GTupR K n t v σ H Q
noncomputable def gTup (K : PySem.W.Frag) (n : Nat) (t : TGs) : TG := fun v σ H Q => GTupR K n t v σ H Q
theorem pg_tup {es : List Expr} {k : Nat} {t : TGs} {n : Nat} (hc : X.calm = true) (h : PGs X es t)
    (hn : (assignEach es X.env).length = n := by rfl) (hst : (assignEach es X.env).findIdx? (·.1) = none := by rfl) : PG X (.Tuple es k pos) (gTup X.K n t) := by
  intro pins s σ H v u Q I r hw
  obtain ⟨a, xs, e1, hq, hl, hw⟩ := hw
  subst e1
  cases r
  obtain ⟨its, rv, ht, hz⟩ := I.tuple hq
  refine assign_Tuple_tuple (I.ok.hd hc) ht (by simp [hn, ← hl, rv.length]) hst fun h' hx => ?_
  have I1 : Inv X pins σ H { s with heap := h' } := I.kept (t' := s.toks) fun b o e => hx b o (Nat.ne_of_lt (Heap.lt_size e)) e
  exact h pins _ σ H xs _ Q I1 (by simpa using rv) hw
noncomputable def gSub (to ti : TE) (t : TSet) : TG := fun v σ H Q => to σ H fun o H1 => ti σ H1 fun i H2 => t o i v H2 fun H3 => Q σ H3
theorem pg_sub {o i : Expr} {to ti : TE} {t : TSet} (ho : PE X o to) (hi : PE X i ti) (hs : PSet X t)
    (ha : ∀ v, assign (.Subscript o i pos) X.env v = (do
      let ov ← holding [v] (eval o X.env)
      let iv ← holding [v, ov] (eval i X.env)
      standAt pos
      holding [v, ov, iv] (setItem ov iv v)
      release [v, ov, iv] []) := by intro _; rfl) : PG X (.Subscript o i pos) (gSub to ti t) := by
  intro pins s σ H v u Q I r h
  rw [ha]
  refine wpAny_bind (wpAny_holding (thn (ho pins s σ H _ I h) fun ov s1 ⟨x, H1, I1, r1, q1⟩ => ?_))
  refine wpAny_bind (wpAny_holding (thn (hi pins s1 σ H1 _ I1 q1) fun iv s2 ⟨y, H2, I2, r2, q2⟩ => ?_))
  refine wpAny_bind (wpAny_standAt (wpAny_bind (wpAny_holding (thn (hs pins s2 σ H2 x y v ov iv u _ I2 r1 r2 r q2) fun _ s3 ⟨H3, I3, q3⟩ => ?_))))
  exact wpAny_release ⟨σ, H3, I3, q3⟩
noncomputable def tAsg (te : TE) (g : TG) : TS := fun D σ H => te σ H fun x H1 => g x σ H1 D.nx
theorem ps_asg {tg e : Expr} {te : TE} {g : TG} (he : PE X e te) (hg : PG X tg g) (hs : swapsWithSole [tg] e pos.line X.env = pure false := by rfl) (hw : swappedStores [tg] e X.env = pure none := by rfl)
    (h1 : (assignEach [tg] X.env).map (·.2) = [assign tg X.env] := by rfl) : PS X (.Assign [tg] e pos) (tAsg te g) := by
  intro pins s σ H D I h
  refine wpAny_Assign_stores (thn (he pins s σ H _ I h) fun v s1 ⟨x, H1, I1, r1, q1⟩ => ?_) hs hw
  rw [h1]
  exact thn (hg pins s1 σ H1 x v _ I1 r1 q1) fun _ s2 q => q
theorem ps_set {i : Nat} {x : Str} {e : Expr} {te : TE} {pos' : Pos} (hN : X.N.Nodup) (hi : X.N[i]? = some x) (hx : Loc X.env.scope x) (he : PE X e te) (hs : swapsWith e (some (.Name x pos')) pos.line X.env = pure false := by rfl) (hf : X.fn x = true ∨ X.env.scope.names.lookup x = some .local := by first | exact .inl rfl | exact .inr rfl | assumption) :
    PS X (.Assign [.Name x pos'] e pos) (tAsg te (gName i)) := by
  intro pins s σ H D I h
  refine wpAny_Assign_Name (thn (he pins s σ H _ I h) fun v s1 ⟨y, H1, I1, r1, q1⟩ => ?_) hs
  exact store_ok I1 hN hi hx r1 (fun s2 I2 => ⟨_, H1, I2, q1⟩) hf
end

section
variable {X : Cx} {pos : Pos}
noncomputable def tWhile (c : TT) (tb : TS) : TS := fun D σ H => ∃ W : Nat → St → Hp → Prop, (∃ m, W m σ H) ∧ ∀ m σ H, W m σ H →
  c σ H fun b H1 => if b = true then ∃ N : St → Hp → Prop, (∀ σ' H', N σ' H' → ∃ m', m' < m ∧ W m' σ' H') ∧ tb { D with nx := N, ct := N, bk := D.nx } σ H1 else D.nx σ H1
theorem ps_while {c : Expr} {body : List Stmt} {tc : TT} {tb : TS} (hp : PassesOwn (model X.prog X.w) X.A X.env X.xe) (hc : PT X c tc) (hb : PSs X body tb) : PS X (.While c body [] pos) (tWhile tc tb) := by
  intro pins s σ H D I h
  obtain ⟨W, ⟨m0, w0⟩, turn⟩ := h
  refine wpAny_While (codeAny_whileLoop (fun n s' => ∃ σ' H', Inv X pins σ' H' s' ∧ W n σ' H') ?_ m0 ⟨σ, H, I, w0⟩)
  rintro n s1 ⟨σ1, H1, I1, w1⟩
  refine wpAny_passesOwn hp (thn (hc pins s1 σ1 H1 _ I1 (turn n σ1 H1 w1)) fun b s2 ⟨H2, I2, q2⟩ => ?_)
  cases b with
  | true =>
    obtain ⟨N, hN, q2⟩ := q2
    rw [if_pos rfl]
    refine wpAny_passesOwn hp (thn (hb pins s2 σ1 H2 _ I2 q2) fun f s3 q3 => ?_)
    cases f with
    | next =>
      obtain ⟨σ3, H3, I3, n3⟩ := q3
      obtain ⟨m', hm, w3⟩ := hN σ3 H3 n3
      exact ⟨m', hm, σ3, H3, I3, w3⟩
    | cont =>
      obtain ⟨σ3, H3, I3, n3⟩ := q3
      obtain ⟨m', hm, w3⟩ := hN σ3 H3 n3
      exact ⟨m', hm, σ3, H3, I3, w3⟩
    | brk => exact q3
    | ret v => exact q3
  | false =>
    rw [if_neg Bool.false_ne_true]
    exact wpAny_execs_nil ⟨σ1, H2, I2, q2⟩
end

structure It where
  go : Nat → Hp → Prop
  yld : Nat → Hp → V → Hp → Prop
  stop : Nat → Hp → Prop
noncomputable def FpOk (X : Cx) (pins : List (Addr × Obj)) (H : Hp) (b : Addr) : Prop :=
  H b = none ∧ b ≠ X.env.locals ∧ b ∉ X.fs ∧ (b ∈ X.ex ∨ X.s₀.heap.objs.size ≤ b) ∧ (∀ x c, X.env.cells.lookup x = some c → c ≠ b) ∧ ∀ p ∈ X.pn ++ pins, p.1 ≠ b
theorem Inv.fpOk {X : Cx} {pins : List (Addr × Obj)} {σ : St} {H H' : Hp} {s : Shared} {b : Addr} (I : Inv X pins σ H s) (hb : s.heap.objs.size ≤ b) (hn : H' b = none) : FpOk X pins H' b := by
  refine ⟨hn, Nat.ne_of_gt (Nat.lt_of_lt_of_le I.lt hb), I.nofs hb, .inr (Nat.le_trans I.sz hb), fun x c e z => ?_, fun p hp z => ?_⟩
  · obtain ⟨v, q⟩ := I.cell x c e
    exact absurd (Nat.lt_of_lt_of_le q.lt (by rw [z]; exact hb)) (Nat.lt_irrefl _)
  · exact absurd (Nat.lt_of_lt_of_le (Heap.lt_size (I.pin p hp).1) (by rw [z]; exact hb)) (Nat.lt_irrefl _)
structure Turn (P : Program) (w : World) (K : PySem.W.Frag) (tg : Expr) (J : It) (fp : List Addr) (it : Addr) (tn : Nat → Heap → Prop) : Prop where
  mem : it ∈ fp
  obj : ∀ i h, tn i h → ∀ b ∈ fp, ∃ o, h.get? b = some o ∧ ∀ v, o.data ≠ .cell v
  keep : ∀ i h h', tn i h → (∀ b ∈ fp, ∀ o, h.get? b = some o → h'.get? b = some o) → tn i h'
  item : ∀ (X : Cx), X.prog = P → X.w = w → X.K = K → X.calm = true → ∀ (i : Nat) (pins : List (Addr × Obj)) (s : Shared) (σ : St) (H : Hp) (E : Value → Shared → Prop), Inv X pins σ H s → (∀ b ∈ fp, FpOk X pins H b) → tn i s.heap → J.go i H →
    wpAny (model P w) X.A (pyNext (.ref it)) (fun r s1 => ∃ u, r = some u ∧
      wpAny (model P w) X.A (letOwnedTupleGo tg (.ref it) u) (fun _ s2 => ∃ x H', Inv X pins σ H' s2 ∧ RelV x u ∧ J.yld i H x H' ∧ tn (i + 1) s2.heap ∧ ∀ b ∈ fp, H' b = none) E s1) E s
  done : ∀ (X : Cx), X.prog = P → X.w = w → X.K = K → X.calm = true → ∀ (i : Nat) (pins : List (Addr × Obj)) (s : Shared) (σ : St) (H : Hp) (E : Value → Shared → Prop), Inv X pins σ H s → (∀ b ∈ fp, FpOk X pins H b) → tn i s.heap → J.stop i H →
    wpAny (model P w) X.A (pyNext (.ref it)) (fun r s1 => r = none ∧ Inv X pins σ H s1) E s
  self : ∀ (A : Around) (i : Nat) (s : Shared) (Q : Value → Shared → Prop) (E : Value → Shared → Prop), tn i s.heap → Q (.ref it) s → wpAny (model P w) A (pyIter (.ref it)) Q E s
noncomputable abbrev TI := St → Hp → (It → Hp → Prop) → Prop
noncomputable def PIE (X : Cx) (pins : List (Addr × Obj)) (σ : St) (tg : Expr) (R : It → Hp → Prop) (itv : Value) (s2 : Shared) : Prop :=
  ∃ (it : Addr) (fp : List Addr) (tn : Nat → Heap → Prop) (J : It) (H' : Hp), itv = .ref it ∧ Inv X pins σ H' s2 ∧ Turn X.prog X.w X.K tg J fp it tn ∧ tn 0 s2.heap ∧ (∀ b ∈ fp, FpOk X pins H' b) ∧ R J H'
noncomputable def PI (X : Cx) (tg iter : Expr) (wi : TI) : Prop :=
  ∀ (pins : List (Addr × Obj)) (s : Shared) (σ : St) (H : Hp) (R : It → Hp → Prop), Inv X pins σ H s → wi σ H R →
    wpAny (model X.prog X.w) X.A (eval iter X.env) (fun v s1 => wpAny (model X.prog X.w) X.A (pyIter v) (PIE X pins σ tg R) X.xe s1) X.xe s

theorem go_of {M : Model} {A : Around} {E : Value → Shared → Prop} {s : Shared} {tg : Expr} {it : Addr} {u : Value} {o : Obj} {n : String} {vs : Array Value} {Q : Unit → Shared → Prop} (ho : s.heap.get? it = some o) (hc : o.cls = .type n) (hd : o.data = .fields vs)
    (hn : ["enumerate", "zip", "dict_itemiterator", "dict_reverseitemiterator", "odict_iterator", "itertools.zip_longest", "itertools.pairwise"].contains n = false) (hQ : Q () s) : wpAny M A (letOwnedTupleGo tg (.ref it) u) Q E s := by
  unfold letOwnedTupleGo
  cases tg <;> first
    | exact wpAny_pure hQ
    | (cases u <;> first
        | exact wpAny_pure hQ
        | (refine wpAny_bind (wpAny_load ho ?_)
           rw [hc, hd]
           show wpAny M A (if (["enumerate", "zip", "dict_itemiterator", "dict_reverseitemiterator", "odict_iterator", "itertools.zip_longest", "itertools.pairwise"].contains n && vs[0]? == some (rawInt _)) = true then _ else _) Q E s
           rw [if_neg (by intro h; rw [hn, Bool.false_and] at h; cases h)]
           exact wpAny_pure hQ))

noncomputable def Itl (K : PySem.W.Frag) (a : Addr) : It :=
  ⟨fun i H => ∃ xs x, SqL K H a xs ∧ xs[i]? = some x, fun i H x H' => H' = H ∧ ∀ xs, SqL K H a xs → xs[i]? = some x, fun i H => ∃ xs, SqL K H a xs ∧ xs.length ≤ i⟩
noncomputable def Itt (K : PySem.W.Frag) (a : Addr) : It :=
  ⟨fun i H => ∃ xs x, SqT K H a xs ∧ xs[i]? = some x, fun i H x H' => H' = H ∧ ∀ xs, SqT K H a xs → xs[i]? = some x, fun i H => ∃ xs, SqT K H a xs ∧ xs.length ≤ i⟩
noncomputable def Itr (lo : Int) (n : Nat) : It := ⟨fun i _ => i < n, fun i H x H' => H' = H ∧ x = .int (lo + i), fun i _ => n ≤ i⟩
theorem turn_list {P : Program} {w : World} {K : PySem.W.Frag} {tg : Expr} (a it : Addr) : Turn P w K tg (Itl K a) [it] it (fun i h => h.IsListIter it a i) where
  mem := by simp
  obj := fun i h st b hb => by
    have e : b = it := by simpa using hb
    subst e
    obtain ⟨o, e, c, d⟩ := st
    exact ⟨o, e, fun v z => by rw [d] at z; cases z⟩
  keep := fun i h h' st k => st.at fun o e => k it (by simp) o e
  item := by
    intro X hP hw hK hc i pins s σ H E I hf st hg
    subst hP hw hK
    obtain ⟨xs, x, hq, hx⟩ := hg
    obtain ⟨its, rv, p, hz⟩ := I.list hq
    obtain ⟨u, hu, ru⟩ := rv.get hx
    obtain ⟨f0, f1, f2, f3, f4, f5⟩ := hf it (by simp)
    refine wpAny_pyNext_list_item st p.isList (x := u) (by simpa using hu) fun h' st' sb => ?_
    have I1 : Inv X pins σ H { s with heap := h' } := I.turned (t' := s.toks) (fun b o hb e => (sb.2 b hb).trans e) f0 f1 f3 f4 f5
    obtain ⟨o, e, c, d⟩ := id st'
    exact ⟨u, rfl, go_of (s := { s with heap := h' }) e c d (by decide) ⟨x, H, I1, ru, ⟨rfl, fun ys hy => by rw [I.list_inj hy hq]; exact hx⟩, st', fun b hb => (hf b hb).1⟩⟩
  done := by
    intro X hP hw hK hc i pins s σ H E I hf st hg
    subst hP hw hK
    obtain ⟨xs, hq, hx⟩ := hg
    obtain ⟨its, rv, p, hz⟩ := I.list hq
    obtain ⟨f0, f1, f2, f3, f4, f5⟩ := hf it (by simp)
    have hl := rv.length
    exact wpAny_pyNext_list_end (I.ok.hd hc) st p.isList (by simp; omega) fun h' eb => ⟨rfl, I.turned (t' := s.toks) (fun b o hb e => eb b o hb e) f0 f1 f3 f4 f5⟩
  self := fun _ _ _ _ _ st h => wpAny_pyIter_listiter st h
theorem turn_tuple {P : Program} {w : World} {K : PySem.W.Frag} {tg : Expr} (a it : Addr) : Turn P w K tg (Itt K a) [it] it (fun i h => h.IsTupleIter it a i) where
  mem := by simp
  obj := fun i h st b hb => by
    have e : b = it := by simpa using hb
    subst e
    obtain ⟨o, e, c, d⟩ := st
    exact ⟨o, e, fun v z => by rw [d] at z; cases z⟩
  keep := fun i h h' st k => st.at fun o e => k it (by simp) o e
  item := by
    intro X hP hw hK hc i pins s σ H E I hf st hg
    subst hP hw hK
    obtain ⟨xs, x, hq, hx⟩ := hg
    obtain ⟨its, rv, p, hz⟩ := I.tuple hq
    obtain ⟨u, hu, ru⟩ := rv.get hx
    obtain ⟨f0, f1, f2, f3, f4, f5⟩ := hf it (by simp)
    refine wpAny_pyNext_tuple_item st (show s.heap.IsTuple a its.toArray from p) (x := u) (by simpa using hu) fun h' st' sb => ?_
    have I1 : Inv X pins σ H { s with heap := h' } := I.turned (t' := s.toks) (fun b o hb e => (sb.2 b hb).trans e) f0 f1 f3 f4 f5
    obtain ⟨o, e, c, d⟩ := id st'
    exact ⟨u, rfl, go_of (s := { s with heap := h' }) e c d (by decide) ⟨x, H, I1, ru, ⟨rfl, fun ys hy => by rw [I.tuple_inj hy hq]; exact hx⟩, st', fun b hb => (hf b hb).1⟩⟩
  done := by
    intro X hP hw hK hc i pins s σ H E I hf st hg
    subst hP hw hK
    obtain ⟨xs, hq, hx⟩ := hg
    obtain ⟨its, rv, p, hz⟩ := I.tuple hq
    obtain ⟨f0, f1, f2, f3, f4, f5⟩ := hf it (by simp)
    have hl := rv.length
    exact wpAny_pyNext_tuple_end (I.ok.hd hc) st (show s.heap.IsTuple a its.toArray from p) (by simp; omega) fun h' eb => ⟨rfl, I.turned (t' := s.toks) (fun b o hb e => eb b o hb e) f0 f1 f3 f4 f5⟩
  self := fun _ _ _ _ _ st h => wpAny_pyIter_tupleiter st h
theorem turn_range {P : Program} {w : World} {K : PySem.W.Frag} {tg : Expr} (it : Addr) (lo : Int) (n : Nat) : Turn P w K tg (Itr lo n) [it] it (fun i h => IsRangeIter h it (lo + (i : Nat) * 1) ((n : Int) - (i : Nat)) 1) where
  mem := by simp
  obj := fun i h st b hb => by
    have e : b = it := by simpa using hb
    subst e
    exact ⟨_, st, fun v z => by
      have z' : Data.fields _ = Data.cell v := z
      cases z'⟩
  keep := fun i h h' st k => k it (by simp) _ st
  item := by
    intro X hP hw hK hc i pins s σ H E I hf st hg
    subst hP hw hK
    obtain ⟨f0, f1, f2, f3, f4, f5⟩ := hf it (by simp)
    have W := Walks.range (prog := X.prog) (w := X.w) (I.ok.hd hc) it lo 1 n
    refine W.item i s _ _ hg st fun v h' tk hv st' kk => ?_
    obtain ⟨t, rfl⟩ := hv
    have I1 : Inv X pins σ H { s with heap := h', toks := tk } := I.turned (fun b o hb e => kk b o (by simpa using hb) e) f0 f1 f3 f4 f5
    refine ⟨_, rfl, go_of (s := { s with heap := h', toks := tk }) (n := "range_iterator") st' rfl rfl (by decide) ⟨.int (lo + i), H, I1, ⟨t, ?_⟩, ⟨rfl, rfl⟩, st', fun b hb => (hf b hb).1⟩⟩
    rw [Int.mul_one]
  done := by
    intro X hP hw hK hc i pins s σ H E I hf st hg
    subst hP hw hK
    obtain ⟨f0, f1, f2, f3, f4, f5⟩ := hf it (by simp)
    exact wpAny_pyNext_range_end (I.ok.hd hc) st (by have : n ≤ i := hg; omega) fun h' eb => ⟨rfl, I.turned (t' := s.toks) (fun b o hb e => eb b o hb e) f0 f1 f3 f4 f5⟩
  self := fun _ _ _ _ _ st h => wpAny_pyIter_rangeiter st h
end L2

namespace L2
open PySem PySem.Spec PyProof.Rows
section
variable {X : Cx} {tg : Expr}
inductive IListR (K : PySem.W.Frag) (x : V) (H : Hp) (R : It → Hp → Prop) : Prop
  | mk (a : Addr) (e : x = .ref a) (s : ∃ xs, SqL K H a xs) (q : R (Itl K a) H) : IListR K x H R
inductive ITupR (K : PySem.W.Frag) (x : V) (H : Hp) (R : It → Hp → Prop) : Prop
  | mk (a : Addr) (e : x = .ref a) (s : ∃ xs, SqT K H a xs) (q : R (Itt K a) H) : ITupR K x H R
noncomputable def iList (K : PySem.W.Frag) (tl : TE) : TI := fun σ H R => tl σ H fun x H1 => IListR K x H1 R
noncomputable def iTup (K : PySem.W.Frag) (tl : TE) : TI := fun σ H R => tl σ H fun x H1 => ITupR K x H1 R
theorem pi_list {l : Expr} {tl : TE} (hl : PE X l tl) : PI X tg l (iList X.K tl) := by
  intro pins s σ H R I h
  refine thn (hl pins s σ H _ I h) fun v s1 ⟨x, H1, I1, r1, q1⟩ => ?_
  obtain ⟨a, e, ⟨xs, hq⟩, q⟩ := q1
  subst e
  cases r1
  obtain ⟨its, rv, p, hz⟩ := I1.list hq
  refine wpAny_pyIter_list p.isList ?_
  refine ⟨s1.heap.objs.size, [s1.heap.objs.size], _, _, H1, rfl, I1.kept (t' := s1.toks) fun b o e => Heap.get?_push_of_some _ e, turn_list a _, ⟨_, Heap.get?_push_size _ rfl, rfl, rfl⟩, fun b hb => ?_, q⟩
  have e : b = s1.heap.objs.size := by simpa using hb
  subst e
  exact I1.fpOk (Nat.le_refl _) (I1.hok.fresh (Nat.le_refl _))
theorem pi_tup {l : Expr} {tl : TE} (hl : PE X l tl) : PI X tg l (iTup X.K tl) := by
  intro pins s σ H R I h
  refine thn (hl pins s σ H _ I h) fun v s1 ⟨x, H1, I1, r1, q1⟩ => ?_
  obtain ⟨a, e, ⟨xs, hq⟩, q⟩ := q1
  subst e
  cases r1
  obtain ⟨its, rv, p, hz⟩ := I1.tuple hq
  refine wpAny_pyIter_tuple (show s1.heap.IsTuple a its.toArray from p) ?_
  refine ⟨s1.heap.objs.size, [s1.heap.objs.size], _, _, H1, rfl, I1.kept (t' := s1.toks) fun b o e => Heap.get?_push_of_some _ e, turn_tuple a _, ⟨_, Heap.get?_push_size _ rfl, rfl, rfl⟩, fun b hb => ?_, q⟩
  have e : b = s1.heap.objs.size := by simpa using hb
  subst e
  exact I1.fpOk (Nat.le_refl _) (I1.hok.fresh (Nat.le_refl _))
theorem range_it {pins : List (Addr × Obj)} {σ : St} {H : Hp} {s : Shared} {R : It → Hp → Prop} {E : Value → Shared → Prop} {lo hi : Int} {t u v : Tok} {tk : Nat} (I : Inv X pins σ H s) (h1 : -(2 ^ 62) ≤ lo) (h2 : lo < 2 ^ 62) (h3 : -(2 ^ 62) ≤ hi) (h4 : hi < 2 ^ 62)
    (q : R (Itr lo (hi - lo).toNat) H) : wpAny (model X.prog X.w) X.A (pyIter (.ref s.heap.objs.size)) (PIE X pins σ tg R) E { s with heap := s.heap.push { cls := .type "range", data := .fields #[.int lo t, .int hi u, .int 1 v] }, toks := tk } := by
  refine wpAny_pyIter_range (IsRange.new ..) (small_one h1 h2 h3 h4) ?_
  have I1 : Inv X pins σ H { s with heap := s.heap.push { cls := .type "range", data := .fields #[.int lo t, .int hi u, .int 1 v] }, toks := tk } := I.kept fun b o e => Heap.get?_push_of_some _ e
  refine ⟨(s.heap.push { cls := .type "range", data := .fields #[.int lo t, .int hi u, .int 1 v] }).objs.size, [(s.heap.push { cls := .type "range", data := .fields #[.int lo t, .int hi u, .int 1 v] }).objs.size], _, _, H, rfl,
    I1.kept (t' := tk) fun b o e => Heap.get?_push_of_some _ e, turn_range _ lo (hi - lo).toNat, ?_, fun b hb => ?_, q⟩
  · have e1 : lo + ((0 : Nat) : Int) * 1 = lo := by simp
    have e2 : (((hi - lo).toNat : Nat) : Int) - ((0 : Nat) : Int) = Builtin.Range.rangeSize lo hi 1 := by rw [rangeSize_one]; split <;> omega
    show IsRangeIter _ _ (lo + ((0 : Nat) : Int) * 1) ((((hi - lo).toNat : Nat) : Int) - ((0 : Nat) : Int)) 1
    rw [e1, e2]
    exact Heap.get?_push_size _ rfl
  · have e : b = (s.heap.push { cls := .type "range", data := .fields #[.int lo t, .int hi u, .int 1 v] }).objs.size := by simpa using hb
    subst e
    exact I1.fpOk (Nat.le_refl _) (I1.hok.fresh (Nat.le_refl _))
noncomputable def iRng1 (ta : TA) : TI := fun σ H R => ta σ H fun vs H1 => ∃ j : Int, vs = [.int j] ∧ -(2 ^ 62) ≤ j ∧ j < 2 ^ 62 ∧ R (Itr 0 j.toNat) H1
noncomputable def iRng2 (ta : TA) : TI := fun σ H R => ta σ H fun vs H1 => ∃ i j : Int, vs = [.int i, .int j] ∧ (-(2 ^ 62) ≤ i ∧ i < 2 ^ 62 ∧ -(2 ^ 62) ≤ j ∧ j < 2 ^ 62) ∧ R (Itr i (j - i).toNat) H1
theorem pi_range1 {a : Expr} {ta : TA} {p pos : Pos} (hg : Gl X "range") (hm : X.mg "range" = none) (ha : PA X [a] ta) (hs : starEach [a] X.env = [(false, eval a X.env)] := by rfl) : PI X tg (.Call (.Name "range" p) [a] [] pos) (iRng1 ta) := by
  intro pins s σ H R I h
  refine Call_ (ld_blt I hg hm boot_range (PyProof.Rows.callWith_type1 (thn (ha pos pins s σ H _ I h) fun us s1 ⟨vs, H1, I1, r1, q1⟩ => ?_) hs rfl))
  obtain ⟨j, e, q1, q2, q⟩ := q1
  subst e
  cases r1 with
  | cons r rr =>
    cases rr
    obtain ⟨t, rfl⟩ := r
    exact call_range_1 (range_it I1 (by omega) (by omega) q1 q2 (by simpa using q))
theorem pi_range2 {a b : Expr} {ta : TA} {p pos : Pos} (hg : Gl X "range") (hm : X.mg "range" = none) (ha : PA X [a, b] ta) (hs : starEach [a, b] X.env = [(false, eval a X.env), (false, eval b X.env)] := by rfl) (hs2 : starEach [b] X.env = [(false, eval b X.env)] := by rfl) :
    PI X tg (.Call (.Name "range" p) [a, b] [] pos) (iRng2 ta) := by
  intro pins s σ H R I h
  refine Call_ (ld_blt I hg hm boot_range (PyProof.Rows.callWith_type1 (thn (ha pos pins s σ H _ I h) fun us s1 ⟨vs, H1, I1, r1, q1⟩ => ?_) (by rw [hs, hs2]) (by rw [hs2]; rfl)))
  obtain ⟨i, j, e, ⟨q1, q2, q3, q4⟩, q⟩ := q1
  subst e
  cases r1 with
  | cons r rr =>
    cases rr with
    | cons r' rr =>
      cases rr
      obtain ⟨t, rfl⟩ := r
      obtain ⟨t', rfl⟩ := r'
      exact call_range_2 (range_it I1 q1 q2 q3 q4 q)

noncomputable def tFor (wi : TI) (g : TG) (tb : TS) : TS := fun D σ H => wi σ H fun J H1 => ∃ W : Nat → Nat → St → Hp → Prop, (∃ m, W 0 m σ H1) ∧ ∀ i m σ H, W i m σ H →
  (J.stop i H ∧ D.nx σ H) ∨ (J.go i H ∧ ∃ N : St → Hp → Prop, (∀ σ' H', N σ' H' → ∃ m', m' < m ∧ W (i + 1) m' σ' H') ∧ ∀ x H', J.yld i H x H' → g x σ H' fun σ2 H2 => tb { D with nx := N, ct := N, bk := D.nx } σ2 H2)
noncomputable def pinsAt (fp : List Addr) (h : Heap) : List (Addr × Obj) := fp.filterMap fun b => (h.get? b).map fun o => (b, o)
theorem mem_pinsAt {fp : List Addr} {h : Heap} {b : Addr} {o : Obj} (hb : b ∈ fp) (e : h.get? b = some o) : (b, o) ∈ pinsAt fp h := List.mem_filterMap.mpr ⟨b, hb, by rw [e]; rfl⟩
theorem of_pinsAt {fp : List Addr} {h : Heap} {p : Addr × Obj} (hp : p ∈ pinsAt fp h) : p.1 ∈ fp ∧ h.get? p.1 = some p.2 := by
  obtain ⟨b, hb, e⟩ := List.mem_filterMap.mp hp
  cases q : h.get? b with
  | none => rw [q] at e; cases e
  | some o =>
    rw [q] at e
    have e' : (b, o) = p := Option.some.inj e
    subst e'
    exact ⟨hb, q⟩
theorem Inv.pinned {pins : List (Addr × Obj)} {σ : St} {H : Hp} {s : Shared} {fp : List Addr} (I : Inv X pins σ H s) (hf : ∀ b ∈ fp, FpOk X pins H b) (ho : ∀ b ∈ fp, ∃ o, s.heap.get? b = some o ∧ ∀ v, o.data ≠ .cell v) : Inv X (pins ++ pinsAt fp s.heap) σ H s :=
  I.pins_of fun p hp => (List.mem_append.mp hp).elim (fun z => I.pin p (List.mem_append_right _ z)) fun z => by
    obtain ⟨hb, e⟩ := of_pinsAt z
    obtain ⟨f0, f1, f2, _⟩ := hf p.1 hb
    obtain ⟨o, e', d⟩ := ho p.1 hb
    rw [e] at e'; cases e'
    exact ⟨e, f0, f1, f2, d⟩
theorem Inv.unpinned {pins pl : List (Addr × Obj)} {σ : St} {H : Hp} {s : Shared} (I : Inv X (pins ++ pl) σ H s) : Inv X pins σ H s := I.pins_of fun p hp => I.pin p (List.mem_append_right _ (List.mem_append_left _ hp))
theorem ps_for {iter : Expr} {body : List Stmt} {wi : TI} {g : TG} {tb : TS} {pos : Pos} (hp : PassesOwn (model X.prog X.w) X.A X.env X.xe) (hc : X.calm = true) (hi : PI X tg iter wi) (hg : PG X tg g) (hb : PSs X body tb)
    (hs : ∀ x, foldedSetIterable iter X.env x = pure x := by intro _; rfl) : PS X (.For tg iter body [] pos) (tFor wi g tb) := by
  intro pins s σ H D I h
  refine wpAny_For (thn (hi pins s σ H _ I h) fun v s1 h1 => thn h1 fun itv s2 h2 => ?_) hs
  obtain ⟨it, fp, tn, J, H2, e, I2, T, st2, f2, W, ⟨m0, w0⟩, turn⟩ := h2
  subst e
  -- what stays true of the iterator's objects through the loop
  have stat : ∀ {H' : Hp}, (∀ b ∈ fp, H' b = none) → ∀ b ∈ fp, FpOk X pins H' b := fun hn b hb => ⟨hn b hb, (f2 b hb).2⟩
  refine codeAny_forLoop_any (fun n s' => ∃ i σ' H', Inv X pins σ' H' s' ∧ tn i s'.heap ∧ (∀ b ∈ fp, H' b = none) ∧ W i n σ' H') ?_ m0 ⟨0, σ, H2, I2, st2, fun b hb => (f2 b hb).1, w0⟩
  rintro n s3 ⟨i, σ3, H3, I3, st3, fr3, w3⟩
  rcases turn i n σ3 H3 w3 with ⟨stop, qn⟩ | ⟨go, N, hN, step⟩
  · refine wpAny_passesOwn hp (thn (T.done X rfl rfl rfl hc i pins s3 σ3 H3 X.xe I3 (stat fr3) st3 stop) fun r s4 ⟨hr, I4⟩ => ?_)
    subst hr
    exact wpAny_execs_nil ⟨σ3, H3, I4, qn⟩
  · refine wpAny_passesOwn hp (thn (T.item X rfl rfl rfl hc i pins s3 σ3 H3 X.xe I3 (stat fr3) st3 go) fun r s4 ⟨u, hr, h4⟩ => ?_)
    subst hr
    refine wpAny_passesOwn hp (thn h4 fun _ s5 ⟨x, H5, I5, r5, y5, st5, fr5⟩ => ?_)
    have I5' := I5.pinned (stat fr5) (T.obj _ _ st5)
    refine wpAny_passesOwn hp (thn (hg _ s5 σ3 H5 x u _ I5' r5 (step x H5 y5)) fun _ s6 ⟨σ6, H6, I6, q6⟩ => ?_)
    refine wpAny_passesOwn hp (thn (hb _ s6 σ6 H6 _ I6 q6) fun f s7 q7 => ?_)
    have again : ∀ {σ7 : St} {H7 : Hp}, Inv X (pins ++ pinsAt fp s5.heap) σ7 H7 s7 → N σ7 H7 → ∃ m, m < n ∧ ∃ i σ' H', Inv X pins σ' H' s7 ∧ tn i s7.heap ∧ (∀ b ∈ fp, H' b = none) ∧ W i m σ' H' := fun {σ7 H7} I7 n7 => by
      obtain ⟨m', hm, w7⟩ := hN σ7 H7 n7
      refine ⟨m', hm, i + 1, σ7, H7, I7.unpinned, T.keep _ _ _ st5 fun b hb o e => (I7.pin (b, o) (List.mem_append_right _ (List.mem_append_right _ (mem_pinsAt hb e)))).1, fun b hb => ?_, w7⟩
      obtain ⟨o, e, d⟩ := T.obj _ _ st5 b hb
      exact (I7.pin (b, o) (List.mem_append_right _ (List.mem_append_right _ (mem_pinsAt hb e)))).2.1
    cases f with
    | next => obtain ⟨σ7, H7, I7, n7⟩ := q7; exact again I7 n7
    | cont => obtain ⟨σ7, H7, I7, n7⟩ := q7; exact again I7 n7
    | brk => obtain ⟨σ7, H7, I7, q7⟩ := q7; exact ⟨σ7, H7, I7.unpinned, q7⟩
    | ret v => obtain ⟨x7, σ7, H7, I7, r7, q7⟩ := q7; exact ⟨x7, σ7, H7, I7.unpinned, r7, q7⟩
end

theorem for_list {K : PySem.W.Frag} {a : Addr} {xs : List V} {g : TG} {tb : TS} {D : Ends} {σ : St} {H : Hp} (Pv : Nat → St → Hp → Prop) (h0 : Pv 0 σ H) (hl : ∀ i σ H, i ≤ xs.length → Pv i σ H → SqL K H a xs)
    (hs : ∀ i x σ H, xs[i]? = some x → Pv i σ H → g x σ H fun σ2 H2 => tb { D with nx := Pv (i + 1), ct := Pv (i + 1), bk := D.nx } σ2 H2) (hd : ∀ σ H, Pv xs.length σ H → D.nx σ H) :
    ∃ W : Nat → Nat → St → Hp → Prop, (∃ m, W 0 m σ H) ∧ ∀ i m σ H, W i m σ H →
      ((Itl K a).stop i H ∧ D.nx σ H) ∨ ((Itl K a).go i H ∧ ∃ N : St → Hp → Prop, (∀ σ' H', N σ' H' → ∃ m', m' < m ∧ W (i + 1) m' σ' H') ∧ ∀ x H', (Itl K a).yld i H x H' → g x σ H' fun σ2 H2 => tb { D with nx := N, ct := N, bk := D.nx } σ2 H2) := by
  refine ⟨fun i m σ H => m = xs.length - i ∧ i ≤ xs.length ∧ Pv i σ H, ⟨xs.length, by simp, Nat.zero_le _, h0⟩, ?_⟩
  rintro i m σ H ⟨rfl, hi, p⟩
  have q := hl i σ H hi p
  by_cases hlt : i < xs.length
  · refine .inr ⟨⟨xs, xs[i], q, by simp [hlt]⟩, Pv (i + 1), fun σ' H' p' => ⟨xs.length - (i + 1), by omega, rfl, hlt, p'⟩, fun x H' y => ?_⟩
    obtain ⟨e, y⟩ := y
    subst e
    exact hs i x σ _ (y xs q) p
  · have e : i = xs.length := by omega
    subst e
    exact .inl ⟨⟨xs, q, Nat.le_refl _⟩, hd σ H p⟩
theorem for_tup {K : PySem.W.Frag} {a : Addr} {xs : List V} {g : TG} {tb : TS} {D : Ends} {σ : St} {H : Hp} (Pv : Nat → St → Hp → Prop) (h0 : Pv 0 σ H) (hl : ∀ i σ H, i ≤ xs.length → Pv i σ H → SqT K H a xs)
    (hs : ∀ i x σ H, xs[i]? = some x → Pv i σ H → g x σ H fun σ2 H2 => tb { D with nx := Pv (i + 1), ct := Pv (i + 1), bk := D.nx } σ2 H2) (hd : ∀ σ H, Pv xs.length σ H → D.nx σ H) :
    ∃ W : Nat → Nat → St → Hp → Prop, (∃ m, W 0 m σ H) ∧ ∀ i m σ H, W i m σ H →
      ((Itt K a).stop i H ∧ D.nx σ H) ∨ ((Itt K a).go i H ∧ ∃ N : St → Hp → Prop, (∀ σ' H', N σ' H' → ∃ m', m' < m ∧ W (i + 1) m' σ' H') ∧ ∀ x H', (Itt K a).yld i H x H' → g x σ H' fun σ2 H2 => tb { D with nx := N, ct := N, bk := D.nx } σ2 H2) := by
  refine ⟨fun i m σ H => m = xs.length - i ∧ i ≤ xs.length ∧ Pv i σ H, ⟨xs.length, by simp, Nat.zero_le _, h0⟩, ?_⟩
  rintro i m σ H ⟨rfl, hi, p⟩
  have q := hl i σ H hi p
  by_cases hlt : i < xs.length
  · refine .inr ⟨⟨xs, xs[i], q, by simp [hlt]⟩, Pv (i + 1), fun σ' H' p' => ⟨xs.length - (i + 1), by omega, rfl, hlt, p'⟩, fun x H' y => ?_⟩
    obtain ⟨e, y⟩ := y
    subst e
    exact hs i x σ _ (y xs q) p
  · have e : i = xs.length := by omega
    subst e
    exact .inl ⟨⟨xs, q, Nat.le_refl _⟩, hd σ H p⟩
theorem for_range {lo : Int} {n : Nat} {g : TG} {tb : TS} {D : Ends} {σ : St} {H : Hp} (Pv : Nat → St → Hp → Prop) (h0 : Pv 0 σ H)
    (hs : ∀ i σ H, i < n → Pv i σ H → g (.int (lo + i)) σ H fun σ2 H2 => tb { D with nx := Pv (i + 1), ct := Pv (i + 1), bk := D.nx } σ2 H2) (hd : ∀ σ H, Pv n σ H → D.nx σ H) :
    ∃ W : Nat → Nat → St → Hp → Prop, (∃ m, W 0 m σ H) ∧ ∀ i m σ H, W i m σ H →
      ((Itr lo n).stop i H ∧ D.nx σ H) ∨ ((Itr lo n).go i H ∧ ∃ N : St → Hp → Prop, (∀ σ' H', N σ' H' → ∃ m', m' < m ∧ W (i + 1) m' σ' H') ∧ ∀ x H', (Itr lo n).yld i H x H' → g x σ H' fun σ2 H2 => tb { D with nx := N, ct := N, bk := D.nx } σ2 H2) := by
  refine ⟨fun i m σ H => m = n - i ∧ i ≤ n ∧ Pv i σ H, ⟨n, by simp, Nat.zero_le _, h0⟩, ?_⟩
  rintro i m σ H ⟨rfl, hi, p⟩
  by_cases hlt : i < n
  · refine .inr ⟨hlt, Pv (i + 1), fun σ' H' p' => ⟨n - (i + 1), by omega, rfl, hlt, p'⟩, fun x H' y => ?_⟩
    obtain ⟨e, y⟩ := y
    subst e y
    exact hs i σ _ hlt p
  · have e : i = n := by omega
    subst e
    exact .inl ⟨Nat.le_refl _, hd σ H p⟩
theorem while_by {c : TT} {tb : TS} {D : Ends} {σ : St} {H : Hp} (Pv : St → Hp → Prop) (μ : St → Hp → Nat) (h0 : Pv σ H)
    (hs : ∀ σ H, Pv σ H → c σ H fun b H1 => if b = true then tb { D with nx := fun σ' H' => Pv σ' H' ∧ μ σ' H' < μ σ H, ct := fun σ' H' => Pv σ' H' ∧ μ σ' H' < μ σ H, bk := D.nx } σ H1 else D.nx σ H1)
    (mono : ∀ σ H Q Q', (∀ b H1, Q b H1 → Q' b H1) → c σ H Q → c σ H Q') : tWhile c tb D σ H := by
  refine ⟨fun m σ H => m = μ σ H ∧ Pv σ H, ⟨_, rfl, h0⟩, ?_⟩
  rintro m σ H ⟨rfl, p⟩
  refine mono σ H _ _ (fun b H1 q => ?_) (hs σ H p)
  cases b with
  | true => exact ⟨_, fun σ' H' ⟨p', l⟩ => ⟨_, l, rfl, p'⟩, q⟩
  | false => exact q
end L2

namespace L2
open PySem PySem.Spec PyProof.Rows

noncomputable abbrev R2 := V → V → Hp → VK → Prop
noncomputable def OpR (X : Cx) (f : Value → Value → Sem Value) (r : R2) : Prop :=
  ∀ (pins : List (Addr × Obj)) (s : Shared) (σ : St) (H : Hp) (x y : V) (v u : Value) (Q : VK), Inv X pins σ H s → RelV x v → RelV y u → r x y H Q →
    wpAny (model X.prog X.w) X.A (f v u) (EP X pins σ Q) X.xe s
noncomputable def UnR (X : Cx) (f : Value → Sem Value) (r : V → Hp → VK → Prop) : Prop :=
  ∀ (pins : List (Addr × Obj)) (s : Shared) (σ : St) (H : Hp) (x : V) (v : Value) (Q : VK), Inv X pins σ H s → RelV x v → r x H Q →
    wpAny (model X.prog X.w) X.A (f v) (EP X pins σ Q) X.xe s
noncomputable def CallR (X : Cx) (f : Value) (r : List V → Hp → VK → Prop) : Prop :=
  ∀ (pins : List (Addr × Obj)) (s : Shared) (σ : St) (H : Hp) (xs : List V) (us : List Value) (Q : VK), Inv X pins σ H s → Vals xs us → r xs H Q →
    wpAny (model X.prog X.w) X.A (call f us) (EP X pins σ Q) X.xe s
noncomputable def TruR (X : Cx) (r : V → Hp → (Bool → Hp → Prop) → Prop) : Prop :=
  ∀ (pins : List (Addr × Obj)) (s : Shared) (σ : St) (H : Hp) (x : V) (v : Value) (Q : Bool → Hp → Prop), Inv X pins σ H s → RelV x v → r x H Q →
    wpAny (model X.prog X.w) X.A (truthy v) (TP X pins σ Q) X.xe s

noncomputable def tOp (r : R2) (ta tb : TE) : TE := fun σ H Q => ta σ H fun x H1 => tb σ H1 fun y H2 => r x y H2 Q
noncomputable def tUn (r : V → Hp → VK → Prop) (ta : TE) : TE := fun σ H Q => ta σ H fun x H1 => r x H1 Q
inductive IR (C : Int → Int → Prop) (g : Int → Int → V) (x y : V) (H : Hp) (Q : VK) : Prop
  | mk (i j : Int) (a : x = .int i) (b : y = .int j) (c : C i j) (q : Q (g i j) H) : IR C g x y H Q
noncomputable def rI (C : Int → Int → Prop) (g : Int → Int → V) : R2 := fun x y H Q => IR C g x y H Q
inductive I0R (g : Int → Int → V) (x y : V) (H : Hp) (Q : VK) : Prop
  | mk (i j : Int) (a : x = .int i) (b : y = .int j) (q : Q (g i j) H) : I0R g x y H Q
noncomputable def rI0 (g : Int → Int → V) : R2 := fun x y H Q => I0R g x y H Q
noncomputable def rU (g : Int → V) : V → Hp → VK → Prop := fun x H Q => ∃ i, x = .int i ∧ Q (g i) H

section
variable {X : Cx} {a b c : Expr} {ta tb tc : TE} {pos : Pos}

theorem binT (ha : PE X a ta) (hb : PE X b tb) {pins : List (Addr × Obj)} {s : Shared} {σ : St} {H : Hp} {R : V → V → Hp → Prop} (I : Inv X pins σ H s)
    (h : ta σ H fun x H1 => tb σ H1 fun y H2 => R x y H2) {Q : Value → Shared → Prop} {f : Value → Value → Sem Value}
    (hf : ∀ v u s2 x y H2, Inv X pins σ H2 s2 → RelV x v → RelV y u → R x y H2 → wpAny (model X.prog X.w) X.A (f v u) Q X.xe s2) :
    wpAny (model X.prog X.w) X.A (eval a X.env) (fun v s₁ => wpAny (model X.prog X.w) X.A (eval b X.env) (fun u s₂ => wpAny (model X.prog X.w) X.A (f v u) Q X.xe s₂) X.xe s₁) X.xe s := by
  refine thn (ha pins s σ H _ I h) fun v s1 ⟨x, H1, I1, r1, q1⟩ => ?_
  refine thn (hb pins s1 σ H1 _ I1 q1) fun u s2 ⟨y, H2, I2, r2, q2⟩ => ?_
  exact hf v u s2 x y H2 I2 r1 r2 q2

theorem pe_op {op : Operator} {r : R2} (ho : OpR X (binaryOp op) r) (ha : PE X a ta) (hb : PE X b tb) : PE X (.BinOp a op b pos) (tOp r ta tb) := by
  intro pins s σ H Q I h
  exact wpAny_BinOp (binT ha hb I h fun v u s2 x y H2 I2 rx ry q => ho pins s2 σ H2 x y v u Q I2 rx ry q)
theorem pe_un {op : UnaryOp} {r : V → Hp → VK → Prop} (ho : UnR X (unaryOp op) r) (ha : PE X a ta) : PE X (.UnaryOp op a pos) (tUn r ta) := by
  intro pins s σ H Q I h
  exact UnaryOp_ (thn (ha pins s σ H _ I h) fun v s1 ⟨x, H1, I1, r1, q1⟩ => ho pins s1 σ H1 x v Q I1 r1 q1)
theorem opI {f : Value → Value → Sem Value} {C : Int → Int → Prop} {g : Int → Int → Int}
    (rule : ∀ (i j : Int) (t u : Tok) (s : Shared) (Q : Value → Shared → Prop) (E : Value → Shared → Prop), C i j → Q (.int (g i j) s.toks) { s with toks := s.toks + 1 } → wpAny (model X.prog X.w) X.A (f (.int i t) (.int j u)) Q E s) :
    OpR X f (rI C fun i j => .int (g i j)) := by
  intro pins s σ H x y v u Q I rx ry h
  obtain ⟨i, j, rfl, rfl, hc, q⟩ := h
  obtain ⟨t, rfl⟩ := rx
  obtain ⟨t', rfl⟩ := ry
  exact rule i j t t' s _ _ hc ⟨.int (g i j), H, I.tok _, ⟨_, rfl⟩, q⟩
theorem opI0 {f : Value → Value → Sem Value} {g : Int → Int → Int}
    (rule : ∀ (i j : Int) (t u : Tok) (s : Shared) (Q : Value → Shared → Prop) (E : Value → Shared → Prop), Q (.int (g i j) s.toks) { s with toks := s.toks + 1 } → wpAny (model X.prog X.w) X.A (f (.int i t) (.int j u)) Q E s) :
    OpR X f (rI0 fun i j => .int (g i j)) := by
  intro pins s σ H x y v u Q I rx ry h
  obtain ⟨i, j, rfl, rfl, q⟩ := h
  obtain ⟨t, rfl⟩ := rx
  obtain ⟨t', rfl⟩ := ry
  exact rule i j t t' s _ _ ⟨.int (g i j), H, I.tok _, ⟨_, rfl⟩, q⟩
theorem opB0 {f : Value → Value → Sem Value} {g : Int → Int → Bool}
    (rule : ∀ (i j : Int) (t u : Tok) (s : Shared) (Q : Value → Shared → Prop) (E : Value → Shared → Prop), Q (.bool (g i j)) s → wpAny (model X.prog X.w) X.A (f (.int i t) (.int j u)) Q E s) :
    OpR X f (rI0 fun i j => .bl (g i j)) := by
  intro pins s σ H x y v u Q I rx ry h
  obtain ⟨i, j, rfl, rfl, q⟩ := h
  obtain ⟨t, rfl⟩ := rx
  obtain ⟨t', rfl⟩ := ry
  exact rule i j t t' s _ _ ⟨.bl (g i j), H, I, rfl, q⟩

noncomputable def CDiv (i j : Int) : Prop := 0 < j ∧ j < 1073741824
noncomputable def CPow (i j : Int) : Prop := 0 ≤ j ∧ j ≤ 1000000 ∧ i.natAbs < 2 ^ 64
noncomputable def CMul (i j : Int) : Prop := (-(2 ^ 64) < i ∧ i < 2 ^ 64) ∨ (-(2 ^ 64) < j ∧ j < 2 ^ 64)
theorem CMul.ok {i j : Int} (h : CMul i j) : IntMulOk i j := by
  rcases h with ⟨h1, h2⟩ | ⟨h1, h2⟩
  · exact .of_left (intBits_le_64 h1 h2)
  · exact .of_right (intBits_le_64 h1 h2)
theorem op_add : OpR X (binaryOp .Add) (rI0 fun i j => .int (i + j)) := opI0 fun _ _ _ _ _ _ _ q => add_int q
theorem op_sub : OpR X (binaryOp .Sub) (rI0 fun i j => .int (i - j)) := opI0 fun _ _ _ _ _ _ _ q => sub_int q
theorem op_mul : OpR X (binaryOp .Mult) (rI CMul fun i j => .int (i * j)) := opI fun _ _ _ _ _ _ _ hc q => mul_int q hc.ok
theorem op_fdiv : OpR X (binaryOp .FloorDiv) (rI CDiv fun i j => .int (i / j)) := opI fun i j _ _ _ _ _ hc q => by
  have h1 : (0 : Int) < j := hc.1
  have h2 : j < 1073741824 := hc.2
  exact floordiv_int (by omega) (by rw [Int.fdiv_eq_ediv_of_nonneg i (by omega)]; exact q) (.inl (PyProof.noPylong_small (by omega)))
theorem op_mod : OpR X (binaryOp .Mod) (rI (fun _ j => 0 < j) fun i j => .int (i % j)) := opI fun i j _ _ _ _ _ hc q => by
  have h1 : (0 : Int) < j := hc
  exact mod_int' (by omega) (by rw [Int.fmod_eq_emod_of_nonneg i (by omega)]; exact q)
theorem op_pow : OpR X (binaryOp .Pow) (rI CPow fun i j => .int (i ^ j.toNat)) := opI fun _ _ _ _ _ _ _ hc q => pow_int_small hc.1 hc.2.1 hc.2.2 q
theorem unI {f : Value → Sem Value} {g : Int → Int}
    (rule : ∀ (i : Int) (t : Tok) (s : Shared) (Q : Value → Shared → Prop) (E : Value → Shared → Prop), Q (.int (g i) s.toks) { s with toks := s.toks + 1 } → wpAny (model X.prog X.w) X.A (f (.int i t)) Q E s) :
    UnR X f (rU fun i => .int (g i)) := by
  intro pins s σ H x v Q I rx h
  obtain ⟨i, rfl, q⟩ := h
  obtain ⟨t, rfl⟩ := rx
  exact rule i t s _ _ ⟨.int (g i), H, I.tok _, ⟨_, rfl⟩, q⟩
theorem un_neg : UnR X (unaryOp .USub) (rU fun i => .int (-i)) := unI fun _ _ _ _ _ q => neg_int q
end

noncomputable def scal : V → V → Bool
  | .non, .non => true | .non, .int _ => true | .int _, .non => true | .non, .bl _ => true | .bl _, .non => true | .non, .str _ => true | .str _, .non => true
  | .int _, .int _ => true | .bl _, .bl _ => true | .str _, .str _ => true | .byt _, .byt _ => true
  | .int _, .str _ => true | .str _, .int _ => true | .bl _, .str _ => true | .str _, .bl _ => true
  | _, _ => false
inductive EqR (x y : V) (H : Hp) (Q : VK) : Prop
  | mk (c : scal x y = true) (q : Q (.bl (decide (x = y))) H) : EqR x y H Q
inductive NeR (x y : V) (H : Hp) (Q : VK) : Prop
  | mk (c : scal x y = true) (q : Q (.bl (!decide (x = y))) H) : NeR x y H Q
noncomputable def rEq : R2 := fun x y H Q => EqR x y H Q
noncomputable def rNe : R2 := fun x y H Q => NeR x y H Q

theorem dec_int {i j : Int} : decide (V.int i = V.int j) = (i == j) := by
  rw [Bool.eq_iff_iff]
  simp
theorem dec_bl {i j : Bool} : decide (V.bl i = V.bl j) = (i == j) := by
  rw [Bool.eq_iff_iff]
  simp
theorem dec_str {i j : Str} : decide (V.str i = V.str j) = (i == j) := by
  rw [Bool.eq_iff_iff]
  simp
theorem dec_byt {i j : Array UInt8} : decide (V.byt i = V.byt j) = (i.toList == j.toList) := by
  rw [Bool.eq_iff_iff]
  cases i
  cases j
  simp

section
variable {X : Cx} {a b c : Expr} {ta tb tc : TE} {pos : Pos}
theorem fin_bl {pins : List (Addr × Obj)} {σ : St} {H : Hp} {s : Shared} {Q : VK} {k k' : Bool} (I : Inv X pins σ H s) (q : Q (.bl k) H) (e : k = k') : EP X pins σ Q (.bool k') s := by
  subst e
  exact ⟨.bl k, H, I, rfl, q⟩
theorem op_eq : OpR X (compareOp .Eq) rEq := by
  intro pins s σ H x y v u Q I rx ry h
  obtain ⟨hs, q⟩ := h
  cases x with
  | non =>
    cases rx
    cases y with
    | non => cases ry; exact PySem.EqNone.eq_none_none (fin_bl I q (by simp))
    | bl j => cases ry; exact PySem.EqNone.eq_none_bool (fin_bl I q (by simp))
    | int j => obtain ⟨t', rfl⟩ := ry; exact PySem.EqNone.eq_none_int (fin_bl I q (by simp))
    | str j => obtain ⟨t', rfl⟩ := ry; exact PySem.EqNone.eq_none_str (fin_bl I q (by simp))
    | _ => exact absurd (show false = true from hs) Bool.false_ne_true
  | bl i =>
    cases rx
    cases y with
    | non => cases ry; exact PySem.EqNone.eq_bool_none (fin_bl I q (by simp))
    | bl j => cases ry; exact eq_bool (fin_bl I q dec_bl)
    | str j => obtain ⟨t', rfl⟩ := ry; exact PySem.EqMixed.eq_bool_str (fin_bl I q (by simp))
    | _ => exact absurd (show false = true from hs) Bool.false_ne_true
  | int i =>
    obtain ⟨t, rfl⟩ := rx
    cases y with
    | non => cases ry; exact PySem.EqNone.eq_int_none (fin_bl I q (by simp))
    | int j => obtain ⟨t', rfl⟩ := ry; exact eq_int (fin_bl I q dec_int)
    | str j => obtain ⟨t', rfl⟩ := ry; exact PySem.EqMixed.eq_int_str (fin_bl I q (by simp))
    | _ => exact absurd (show false = true from hs) Bool.false_ne_true
  | str i =>
    obtain ⟨t, rfl⟩ := rx
    cases y with
    | non => cases ry; exact PySem.EqNone.eq_str_none (fin_bl I q (by simp))
    | bl j => cases ry; exact PySem.EqMixed.eq_str_bool (fin_bl I q (by simp))
    | int j => obtain ⟨t', rfl⟩ := ry; exact PySem.EqMixed.eq_str_int (fin_bl I q (by simp))
    | str j => obtain ⟨t', rfl⟩ := ry; exact eq_str (fin_bl I q dec_str)
    | _ => exact absurd (show false = true from hs) Bool.false_ne_true
  | byt i =>
    obtain ⟨t, rfl⟩ := rx
    cases y with
    | byt j => obtain ⟨t', rfl⟩ := ry; exact PySem.W.eq_bytes (fin_bl I q dec_byt)
    | _ => exact absurd (show false = true from hs) Bool.false_ne_true
  | _ => cases y <;> exact absurd (show false = true from hs) Bool.false_ne_true
theorem op_ne : OpR X (compareOp .NotEq) rNe := by
  intro pins s σ H x y v u Q I rx ry h
  obtain ⟨hs, q⟩ := h
  cases x with
  | non =>
    cases rx
    cases y with
    | non => cases ry; exact PySem.EqNone.ne_none_none (fin_bl I q (by simp))
    | bl j => cases ry; exact PySem.EqNone.ne_none_bool (fin_bl I q (by simp))
    | int j => obtain ⟨t', rfl⟩ := ry; exact PySem.EqNone.ne_none_int (fin_bl I q (by simp))
    | str j => obtain ⟨t', rfl⟩ := ry; exact PySem.EqNone.ne_none_str (fin_bl I q (by simp))
    | _ => exact absurd (show false = true from hs) Bool.false_ne_true
  | bl i =>
    cases rx
    cases y with
    | non => cases ry; exact PySem.EqNone.ne_bool_none (fin_bl I q (by simp))
    | bl j => cases ry; exact ne_bool (fin_bl I q (congrArg not dec_bl))
    | str j => obtain ⟨t', rfl⟩ := ry; exact PySem.EqMixed.ne_bool_str (fin_bl I q (by simp))
    | _ => exact absurd (show false = true from hs) Bool.false_ne_true
  | int i =>
    obtain ⟨t, rfl⟩ := rx
    cases y with
    | non => cases ry; exact PySem.EqNone.ne_int_none (fin_bl I q (by simp))
    | int j => obtain ⟨t', rfl⟩ := ry; exact ne_int (fin_bl I q (congrArg not dec_int))
    | str j => obtain ⟨t', rfl⟩ := ry; exact PySem.EqMixed.ne_int_str (fin_bl I q (by simp))
    | _ => exact absurd (show false = true from hs) Bool.false_ne_true
  | str i =>
    obtain ⟨t, rfl⟩ := rx
    cases y with
    | non => cases ry; exact PySem.EqNone.ne_str_none (fin_bl I q (by simp))
    | bl j => cases ry; exact PySem.EqMixed.ne_str_bool (fin_bl I q (by simp))
    | int j => obtain ⟨t', rfl⟩ := ry; exact PySem.EqMixed.ne_str_int (fin_bl I q (by simp))
    | str j => obtain ⟨t', rfl⟩ := ry; exact ne_str (fin_bl I q (congrArg not dec_str))
    | _ => exact absurd (show false = true from hs) Bool.false_ne_true
  | byt i =>
    obtain ⟨t, rfl⟩ := rx
    cases y with
    | byt j => obtain ⟨t', rfl⟩ := ry; exact PySem.W.ne_bytes (fin_bl I q (congrArg not dec_byt))
    | _ => exact absurd (show false = true from hs) Bool.false_ne_true
  | _ => cases y <;> exact absurd (show false = true from hs) Bool.false_ne_true

theorem op_lt : OpR X (compareOp .Lt) (rI0 fun i j => .bl (decide (i < j))) := opB0 fun _ _ _ _ _ _ _ q => lt_int q
theorem op_le : OpR X (compareOp .LtE) (rI0 fun i j => .bl (decide (i ≤ j))) := opB0 fun _ _ _ _ _ _ _ q => le_int q
theorem op_gt : OpR X (compareOp .Gt) (rI0 fun i j => .bl (decide (j < i))) := opB0 fun _ _ _ _ _ _ _ q => gt_int q
theorem nomark (b : Expr) {op : CmpOp} (h : op ≠ .In := by decide) (h2 : op ≠ .NotIn := by decide) : behindInMarks op b = false := by
  have e1 : (op == CmpOp.In) = false := by cases op <;> first | rfl | exact absurd rfl h
  have e2 : (op == CmpOp.NotIn) = false := by cases op <;> first | rfl | exact absurd rfl h2
  cases b <;> simp [behindInMarks, e1, e2]
theorem pe_cmpR {op : CmpOp} {r : R2} (ho : OpR X (compareOp op) r) (ha : PE X a ta) (hb : PE X b tb) (hm : behindInMarks op b = false) : PE X (.Compare a [op] [b] pos) (tOp r ta tb) := by
  intro pins s σ H Q I h
  exact wpAny_Compare1 (binT ha hb I h fun v u s2 x y H2 I2 rx ry q => ho pins s2 σ H2 x y v u Q I2 rx ry q) hm
noncomputable def tTest (t : TE) : TT := fun σ H Q => t σ H fun x H' => BlR x H' Q
theorem pt_cmpR {op : CmpOp} {r : R2} (ho : OpR X (compareOp op) r) (ha : PE X a ta) (hb : PE X b tb) (hm : behindInMarks op b = false) : PT X (.Compare a [op] [b] pos) (tTest (tOp r ta tb)) := by
  intro pins s σ H Q I h
  refine wpAny_isTrue_Compare1 (thn (ha pins s σ H _ I h) fun v s1 ⟨x, H1, I1, r1, q1⟩ => thn (hb pins s1 σ H1 _ I1 q1) fun u s2 ⟨y, H2, I2, r2, q2⟩ =>
    thn (ho pins s2 σ H2 x y v u _ I2 r1 r2 q2) fun c s3 ⟨z, H3, I3, r3, k, e, q3⟩ => ?_) hm
  subst e
  cases r3
  exact wpAny_truthy_bool ⟨H3, I3, q3⟩
noncomputable def TruV (K : PySem.W.Frag) (x : V) (H : Hp) (k : Bool) : Prop :=
  match x with
  | .non => k = false
  | .bl b => k = b
  | .int i => k = (i != 0)
  | .str y => y.length ≤ sizeLine ∧ k = ((y.length : Int) != 0)
  | .byt y => y.size ≤ sizeLine ∧ k = ((y.size : Int) != 0)
  | .ref p => (∃ xs, SqL K H p xs ∧ k = !xs.isEmpty) ∨ (∃ xs, SqT K H p xs ∧ k = !xs.isEmpty) ∨ ∃ kvs, H p = some (.dK kvs) ∧ k = !kvs.isEmpty
  | _ => False
theorem isEmpty_kv {κ : Type} {kvs : List (κ × V)} {vs : List (κ × Value)} (r : KV kvs vs) : (!vs.isEmpty) = !kvs.isEmpty := by
  cases r <;> rfl
theorem isEmpty_of {xs : List V} {its : List Value} (r : Vals xs its) : (!its.toArray.isEmpty) = !xs.isEmpty := by
  cases r <;> simp
theorem line63 : (sizeLine : Nat) < 2 ^ 63 := by rw [sizeLine_eq]; decide
theorem tru_ok : TruR X (fun x H Q => ∃ k, TruV X.K x H k ∧ Q k H) := by
  intro pins s σ H x v Q I rx h
  obtain ⟨k, e, q⟩ := h
  have hl := line63
  have hs : sizeLine = 16777216 := sizeLine_eq
  cases x with
  | non =>
    cases rx
    have e' : k = false := e
    subst e'
    exact truthy_none ⟨H, I, q⟩
  | bl b =>
    cases rx
    have e' : k = b := e
    subst e'
    exact wpAny_truthy_bool ⟨H, I, q⟩
  | int i =>
    obtain ⟨t, rfl⟩ := rx
    have e' : k = (i != 0) := e
    subst e'
    exact PySem.P.truthy_int ⟨H, I, q⟩
  | str y =>
    obtain ⟨t, rfl⟩ := rx
    obtain ⟨hy, e'⟩ : y.length ≤ sizeLine ∧ k = ((y.length : Int) != 0) := e
    subst e'
    exact PySem.P.truthy_str (by omega) ⟨H, I.tok _, q⟩
  | byt y =>
    obtain ⟨t, rfl⟩ := rx
    obtain ⟨hy, e'⟩ : y.size ≤ sizeLine ∧ k = ((y.size : Int) != 0) := e
    subst e'
    exact PySem.W.truthy_bytes (by omega) ⟨H, I.tok _, q⟩
  | ref p =>
    cases rx
    have e' : (∃ xs, SqL X.K H p xs ∧ k = !xs.isEmpty) ∨ (∃ xs, SqT X.K H p xs ∧ k = !xs.isEmpty) ∨ ∃ kvs, H p = some (.dK kvs) ∧ k = !kvs.isEmpty := e
    rcases e' with ⟨xs, hx, e'⟩ | ⟨xs, hx, e'⟩ | ⟨kvs, hx, e'⟩
    · subst e'
      obtain ⟨its, r, pl, hz⟩ := I.list hx
      have hlen := r.length
      exact wpAny_truthy_list pl.isList (by simp only [List.size_toArray]; omega) ⟨H, I.tok _, by rw [isEmpty_of r]; exact q⟩
    · subst e'
      obtain ⟨its, r, pl, hz⟩ := I.tuple hx
      have hlen := r.length
      exact truthy_tuple pl (by simp only [List.size_toArray]; omega) ⟨H, I.tok _, by rw [isEmpty_of r]; exact q⟩
    · subst e'
      obtain ⟨hz, hS, vs, r, m⟩ : kvs.length ≤ sizeLine ∧ (p == sysModules) = false ∧ ∃ vs, KV kvs vs ∧ s.heap.DictOf (mixKind X.prog X.w) p vs := I.hok p _ hx
      have hlen : kvs.length = vs.length := Paired.length r
      exact wpAny_truthy_dict hS m (by omega) ⟨H, I.tok _, by rw [isEmpty_kv r]; exact q⟩
  | _ => exact (show False from e).elim
theorem pt_truth (ha : PE X a ta) (he : ∀ whole, isTrue a X.env whole = (do let v ← whole; standAt a.pos; holding [v] (truthy v))) :
    PT X a (fun σ H Q => ta σ H fun x H' => ∃ k, TruV X.K x H' k ∧ Q k H') := by
  intro pins s σ H Q I h
  exact isTrue_plain (thn (ha pins s σ H _ I h) fun v s1 ⟨x, H1, I1, r1, q1⟩ => tru_ok pins s1 σ H1 x v Q I1 r1 q1) (he _)

theorem vals1 {x : V} {us : List Value} (r : Vals [x] us) : ∃ u, us = [u] ∧ RelV x u := by
  cases r with
  | cons r1 r2 => cases r2; exact ⟨_, rfl, r1⟩
theorem vals2 {x y : V} {us : List Value} (r : Vals [x, y] us) : ∃ u w', us = [u, w'] ∧ RelV x u ∧ RelV y w' := by
  cases r with
  | cons r1 r2 =>
    cases r2 with
    | cons r3 r4 => cases r4; exact ⟨_, _, rfl, r1, r3⟩
theorem call_abs : CallR X (.builtin "abs") (fun xs H Q => ∃ i, xs = [.int i] ∧ Q (.int (if i < 0 then -i else i)) H) := by
  intro pins s σ H xs us Q I r h
  obtain ⟨i, rfl, q⟩ := h
  obtain ⟨u, rfl, t, rfl⟩ := vals1 r
  exact call_abs_int fun u tk => ⟨.int (if i < 0 then -i else i), H, I.tok _, ⟨_, rfl⟩, q⟩
theorem call_max2 (hc : X.calm = true) : CallR X (.builtin "max") (fun xs H Q => ∃ i j, xs = [.int i, .int j] ∧ Q (.int (if j > i then j else i)) H) := by
  intro pins s σ H xs us Q I r h
  obtain ⟨i, j, rfl, q⟩ := h
  obtain ⟨u, w', rfl, ⟨t, rfl⟩, ⟨t', rfl⟩⟩ := vals2 r
  refine max_two_ints (I.ok.hd hc) fun h' tk k => ⟨_, H, I.kept k, ?_, q⟩
  by_cases hj : j > i
  · rw [if_pos hj, if_pos hj]; exact ⟨_, rfl⟩
  · rw [if_neg hj, if_neg hj]; exact ⟨_, rfl⟩
theorem call_min2 (hc : X.calm = true) : CallR X (.builtin "min") (fun xs H Q => ∃ i j, xs = [.int i, .int j] ∧ Q (.int (if j < i then j else i)) H) := by
  intro pins s σ H xs us Q I r h
  obtain ⟨i, j, rfl, q⟩ := h
  obtain ⟨u, w', rfl, ⟨t, rfl⟩, ⟨t', rfl⟩⟩ := vals2 r
  refine min_two_ints (I.ok.hd hc) fun h' tk k => ⟨_, H, I.kept k, ?_, q⟩
  by_cases hj : j < i
  · rw [if_pos hj, if_pos hj]; exact ⟨_, rfl⟩
  · rw [if_neg hj, if_neg hj]; exact ⟨_, rfl⟩
theorem call_int1 : CallR X (.type "int") (fun xs H Q => (∃ i, xs = [.int i] ∧ Q (.int i) H) ∨ ∃ k, xs = [.bl k] ∧ Q (.int (if k then 1 else 0)) H) := by
  intro pins s σ H xs us Q I r h
  rcases h with ⟨i, rfl, q⟩ | ⟨k, rfl, q⟩
  · obtain ⟨u, rfl, t, rfl⟩ := vals1 r
    exact call_int_int ⟨.int i, H, I, ⟨_, rfl⟩, q⟩
  · obtain ⟨u, rfl, r1⟩ := vals1 r
    cases r1
    exact call_int_bool ⟨.int (if k then 1 else 0), H, I.tok _, ⟨_, rfl⟩, q⟩
end
end L2

namespace L2
open PySem PySem.Spec PyProof.Rows

structure ObjM (h : Heap) (x dx C : Addr) (mA : Str → Option Value) : Prop where
  obj : h.get? x = some (PySem.W.instObj C dx)
  ns : h.Ns1 dx mA
  ne : dx ≠ x

theorem lookIn_ns {h : Heap} {dx : Addr} {mA : Str → Option Value} (n : h.Ns1 dx mA) : ∃ od, h.get? dx = some od ∧ ∀ name, PySem.W.lookIn name od = some (mA name) := by
  obtain ⟨o, es, ep, ho, hd, hk, _, hm⟩ := n
  refine ⟨o, ho, fun name => ?_⟩
  have e := hm name
  unfold nsFind findBy at e
  rw [← Array.find?_toList] at e
  unfold PySem.W.lookIn
  rw [hd]
  dsimp only
  split
  · rename_i y q
    rw [q] at e
    exact congrArg some e
  · rename_i q
    rw [q] at e
    have a : es.toList.any (·.refKey) = false := by
      rw [List.any_eq_false]
      intro y hy
      obtain ⟨z, t, hkey⟩ := hk y (Array.mem_toList_iff.mp hy)
      simp [DictEntry.refKey, hkey]
    have a' : ¬ es.toList.any (·.refKey) = true := by rw [a]; exact Bool.false_ne_true
    rw [if_neg a']
    exact congrArg some e

theorem ObjM.look {h : Heap} {x dx C : Addr} {mA : Str → Option Value} (I : ObjM h x dx C mA) : ∃ od, PySem.W.InstAt h x (PySem.W.instObj C dx) C (some od) ∧ ∀ name, PySem.W.lookIn name od = some (mA name) :=
  let ⟨od, ho, hl⟩ := lookIn_ns I.ns
  ⟨od, ⟨I.obj, rfl, rfl, ho⟩, hl⟩

section
variable {prog : Program} {w : World} {A : Around} {E : Value → Shared → Prop} {s : Shared} {K : PySem.W.Frag} {x dx C f : Addr} {mA : Str → Option Value} {name : Str} {v : Value}

theorem get_map {expr : Bool} {Q : Value → Shared → Prop} (X : K.In s.heap) (I : ObjM s.heap x dx C mA) (hg : PySem.W.plainGet K C name = true) (hh : PySem.W.hasDictIn K C = true)
    (ha : PySem.W.findIn K (.ref C) name = some none) (hv : mA name = some v) (hv' : PySem.W.handedIn v = true) (h : Q v { s with toks := s.toks + 1 }) :
    wpAny (model prog w) A (getAttr (.ref x) name expr) Q E s := by
  obtain ⟨od, J, hl⟩ := I.look
  exact PySem.W.get_value X J (PySem.W.plainGet_of hg).1 (PySem.W.findObj_own hh ha rfl (by rw [hl, hv])) hv' h

theorem get_meth {pl : Sem Bool} {Q : Value × List Value → Shared → Prop} (X : K.In s.heap) (I : ObjM s.heap x dx C mA) (hg : PySem.W.plainGet K C name = true)
    (hf : PySem.W.findIn K (.ref C) name = some (some (.ref f))) (ht : PySem.W.isFn K (.ref f) = true) (hv : mA name = none) (h : Q (.ref f, [.ref x]) s) :
    wpAny (model prog w) A (getMethod (.ref x) name pl) Q E s := by
  obtain ⟨od, J, hl⟩ := I.look
  exact PySem.W.method_fn X J (PySem.W.plainGet_of hg).1 (PySem.W.plainGet_of hg).2 hf (beq_iff_eq.mp ht) (by show (PySem.W.lookIn name od).map (·.isSome) = some false; rw [hl, hv]; rfl) h

theorem set_map {ns : List Str} {Q : Unit → Shared → Prop} (X : K.In s.heap) (I : ObjM s.heap x dx C mA)
    (hs : PySem.W.findIn K (.ref C) "__setattr__" = some (some (.builtin "object.__setattr__"))) (hp : PySem.W.plainOver K C = true) (ht : PySem.W.takerIn K C name = some none) (hh : PySem.W.hasDictIn K C = true)
    (hw : PySem.Within mA ns) (hsz : ns.length ≤ sizeLine)
    (h : ∀ h', ObjM h' x dx C (fun y => if y = name then some v else mA y) → Heap.SameBut dx s.heap h' → Q () { s with heap := h', toks := s.toks + 2 }) :
    wpAny (model prog w) A (setAttr (.ref x) name v) Q E s := by
  obtain ⟨od, J, hl⟩ := I.look
  refine PySem.W.set_plain X J hs (PySem.W.osa_open (s := { s with toks := s.toks + 1 }) (r := none) X J hp ht fun b => ?_)
  obtain ⟨cd, hc, hd'⟩ := PySem.W.any_some hh
  have hx : s.heap.get? x = some ⟨.ref C, some dx, .plain, #[]⟩ := I.obj
  refine wpAny_bind (wpAny_pure (wpAny_bind (wpAny_bind (wpAny_loadPart hx (wpAny_bind (PySem.W.Looks.here (s := { s with toks := s.toks + 1 }) (PySem.W.looks_clsIn X hc) ?_))))))
  rw [hd']
  refine wpAny_pure (a := some dx) (wpAny_bind (wpAny_pure (wpAny_bind ?_)))
  refine wpAny_nsSet1 (s := { s with toks := s.toks + 1 }) I.ns fun h' hn2 hs2 => ?_
  obtain ⟨oD, esD, epD, hoD, hdD, hcD⟩ := hn2.count (PySem.Within.cons name v hw)
  refine wpAny_bind (wpAny_lookBehind hoD (by rw [hdD]; exact pastItsLine_dict (Nat.le_trans hcD (by rw [List.length_cons]; omega))) ?_)
  exact wpAny_pure (h _ ⟨(hs2.2 _ (Ne.symm I.ne)).trans I.obj, hn2, I.ne⟩ hs2)

theorem make_map {R : Result → Shared → Prop} {vs : List Value} {kw : List (Str × Value)} (X : K.In s.heap) (hm : PySem.W.makesIn K C = true)
    (hi : PySem.W.findIn K (.ref C) "__init__" = some (some (.ref f))) (hf : PySem.W.typeIn K (.ref f) = some (.type "function"))
    (h : codeAny (model prog w) (A.under (.builtin "type.__call__" ⟨.ref C :: vs, kw⟩)) (.call (.ref f) ⟨.ref (s.heap.objs.size + 1) :: vs, kw⟩) (PySem.W.InitBack (s.heap.objs.size + 1) R)
      { s with heap := (s.heap.push PySem.W.emptyDict).push (PySem.W.instObj C s.heap.objs.size) }) :
    codeAny (model prog w) A (.call (.ref C) ⟨vs, kw⟩) R s := by
  obtain ⟨hh, g, d, t, os⟩ := s
  exact PySem.W.make_core (PySem.W.makes_of X hm) (PySem.W.looks_findIn X hi) (fun self => PySem.W.bind_fn X self hf) (.inl rfl) h
end

noncomputable def putF (f : Str) (v : V) : List (Str × V) → List (Str × V)
  | [] => [(f, v)]
  | (g, x) :: r => if g = f then (g, v) :: r else (g, x) :: putF f v r
theorem lookup_putF (f g : Str) (v : V) : ∀ fs : List (Str × V), (putF f v fs).lookup g = if g = f then some v else fs.lookup g
  | [] => by
    show List.lookup g [(f, v)] = _
    by_cases h : g = f
    · have hb : (g == f) = true := beq_iff_eq.mpr h
      simp only [List.lookup, hb, if_pos h]
    · have hb : (g == f) = false := beq_eq_false_iff_ne.mpr h
      simp only [List.lookup, hb, if_neg h]
  | (k, x) :: r => by
    have ih := lookup_putF f g v r
    rw [show putF f v ((k, x) :: r) = (if k = f then (k, v) :: r else (k, x) :: putF f v r) from rfl]
    by_cases hk : k = f
    · rw [if_pos hk]
      by_cases h : g = k
      · have hb : (g == k) = true := beq_iff_eq.mpr h
        simp only [List.lookup, hb, if_pos (h.trans hk)]
      · have hb : (g == k) = false := beq_eq_false_iff_ne.mpr h
        simp only [List.lookup, hb, if_neg (fun e : g = f => h (e.trans hk.symm))]
    · rw [if_neg hk]
      by_cases h : g = k
      · have hb : (g == k) = true := beq_iff_eq.mpr h
        simp only [List.lookup, hb, if_neg (fun e : g = f => hk (h.symm.trans e))]
      · have hb : (g == k) = false := beq_eq_false_iff_ne.mpr h
        simp only [List.lookup, hb]
        exact ih
theorem keys_putF (f : Str) (v : V) : ∀ fs : List (Str × V), f ∈ (putF f v fs).map (·.1) ∧ ∀ g, g ∈ fs.map (·.1) → g ∈ (putF f v fs).map (·.1)
  | [] => ⟨by simp [putF], fun g h => by simp at h⟩
  | (k, x) :: r => by
    obtain ⟨i1, i2⟩ := keys_putF f v r
    rw [show putF f v ((k, x) :: r) = (if k = f then (k, v) :: r else (k, x) :: putF f v r) from rfl]
    by_cases hk : k = f
    · rw [if_pos hk]
      subst hk
      exact ⟨by simp, fun g h => by simpa using h⟩
    · rw [if_neg hk]
      refine ⟨?_, fun g h => ?_⟩
      · rw [List.map_cons]
        exact List.mem_cons_of_mem _ i1
      · rw [List.map_cons] at h ⊢
        rcases List.mem_cons.mp h with e | e
        · exact List.mem_cons.mpr (.inl e)
        · exact List.mem_cons_of_mem _ (i2 g e)
theorem length_putF (f : Str) (v : V) : ∀ fs : List (Str × V), (putF f v fs).length ≤ fs.length + 1
  | [] => by simp [putF]
  | (k, x) :: r => by
    have ih := length_putF f v r
    rw [show putF f v ((k, x) :: r) = (if k = f then (k, v) :: r else (k, x) :: putF f v r) from rfl]
    by_cases hk : k = f
    · rw [if_pos hk, List.length_cons, List.length_cons]; omega
    · rw [if_neg hk, List.length_cons, List.length_cons]; omega

theorem RelO.some_of {v : V} {o : Option Value} (r : RelO (some v) o) : ∃ u, o = some u ∧ RelV v u := by
  cases o with
  | none => exact (show False from r).elim
  | some u => exact ⟨u, rfl, r⟩
theorem RelO.none_of {o : Option Value} (r : RelO none o) : o = none := by
  cases o with
  | none => rfl
  | some u => exact (show False from r).elim
theorem handed_of {v : V} {u : Value} (r : RelV v u) : PySem.W.handedIn u = true := by
  cases v with
  | non => cases (show u = Value.none from r); rfl
  | bl b => cases (show u = Value.bool b from r); rfl
  | int i => obtain ⟨t, e⟩ := (show ∃ t, u = Value.int i t from r); cases e; rfl
  | str x => obtain ⟨t, e⟩ := (show ∃ t, u = Value.str x t from r); cases e; rfl
  | byt b => obtain ⟨t, e⟩ := (show ∃ t, u = Value.bytes b t from r); cases e; rfl
  | flt b => obtain ⟨t, e⟩ := (show ∃ t, u = Value.float b t from r); cases e; rfl
  | ref a => cases (show u = Value.ref a from r); rfl
  | ty n => cases (show u = Value.type n from r); rfl

section
variable {P : Program} {w : World} {H H' : Hp} {h h' : Heap} {a C dx : Addr} {fs fs' : List (Str × V)}
theorem ins_get (hok : HOk P w H h) (e : H a = some (.ins C dx fs)) : ∃ mA, ObjM h a dx C mA ∧ (∀ f, RelO (fs.lookup f) (mA f)) ∧ PySem.Within mA (fs.map (·.1)) ∧ fs.length ≤ 1000 ∧ H dx = some (.own a) := by
  obtain ⟨d, z, ne, ob, mA, n, r, q⟩ := (show ObjOk P w H h a (.ins C dx fs) from hok a _ e)
  exact ⟨mA, ⟨ob, n, ne⟩, r, q, z, d⟩
end

structure Cls (K : PySem.W.Frag) (C : Addr) : Prop where
  pg : PySem.W.plainGet K C Str.empty = true
  hd : PySem.W.hasDictIn K C = true
  po : PySem.W.plainOver K C = true
  sa : PySem.W.findIn K (.ref C) "__setattr__" = some (some (.builtin "object.__setattr__"))
theorem Cls.get {K : PySem.W.Frag} {C : Addr} (c : Cls K C) (f : Str) : PySem.W.plainGet K C f = true := c.pg
noncomputable def NoAttr (K : PySem.W.Frag) (C : Addr) (f : Str) : Prop := PySem.W.findIn K (.ref C) f = some none
theorem NoAttr.taker {K : PySem.W.Frag} {C : Addr} {f : Str} (n : NoAttr K C f) : PySem.W.takerIn K C f = some none := by
  unfold PySem.W.takerIn
  rw [show PySem.W.findIn K (.ref C) f = some none from n]
  rfl
structure Meth (K : PySem.W.Frag) (C : Addr) (m : Str) (f : Addr) : Prop where
  at_ : PySem.W.findIn K (.ref C) m = some (some (.ref f))
  fn : PySem.W.isFn K (.ref f) = true
  kp : PySem.W.keepIn K (.ref f) = true

section
variable {X : Cx} {pins : List (Addr × Obj)} {σ : St} {H : Hp} {s : Shared} {a C dx : Addr} {fs : List (Str × V)} {f : Str} {v : V} {A : Around} {E : Value → Shared → Prop}

theorem getattr_ok {b : Bool} {Q : Value → Shared → Prop} (I : Inv X pins σ H s) (e : H a = some (.ins C dx fs)) (c : Cls X.K C) (n : NoAttr X.K C f) (l : fs.lookup f = some v)
    (h : ∀ u s', Inv X pins σ H s' → RelV v u → Q u s') : wpAny (model X.prog X.w) A (getAttr (.ref a) f b) Q E s := by
  obtain ⟨mA, O, r, _, _, _⟩ := ins_get I.hok e
  obtain ⟨u, hu, ru⟩ := RelO.some_of (v := v) (o := mA f) (by rw [← l]; exact r f)
  exact get_map I.kIn O (c.get f) c.hd n hu (handed_of ru) (h u _ (I.tok _) ru)

theorem getmeth_ok {m : Str} {g : Addr} {pl : Sem Bool} {Q : Value × List Value → Shared → Prop} (I : Inv X pins σ H s) (e : H a = some (.ins C dx fs)) (c : Cls X.K C) (k : Meth X.K C m g) (l : fs.lookup m = none)
    (h : Q (.ref g, [.ref a]) s) : wpAny (model X.prog X.w) A (getMethod (.ref a) m pl) Q E s := by
  obtain ⟨mA, O, r, _, _, _⟩ := ins_get I.hok e
  have hn : mA m = none := RelO.none_of (by rw [← l]; exact r m)
  exact get_meth I.kIn O (c.get m) k.at_ k.fn hn h

theorem setattr_ok {y : V} {u : Value} {Q : Unit → Shared → Prop} (I : Inv X pins σ H s) (e : H a = some (.ins C dx fs)) (c : Cls X.K C) (n : NoAttr X.K C f) (hl : fs.length < 1000) (ry : RelV y u)
    (h : ∀ s', Inv X pins σ (upd H a (.ins C dx (putF f y fs))) s' → Q () s') : wpAny (model X.prog X.w) A (setAttr (.ref a) f u) Q E s := by
  obtain ⟨mA, O, r, wi, _, ho⟩ := ins_get I.hok e
  have hz : (fs.map (·.1)).length ≤ sizeLine := by rw [List.length_map, sizeLine_eq]; omega
  refine set_map I.kIn O c.sa c.po n.taker c.hd wi hz fun h' O' sb => h _ ?_
  have hd : ∃ o, h'.get? dx = some o := let ⟨o, _, _, e', _⟩ := O'.ns; ⟨o, e'⟩
  refine I.write (x := a) (e := dx) (by rw [e]; exact True.intro) (.inr ho) (fun b q hb z => (sb.2 b hb).trans z) hd ?_
  refine ⟨by rw [upd_ne O.ne]; exact ho, ?_, O.ne, O'.obj, _, O'.ns, fun g => ?_, fun g hg => ?_⟩
  · have := length_putF f y fs; omega
  · show RelO ((putF f y fs).lookup g) (if g = f then some u else mA g)
    rw [lookup_putF]
    by_cases q : g = f
    · rw [if_pos q, if_pos q]; exact ry
    · rw [if_neg q, if_neg q]; exact r g
  · by_cases q : g = f
    · rw [q]; exact (keys_putF f y fs).1
    · refine (keys_putF f y fs).2 g (wi g fun z => hg ?_)
      show (if g = f then some u else mA g) = none
      rw [if_neg q]; exact z

theorem Inv.made (I : Inv X pins σ H s) : Inv X pins σ (upd (upd H s.heap.objs.size (.own (s.heap.objs.size + 1))) (s.heap.objs.size + 1) (.ins C s.heap.objs.size []))
    { s with heap := (s.heap.push PySem.W.emptyDict).push (PySem.W.instObj C s.heap.objs.size) } := by
  have e1 : (s.heap.push PySem.W.emptyDict).get? s.heap.objs.size = some PySem.W.emptyDict := Heap.get?_push_size s.heap rfl
  have e2 : ((s.heap.push PySem.W.emptyDict).push (PySem.W.instObj C s.heap.objs.size)).get? (s.heap.objs.size + 1) = some (PySem.W.instObj C s.heap.objs.size) := by
    have := Heap.get?_push_size (s.heap.push PySem.W.emptyDict) (o := PySem.W.instObj C s.heap.objs.size) rfl
    rwa [Heap.size_push] at this
  have e3 : (s.heap.push PySem.W.emptyDict).Ns s.heap.objs.size (fun _ => none) := ⟨PySem.W.emptyDict, #[], _, e1, rfl, (fun e he => absurd he (by simp)), fun _ => rfl⟩
  have I1 := I.laid (a := s.heap.objs.size) (o := .own (s.heap.objs.size + 1)) (h' := s.heap.push PySem.W.emptyDict) (t' := s.toks) (fun b u q => Heap.get?_push_of_some _ q) (Nat.le_refl _) ⟨_, e1⟩
  refine I1.laid (a := s.heap.objs.size + 1) (o := .ins C s.heap.objs.size []) (t' := s.toks) (fun b u q => Heap.get?_push_of_some _ q) (Nat.le_of_eq (Heap.size_push _ _)) ?_
  have ne : s.heap.objs.size ≠ s.heap.objs.size + 1 := Nat.ne_of_lt (Nat.lt_succ_self _)
  refine ⟨by rw [upd_ne ne, upd_same], Nat.zero_le _, ne, e2, fun _ => none, (Heap.Ns1.of_empty e3).at fun o q => Heap.get?_push_of_some _ q, fun _ => True.intro, fun y hy => absurd rfl hy⟩

theorem attr_of {prog : Program} {w : World} {env : Env} {e : Expr} {f : Str} {pos : Pos} {s : Shared} {Q : Value → Shared → Prop} (hb : attributeBase e f env (eval e env) = eval e env)
    (h : wpAny (model prog w) A (eval e env) (fun o s₁ => wpAny (model prog w) A (getAttr o f true) Q E s₁) E s) : wpAny (model prog w) A (eval (.Attribute e f pos) env) Q E s :=
  Attribute_any_ h (by rw [arm_eval_Attribute, hb])
end

noncomputable def tFld (K : PySem.W.Frag) (ta : TE) (f : Str) : TE := fun σ H Q => ta σ H fun x H1 => ∃ a C dx fs v, x = .ref a ∧ H1 a = some (.ins C dx fs) ∧ Cls K C ∧ NoAttr K C f ∧ fs.lookup f = some v ∧ Q v H1
noncomputable def sFld (K : PySem.W.Frag) (ta tv : TE) (f : Str) : TS := fun D σ H => tv σ H fun y H1 => ta σ H1 fun x H2 => ∃ a C dx fs, x = .ref a ∧ H2 a = some (.ins C dx fs) ∧ Cls K C ∧ NoAttr K C f ∧ fs.length < 1000 ∧
  D.nx σ (upd H2 a (.ins C dx (putF f y fs)))
section
variable {X : Cx} {o e value : Expr} {f : Str} {pos pos' tpos : Pos} {ta tv : TE}
theorem pe_fld (he : PE X e ta) (hb : attributeBase e f X.env (eval e X.env) = eval e X.env) : PE X (.Attribute e f pos) (tFld X.K ta f) := by
  intro pins s σ H Q I h
  refine attr_of hb (thn (he pins s σ H _ I h) fun u s1 ⟨x, H1, I1, rx, a, C, dx, fs, v, ex, ea, c, n, l, q⟩ => ?_)
  subst ex
  obtain rfl : u = Value.ref a := rx
  exact getattr_ok I1 ea c n l fun u' s2 I2 ru => ⟨v, H1, I2, ru, q⟩
theorem ps_fld (ha : PE X o ta) (hv : PE X value tv) (hs : swapsWith value (some (.Attribute o f pos')) pos.line X.env = pure false) : PS X (.Assign [.Attribute o f pos'] value pos) (sFld X.K ta tv f) := by
  intro pins s σ H D I h
  refine plainObj_wpAny_Assign_Attribute (thn (hv pins s σ H _ I h) fun u s1 ⟨y, H1, I1, ry, q⟩ => thn (ha pins s1 σ H1 _ I1 q) fun ov s2 ⟨x, H2, I2, rx, a, C, dx, fs, ex, ea, c, n, l, q2⟩ => ?_) hs
  subst ex
  obtain rfl : ov = Value.ref a := rx
  exact setattr_ok I2 ea c n l ry fun s3 I3 => ⟨σ, _, I3, q2⟩
end

section
variable {X : Cx} {pins : List (Addr × Obj)} {σ : St} {H : Hp} {s : Shared} {A : Around} {E : Value → Shared → Prop} {Q : Value → Shared → Prop} {c : Value} {b : Bool}
inductive TyOf (K : PySem.W.Frag) (H : Hp) : V → Value → Prop where
  | non : TyOf K H .non (.type "NoneType")
  | bl (x : Bool) : TyOf K H (.bl x) (.type "bool")
  | int (i : Int) : TyOf K H (.int i) (.type "int")
  | str (x : Str) : TyOf K H (.str x) (.type "str")
  | flt (x : UInt64) : TyOf K H (.flt x) (.type "float")
  | lst {a : Addr} {xs : List V} (e : H a = some (.lst xs)) : TyOf K H (.ref a) (.type "list")
  | frz {a : Addr} {o : Obj} {xs : List V} (e : H a = some (.frz o (.lst xs))) : TyOf K H (.ref a) (.type "list")
  | tup {a : Addr} {xs : List V} (e : H a = some (.tup xs)) : TyOf K H (.ref a) (.type "tuple")
  | dK {a : Addr} {kvs : List (Key × V)} (e : H a = some (.dK kvs)) : TyOf K H (.ref a) (.type "dict")
  | dT {a : Addr} {kvs : List (List Key × V)} (e : H a = some (.dT kvs)) : TyOf K H (.ref a) (.type "dict")
  | ins {a C dx : Addr} {fs : List (Str × V)} (e : H a = some (.ins C dx fs)) (cl : Cls K C) (ha : PySem.W.findIn K (.ref C) "__class__" = some (some (.builtin "object.__class__")))
      (hn : PySem.W.specialIn K (.builtin "object.__class__") "__get__" = some (some (.builtin "getset_descriptor.__get__"))) (htk : PySem.W.takesIn K (.builtin "object.__class__") = some true)
      (hm : PySem.W.mroIn K C (.type "object") = some true) : TyOf K H (.ref a) (.ref C)
theorem isinst_ok {x : V} {u t : Value} (I : Inv X pins σ H s) (rx : RelV x u) (ty : TyOf X.K H x t) (e : PySem.W.kitOne X.K t c = some b) (h : ∀ tk, Q (.bool b) { s with toks := tk }) :
    wpAny (model X.prog X.w) A (call (.builtin "isinstance") [u, c]) Q E s := by
  cases ty with
  | non => cases (show u = Value.none from rx); exact PySem.W.kia_one PySem.W.kitx_none I.kIn True.intro e (fun z => nomatch z) h
  | bl y => cases (show u = Value.bool y from rx); exact PySem.W.kia_one PySem.W.kitx_bool I.kIn True.intro e (fun z => nomatch z) h
  | int i => obtain ⟨t, q⟩ := (show ∃ t, u = Value.int i t from rx); cases q; exact PySem.W.kia_one PySem.W.kitx_int I.kIn True.intro e (fun z => nomatch z) h
  | str y => obtain ⟨t, q⟩ := (show ∃ t, u = Value.str y t from rx); cases q; exact PySem.W.kia_one PySem.W.kitx_str I.kIn True.intro e (fun z => nomatch z) h
  | flt y => obtain ⟨t, q⟩ := (show ∃ t, u = Value.float y t from rx); cases q; exact PySem.W.kia_one PySem.W.kitx_float I.kIn True.intro e (fun z => nomatch z) h
  | @lst a xs ea =>
    cases (show u = Value.ref a from rx)
    obtain ⟨_, _, n, _, h1⟩ := (show ObjOk X.prog X.w H s.heap a (.lst xs) from I.hok a _ ea)
    exact PySem.W.kia_one PySem.W.kitx_list I.kIn ⟨_, h1, rfl⟩ e (fun z => nomatch z) h
  | @frz a ob xs ea =>
    cases (show u = Value.ref a from rx)
    obtain ⟨_, _, _, n, _, h1⟩ := (show ObjOk X.prog X.w H s.heap a (.frz ob (.lst xs)) from I.hok a _ ea)
    exact PySem.W.kia_one PySem.W.kitx_list I.kIn ⟨_, h1, rfl⟩ e (fun z => nomatch z) h
  | @tup a xs ea =>
    cases (show u = Value.ref a from rx)
    obtain ⟨_, _, _, p, _⟩ := (show ObjOk X.prog X.w H s.heap a (.tup xs) from I.hok a _ ea)
    obtain ⟨o, h1, h2, _⟩ := p
    exact PySem.W.kia_one PySem.W.kitx_tuple I.kIn ⟨o, h1, h2⟩ e (fun z => nomatch z) h
  | @dK a kvs ea =>
    cases (show u = Value.ref a from rx)
    obtain ⟨_, _, vs, _, p⟩ := (show ObjOk X.prog X.w H s.heap a (.dK kvs) from I.hok a _ ea)
    obtain ⟨o, es, ep, h1, h2, _⟩ := p
    exact PySem.W.kia_one PySem.W.kitx_dict I.kIn ⟨o, h1, h2.1⟩ e (fun z => nomatch z) h
  | @dT a kvs ea =>
    cases (show u = Value.ref a from rx)
    obtain ⟨_, _, xs, _, o, es, ep, h1, h2, _⟩ := (show ObjOk X.prog X.w H s.heap a (.dT kvs) from I.hok a _ ea)
    exact PySem.W.kia_one PySem.W.kitx_dict I.kIn ⟨o, h1, h2.1⟩ e (fun z => nomatch z) h
  | @ins a C dx fs ea cl ha hn htk hm =>
    cases (show u = Value.ref a from rx)
    obtain ⟨mA, O, _⟩ := ins_get I.hok ea
    obtain ⟨od, J, _⟩ := O.look
    exact PySem.W.kia_one (PySem.W.kitx_own (cl.get _) cl.hd ha hn htk hm) I.kIn J e (fun z => nomatch z) h
end
end L2

namespace L2
open PySem PySem.Spec PyProof.Rows

structure Room (k : Nat) (A : Around) : Prop where
  hd : A.handled = none
  dp : A.depth + 3 * k + 5 < recursionLimit
  un : A.units + 16 * k + 200 < cLine
theorem Room.mono {j k : Nat} {A : Around} (r : Room k A) (h : j ≤ k) : Room j A := ⟨r.hd, by have := r.dp; omega, by have := r.un; omega⟩
theorem Room.deeper {k : Nat} {A : Around} (r : Room (k + 1) A) (env : Env) : Room k (A.deeper env) :=
  ⟨r.hd, by have := r.dp; show A.depth + 1 + 3 * k + 5 < _; omega, by have := r.un; show A.units + 3 + 16 * k + 200 < _; omega⟩
theorem Room.in1 {k : Nat} {A : Around} (r : Room (k + 1) A) : Room k A.in1 :=
  ⟨r.hd, by have := r.dp; show A.depth + 3 * k + 5 < _; omega, by have := r.un; show A.units + 1 + 16 * k + 200 < _; omega⟩
theorem make_depth {A : Around} {C : Addr} {us : List Value} {kw : List (Str × Value)} : (A.under (.builtin "type.__call__" ⟨.ref C :: us, kw⟩)).depth = A.depth + 1 := by
  first | rfl | simp [Around.under, Code.weight, Code.isCreation, Code.isGuard, Code.isCaller, Code.frames, Code.isFrame, guardIds]
theorem make_units {A : Around} {C : Addr} {us : List Value} {kw : List (Str × Value)} : (A.under (.builtin "type.__call__" ⟨.ref C :: us, kw⟩)).units = A.units + 1 := by
  first | rfl | simp [Around.under, Code.cUnits, Code.frames, Code.isFrame]
theorem Room.make {k : Nat} {A : Around} (r : Room (k + 1) A) (C : Addr) (us : List Value) (kw : List (Str × Value)) : Room k (A.under (.builtin "type.__call__" ⟨.ref C :: us, kw⟩)) :=
  ⟨r.hd, by have := r.dp; rw [make_depth]; omega, by have := r.un; rw [make_units]; omega⟩
theorem Room.depth {k : Nat} {A : Around} (r : Room k A) : A.depth < recursionLimit := by have := r.dp; omega
theorem Room.units {k : Nat} {A : Around} (r : Room k A) : A.units + 64 < cLine := by have := r.un; omega
noncomputable def tNil : TA := fun _ H Q => Q [] H
noncomputable def tCons (ta : TE) (tr : TA) : TA := fun σ H Q => ta σ H fun x H1 => tr σ H1 fun xs H2 => Q (x :: xs) H2
section
variable {X : Cx} {e : Expr} {es : List Expr} {te : TE} {t : TA} {pos : Pos}
theorem pa_nil : PA X [] tNil := fun _ _ _ _ H Q I h => Calls.spliced_nil ⟨[], H, I, .nil, h⟩
theorem pa_cons (ha : PE X e te) (hr : PA X es t) (hs : starEach (e :: es) X.env = (false, eval e X.env) :: starEach es X.env := by rfl) : PA X (e :: es) (tCons te t) := by
  intro pos pins s σ H Q I h
  rw [hs]
  show wpAny _ _ (spliced ((false, eval e X.env) :: backTo pos (starEach es X.env))) _ _ s
  refine Calls.spliced_cons (thn (ha pins s σ H _ I h) fun u s1 ⟨x, H1, I1, r1, q1⟩ => ?_)
  exact thn (hr pos pins s1 σ H1 _ I1 q1) fun us s2 ⟨xs, H2, I2, r2, q2⟩ => ⟨x :: xs, H2, I2, .cons r1 r2, q2⟩

inductive TupNR (xs : List V) (H : Hp) (Q : VK) : Prop
  | mk (n : xs.length ≤ sizeLine) (q : ∀ p, H p = none → Q (.ref p) (upd H p (.tup xs))) : TupNR xs H Q
inductive LstNR (xs : List V) (H : Hp) (Q : VK) : Prop
  | mk (n : xs.length ≤ sizeLine) (q : ∀ p, H p = none → Q (.ref p) (upd H p (.lst xs))) : LstNR xs H Q
noncomputable def tTup (t : TA) : TE := fun σ H Q => t σ H fun xs H1 => TupNR xs H1 Q
noncomputable def tLst (t : TA) : TE := fun σ H Q => t σ H fun xs H1 => LstNR xs H1 Q
theorem pe_tup {x1} (h : PA X es t) : PE X (.Tuple es x1 pos) (tTup t) := by
  intro pins s σ H Q I hq
  refine wpAny_Tuple_spliced (thn (h pos pins s σ H _ I hq) fun us s1 ⟨xs, H1, I1, r, z, q⟩ => ⟨by rw [← r.length]; exact z, ?_⟩)
  have hf : H1 s1.heap.objs.size = none := I1.hok.fresh (Nat.le_refl _)
  refine ⟨.ref s1.heap.objs.size, upd H1 s1.heap.objs.size (.tup xs), I1.laid (t' := s1.toks) (fun b u e => Heap.get?_push_of_some _ e) (Nat.le_refl _) ?_, rfl, q _ hf⟩
  exact ⟨z, us, r, ⟨_, Heap.get?_push_size _ rfl, rfl, _, rfl⟩, _, Heap.get?_push_size _ rfl, rfl⟩
theorem pe_lst (h : PA X es t) : PE X (.List es pos) (tLst t) := by
  intro pins s σ H Q I hq
  refine wpAny_List_spliced (thn (h pos pins s σ H _ I hq) fun us s1 ⟨xs, H1, I1, r, z, q⟩ => ⟨by rw [← r.length]; exact z, ?_⟩)
  have hf : H1 s1.heap.objs.size = none := I1.hok.fresh (Nat.le_refl _)
  refine ⟨.ref s1.heap.objs.size, upd H1 s1.heap.objs.size (.lst xs), I1.laid (t' := s1.toks) (fun b u e => Heap.get?_push_of_some _ e) (Nat.le_refl _) ?_, rfl, q _ hf⟩
  exact ⟨z, us, 0, r, Heap.get?_push_size _ rfl⟩
end

noncomputable abbrev Sp := List V → Hp → VK → XK → Prop
noncomputable abbrev CXT := List Env → Hp → Shared → XK → Value → Shared → Prop

structure Env0 (P : Program) (w : World) (K : PySem.W.Frag) (mg : Str → Option Value) (base : Heap) (A : Around) (outer : List Env) (s : Shared) (H : Hp) : Prop where
  frames : A.frames = some outer
  mod : Mod K mg base
  bs : ∀ b o, base.get? b = some o → s.heap.get? b = some o ∧ H b = none
  bsz : base.objs.size ≤ s.heap.objs.size
  funs : s.heap.FunFrames base outer
  frf : ∀ b ∈ frs outer, H b = none
  hok : HOk P w H s.heap
  bare : AllBare s.gens
noncomputable def CE (outer : List Env) (P : Program) (w : World) (H : Hp) (s : Shared) (Q : VK) (u : Value) (s' : Shared) : Prop :=
  ∃ v H', s'.os = s.os ∧ AllBare s'.gens ∧ Un (frs outer) [] H H' s.heap s'.heap ∧ HOk P w H' s'.heap ∧ RelV v u ∧ Q v H'
noncomputable def CR (CX : CXT) (outer : List Env) (P : Program) (w : World) (H : Hp) (s : Shared) (Q : VK) (E : XK) (r : Result) (s' : Shared) : Prop :=
  match r with
  | .ok (.ret u) => CE outer P w H s Q u s'
  | .ok _ => False
  | .error e => CX outer H s E e s'
structure FnOk (P : Program) (w : World) (K : PySem.W.Frag) (mg : Str → Option Value) (base : Heap) (CX : CXT) (k : Nat) (f : Addr) (fd : FuncData) (ps : List Str) (sp : Sp) : Prop where
  len : ∀ vs H Q E, sp vs H Q E → vs.length = ps.length
  run : ∀ (A : Around) (outer : List Env) (s : Shared) (H : Hp) (args : Args) (us : List Value) (vs : List V) (Q : VK) (E : XK), Room k A → Env0 P w K mg base A outer s H → BindsTo s fd args (ps.zip us) → Vals vs us → sp vs H Q E →
    codeAny (model P w) A (.call (.ref f) args) (CR CX outer P w H s Q E) s
theorem FnOk.mono {P : Program} {w : World} {K : PySem.W.Frag} {mg : Str → Option Value} {base : Heap} {CX : CXT} {j k : Nat} {f : Addr} {fd : FuncData} {ps : List Str} {sp : Sp} (F : FnOk P w K mg base CX j f fd ps sp) (h : j ≤ k) :
    FnOk P w K mg base CX k f fd ps sp := ⟨F.len, fun A outer s H args us vs Q E hr => F.run A outer s H args us vs Q E (hr.mono h)⟩
theorem FnOk.imp {P : Program} {w : World} {K : PySem.W.Frag} {mg : Str → Option Value} {base : Heap} {CX : CXT} {k : Nat} {f : Addr} {fd : FuncData} {ps : List Str} {sp sp' : Sp} (F : FnOk P w K mg base CX k f fd ps sp)
    (h : ∀ vs H Q E, sp' vs H Q E → sp vs H Q E) : FnOk P w K mg base CX k f fd ps sp' :=
  ⟨fun vs H Q E q => F.len vs H Q E (h _ _ _ _ q), fun A outer s H args us vs Q E hr he hb hv hs => F.run A outer s H args us vs Q E hr he hb hv (h _ _ _ _ hs)⟩

theorem Env0.make {P : Program} {w : World} {K : PySem.W.Frag} {mg : Str → Option Value} {base : Heap} {A : Around} {outer : List Env} {s : Shared} {H : Hp} (e : Env0 P w K mg base A outer s H) (C : Addr) (us : List Value) (kw : List (Str × Value)) :
    Env0 P w K mg base (A.under (.builtin "type.__call__" ⟨.ref C :: us, kw⟩)) outer s H := ⟨by first | exact e.frames | (simpa [Around.under, Code.envs, Code.isFrame, pushEnvs] using e.frames), e.mod, e.bs, e.bsz, e.funs, e.frf, e.hok, e.bare⟩
theorem Env0.in1 {P : Program} {w : World} {K : PySem.W.Frag} {mg : Str → Option Value} {base : Heap} {A : Around} {outer : List Env} {s : Shared} {H : Hp} (e : Env0 P w K mg base A outer s H) :
    Env0 P w K mg base A.in1 outer s H := ⟨e.frames, e.mod, e.bs, e.bsz, e.funs, e.frf, e.hok, e.bare⟩

section
variable {X : Cx} {pins : List (Addr × Obj)} {σ : St} {H : Hp} {s s' : Shared}
theorem Inv.env0 (I : Inv X pins σ H s) : Env0 X.prog X.w X.K X.mg X.base X.A X.stack s H :=
  ⟨I.ok.frames, I.ok.mod, I.bs, Nat.le_trans I.ok.bsz I.sz, I.stack, I.stkFree, I.hok, I.bare⟩
theorem Inv.after {Q : VK} {u : Value} (I : Inv X pins σ H s) (h : CE X.stack X.prog X.w H s Q u s') : EP X pins σ Q u s' := by
  obtain ⟨v, H', os, bare, un, hok, r, q⟩ := h
  obtain ⟨hh, g, d, t, os'⟩ := s'
  obtain rfl : os' = s.os := os
  exact ⟨v, H', I.call (h' := hh) (g' := g) (d' := d) (t' := t) (ch := []) un hok bare (fun b z => absurd z (by simp)), r, q⟩
end

noncomputable def tCall (sp : Sp) (dvs : List V) (E : XK) (t : TA) : TE := fun σ H Q => t σ H fun vs H1 => sp (vs ++ dvs) H1 Q E
noncomputable def tMeth (C : Addr) (m : Str) (sp : Sp) (dvs : List V) (E : XK) (ta : TE) (t : TA) : TE := fun σ H Q => ta σ H fun x H1 => ∃ a dx fs, x = .ref a ∧ H1 a = some (.ins C dx fs) ∧ fs.lookup m = none ∧
  t σ H1 fun vs H2 => sp (x :: (vs ++ dvs)) H2 Q E
noncomputable def tMake (C : Addr) (sp : Sp) (dvs : List V) (E : XK) (t : TA) : TE := fun σ H Q => t σ H fun vs H1 => ∀ x dx, H1 x = none → H1 dx = none → dx ≠ x →
  sp (.ref x :: (vs ++ dvs)) (upd (upd H1 dx (.own x)) x (.ins C dx [])) (fun v H2 => v = .non ∧ Q (.ref x) H2) E

noncomputable def Binds (K : PySem.W.Frag) (fd : FuncData) (ps : List Str) (ds : List Value) : Prop :=
  ∀ (s : Shared) (us : List Value), K.In s.heap → (us ++ ds).length = ps.length → BindsTo s fd ⟨us, []⟩ (ps.zip (us ++ ds))
theorem Binds.all {K : PySem.W.Frag} {fd : FuncData} {ps : List Str} (h : ∀ us : List Value, us.length = ps.length → bindArgs fd ⟨us, []⟩ = pure (ps.zip us)) : Binds K fd ps [] := fun s us _ hl => by
  rw [List.append_nil] at hl ⊢
  exact .of_eq (h us hl)

noncomputable def Passes (CX : CXT) (X : Cx) (E : XK) : Prop := ∀ (pins : List (Addr × Obj)) (σ : St) (H : Hp) (s : Shared) (e : Value) (s' : Shared), Inv X pins σ H s → CX X.stack H s E e s' → X.xe e s'

section
variable {X : Cx} {CX : CXT} {k : Nat} {f C : Addr} {fd : FuncData} {ps : List Str} {sp : Sp} {dvs : List V} {ds : List Value} {E : XK} {x m : Str} {p pos apos : Pos} {e o : Expr} {es : List Expr} {ta : TE} {t : TA}

theorem run_fn {pins : List (Addr × Obj)} {σ : St} {H : Hp} {s : Shared} {Q : VK} {us : List Value} {vs : List V} (F : FnOk X.prog X.w X.K X.mg X.base CX k f fd ps sp) (hr : Room k X.A) (hb : Binds X.K fd ps ds) (hd : Vals dvs ds) (hx : Passes CX X E)
    (I : Inv X pins σ H s) (r : Vals vs us) (h : sp (vs ++ dvs) H Q E) : wpAny (model X.prog X.w) X.A (call (.ref f) us) (EP X pins σ Q) X.xe s := by
  have r2 : Vals (vs ++ dvs) (us ++ ds) := r.append hd
  have hl : (us ++ ds).length = ps.length := by rw [← r2.length]; exact F.len _ _ _ _ h
  refine wpAny_call (codeAny_mono (F.run X.A X.stack s H ⟨us, []⟩ (us ++ ds) (vs ++ dvs) Q E hr I.env0 (hb s us I.kIn hl) r2 h) fun r s' hq => ?_)
  cases r with
  | error e => exact hx pins σ H s e s' I hq
  | ok fl =>
    cases fl with
    | ret u => exact I.after hq
    | next => exact False.elim hq
    | brk => exact False.elim hq
    | cont => exact False.elim hq

theorem pe_call (F : FnOk X.prog X.w X.K X.mg X.base CX k f fd ps sp) (hr : Room k X.A) (hg : Gl X x) (hm : X.mg x = some (.ref f)) (hk : PySem.W.keepIn X.K (.ref f) = true) (hb : Binds X.K fd ps ds) (hd : Vals dvs ds) (hx : Passes CX X E)
    (ha : PA X (e :: es) t) (hdb : (x == ("__debug__" : Str)) = false := by decide) (he : starEach (e :: es) X.env = (false, eval e X.env) :: starEach es X.env := by rfl) (hpl : (backTo pos (starEach es X.env)).any (·.1) = false := by rfl) :
    PE X (.Call (.Name x p) (e :: es) [] pos) (tCall sp dvs E t) := by
  intro pins s σ H Q I h
  refine wpAny_Call_Name_kw (ld_glob I hg hm ?_ hdb)
  refine PySem.W.callWith_K (h₀ := X.base) I.ok.mod.kin hk (thn (ha pos pins s σ H _ I h) fun us s1 ⟨vs, H1, I1, r, q⟩ => ⟨I1.kIn, ?_⟩) he hpl
  exact run_fn F hr hb hd hx I1 r q
theorem pe_meth {pl : Sem Bool} (he : PE X o ta) (c : Cls X.K C) (hm : Meth X.K C m f) (F : FnOk X.prog X.w X.K X.mg X.base CX k f fd ps sp) (hr : Room k X.A) (hb : Binds X.K fd ps ds) (hd : Vals dvs ds) (hx : Passes CX X E) (ha : PA X (e :: es) t)
    (hst : starEach (e :: es) X.env = (false, eval e X.env) :: starEach es X.env := by rfl) (hpl : (backTo pos (starEach es X.env)).any (·.1) = false := by rfl)
    (ht : eval (.Call (.Attribute o m apos) (e :: es) [] pos) X.env = (do
      let ov ← eval o X.env
      standAt apos.atName
      let (f, first) ← holding [ov] (getMethod ov m pl)
      callWith pos f first (backTo pos (starEach (e :: es) X.env)) (backToKw pos (keywordEach [] X.env))) := by rfl) :
    PE X (.Call (.Attribute o m apos) (e :: es) [] pos) (tMeth C m sp dvs E ta t) := by
  intro pins s σ H Q I h
  refine PySem.W.methodCall_KW (pl := pl) (thn (he pins s σ H _ I h) fun u s1 ⟨x, H1, I1, rx, a, dx, fs, ex, ea, l, q⟩ => ?_) ht
  subst ex
  obtain rfl : u = Value.ref a := rx
  refine getmeth_ok I1 ea c hm l ?_
  refine PySem.W.callWith_K (first := [.ref a]) (h₀ := X.base) I.ok.mod.kin hm.kp (thn (ha pos pins s1 σ H1 _ I1 q) fun us s2 ⟨vs, H2, I2, r, q2⟩ => ⟨I2.kIn, ?_⟩) hst hpl
  exact run_fn (us := .ref a :: us) (vs := .ref a :: vs) F hr hb hd hx I2 (.cons rfl r) q2
structure Mk (K : PySem.W.Frag) (C f : Addr) : Prop where
  makes : PySem.W.makesIn K C = true
  init : PySem.W.findIn K (.ref C) "__init__" = some (some (.ref f))
  fn : PySem.W.isFn K (.ref f) = true
  kp : PySem.W.keepIn K (.ref C) = true

theorem run_make {pins : List (Addr × Obj)} {σ : St} {H : Hp} {s : Shared} {Q : VK} {us : List Value} {vs : List V} (M : Mk X.K C f) (F : FnOk X.prog X.w X.K X.mg X.base CX k f fd ps sp) (hr : Room (k + 1) X.A) (hb : Binds X.K fd ps ds) (hd : Vals dvs ds)
    (hx : Passes CX X E) (I : Inv X pins σ H s) (r : Vals vs us)
    (h : ∀ x dx, H x = none → H dx = none → dx ≠ x → sp (.ref x :: (vs ++ dvs)) (upd (upd H dx (.own x)) x (.ins C dx [])) (fun v H2 => v = .non ∧ Q (.ref x) H2) E) :
    wpAny (model X.prog X.w) X.A (call (.ref C) us) (EP X pins σ Q) X.xe s := by
  have hq := h (s.heap.objs.size + 1) s.heap.objs.size (I.hok.fresh (Nat.le_succ _)) (I.hok.fresh (Nat.le_refl _)) (Nat.ne_of_lt (Nat.lt_succ_self _))
  have I2 := Inv.made (C := C) I
  have r2 : Vals (V.ref (s.heap.objs.size + 1) :: (vs ++ dvs)) (Value.ref (s.heap.objs.size + 1) :: (us ++ ds)) := .cons rfl (r.append hd)
  have hl : (Value.ref (s.heap.objs.size + 1) :: us ++ ds).length = ps.length := by
    have e := r2.length
    rw [F.len _ _ _ _ hq] at e
    exact e.symm
  refine wpAny_call (make_map (f := f) I.kIn M.makes M.init (beq_iff_eq.mp M.fn) (codeAny_mono (F.run _ X.stack _ _ ⟨Value.ref (s.heap.objs.size + 1) :: us, []⟩ (Value.ref (s.heap.objs.size + 1) :: (us ++ ds)) _ _ E (hr.make C us [])
    (I2.env0.make C us []) (hb _ (Value.ref (s.heap.objs.size + 1) :: us) I2.kIn hl) r2 hq) fun r s' hq' => ?_))
  cases r with
  | error e => exact hx pins σ _ _ e s' I2 hq'
  | ok fl =>
    cases fl with
    | ret u =>
      obtain ⟨v, H', I3, rv, ev, q3⟩ := I2.after hq'
      subst ev
      exact ⟨rv, ⟨V.ref (s.heap.objs.size + 1), H', I3, rfl, q3⟩⟩
    | next => exact False.elim hq'
    | brk => exact False.elim hq'
    | cont => exact False.elim hq'
theorem pe_make (M : Mk X.K C f) (F : FnOk X.prog X.w X.K X.mg X.base CX k f fd ps sp) (hr : Room (k + 1) X.A) (hg : Gl X x) (hm : X.mg x = some (.ref C)) (hb : Binds X.K fd ps ds) (hd : Vals dvs ds) (hx : Passes CX X E)
    (ha : PA X (e :: es) t) (hdb : (x == ("__debug__" : Str)) = false := by decide) (he : starEach (e :: es) X.env = (false, eval e X.env) :: starEach es X.env := by rfl) (hpl : (backTo pos (starEach es X.env)).any (·.1) = false := by rfl) :
    PE X (.Call (.Name x p) (e :: es) [] pos) (tMake C sp dvs E t) := by
  intro pins s σ H Q I h
  refine wpAny_Call_Name_kw (ld_glob I hg hm ?_ hdb)
  refine PySem.W.callWith_K (h₀ := X.base) I.ok.mod.kin M.kp (thn (ha pos pins s σ H _ I h) fun us s1 ⟨vs, H1, I1, r, q⟩ => ⟨I1.kIn, ?_⟩) he hpl
  exact run_make M F hr hb hd hx I1 r q
end

section
variable {X : Cx} {CX : CXT} {k : Nat} {f C : Addr} {fd : FuncData} {ps ks : List Str} {sp : Sp} {E : XK} {x m : Str} {p pos apos kpos : Pos} {e o : Expr} {es : List Expr} {kws : List Keyword} {te ta : TE} {t tk : TA} {nm : Option Str}
variable {g : List Value → List Value → List Value} {gV : List V → List V → List V}
end

structure FnScope (N P : List Str) (sc : Scope) : Prop where
  kind : sc.kind = .function
  co : sc.isCoroutine = false
  gen : sc.isGenerator = false
  nd : N.Nodup
  pre : N.take P.length = P
  par : ∀ x ∈ P, sc.names.lookup x = some .local ∨ sc.names.lookup x = some .cell
  nofree : ∀ y ∈ sc.names, y.2 ≠ .free

theorem bindL_out {kindOf : Str → Option NameKind} {x : Str} : ∀ {binds : List (Str × Value)} {m : Str → Option Value}, (∀ v, (x, v) ∉ binds) → bindL kindOf binds m x = m x
  | [], _, _ => rfl
  | (n, v) :: r, m, h => by
    unfold bindL
    rw [bindL_out fun w hw => h w (List.mem_cons_of_mem _ hw)]
    split
    · have : x ≠ n := by rintro rfl; exact h v List.mem_cons_self
      simp [this]
    · rfl
theorem bindC_out {kindOf : Str → Option NameKind} {x : Str} : ∀ {binds : List (Str × Value)} {m : Str → Option Value}, (∀ v, (x, v) ∉ binds) → bindC kindOf binds m x = m x
  | [], _, _ => rfl
  | (n, v) :: r, m, h => by
    unfold bindC
    rw [bindC_out fun w hw => h w (List.mem_cons_of_mem _ hw)]
    split
    · rfl
    · have : x ≠ n := by rintro rfl; exact h v List.mem_cons_self
      simp [this]
theorem bindL_get {kindOf : Str → Option NameKind} {x : Str} {v : Value} : ∀ {P : List Str} {vs : List Value} {i : Nat} {m : Str → Option Value}, P.Nodup → P[i]? = some x → vs[i]? = some v → kindOf x = some .local →
    bindL kindOf (P.zip vs) m x = some v
  | [], _, _, _, _, h, _, _ => by simp at h
  | _ :: _, [], _, _, _, _, h, _ => by simp at h
  | p :: P, w :: vs, 0, m, nd, h1, h2, hk => by
    simp at h1 h2; subst h1; subst h2
    show bindL kindOf ((p, w) :: P.zip vs) m p = _
    unfold bindL
    rw [bindL_out fun v hv => (List.nodup_cons.mp nd).1 (List.of_mem_zip hv).1, if_pos hk]
    simp
  | p :: P, w :: vs, i + 1, m, nd, h1, h2, hk => by
    show bindL kindOf ((p, w) :: P.zip vs) m x = _
    unfold bindL
    exact bindL_get (i := i) (List.nodup_cons.mp nd).2 (by simpa using h1) (by simpa using h2) hk
theorem bindC_get {kindOf : Str → Option NameKind} {x : Str} {v : Value} : ∀ {P : List Str} {vs : List Value} {i : Nat} {m : Str → Option Value}, P.Nodup → P[i]? = some x → vs[i]? = some v → kindOf x ≠ some .local →
    bindC kindOf (P.zip vs) m x = some v
  | [], _, _, _, _, h, _, _ => by simp at h
  | _ :: _, [], _, _, _, _, h, _ => by simp at h
  | p :: P, w :: vs, 0, m, nd, h1, h2, hk => by
    simp at h1 h2; subst h1; subst h2
    show bindC kindOf ((p, w) :: P.zip vs) m p = _
    unfold bindC
    rw [bindC_out fun v hv => (List.nodup_cons.mp nd).1 (List.of_mem_zip hv).1, if_neg hk]
    simp
  | p :: P, w :: vs, i + 1, m, nd, h1, h2, hk => by
    show bindC kindOf ((p, w) :: P.zip vs) m x = _
    unfold bindC
    exact bindC_get (i := i) (List.nodup_cons.mp nd).2 (by simpa using h1) (by simpa using h2) hk

noncomputable def start (N : List Str) (vs : List V) : St := vs.map some ++ List.replicate (N.length - vs.length) none

noncomputable def cxOf (CX : CXT) (P : Program) (w : World) (K : PySem.W.Frag) (mg : Str → Option Value) (base : Heap) (N : List Str) (qual : Str) (scope : Scope) (f : Addr) (cd : Value) (A : Around) (outer : List Env) (s : Shared) (H : Hp) (E : XK) : Cx where
  prog := P
  w := w
  K := K
  mg := mg
  base := base
  A := A.deeper (envOfC qual scope s.heap.objs.size f cd)
  N := N
  s₀ := s
  H₀ := H
  env := envOfC qual scope s.heap.objs.size f cd
  outer := outer
  stack := envOfC qual scope s.heap.objs.size f cd :: outer
  ex := []
  calm := true
  fn := fun _ => true
  pn := []
  xe := fun e s' => wpAny (model P w) (A.deeper (envOfC qual scope s.heap.objs.size f cd)) (leaving (envOfC qual scope s.heap.objs.size f cd) e) (fun _ s'' => CX outer H s E e s'') (fun e' s'' => CX outer H s E e' s'') s'

theorem cell_has {sc : Scope} {n : Nat} {x : Str} (h : sc.names.lookup x = some .cell) : ∃ c, (cellsFrom n sc.names []).lookup x = some c := by
  have q := PySem.W.cellsFrom_some sc.names n [] (.inl h)
  exact Option.isSome_iff_exists.mp q

theorem inv_start {CX : CXT} {P : Program} {w : World} {K : PySem.W.Frag} {mg : Str → Option Value} {base : Heap} {N ps : List Str} {qual : Str} {scope : Scope} {f : Addr} {cd : Value} {A : Around} {outer : List Env} {s s1 : Shared} {H : Hp} {E : XK} {us : List Value} {vs : List V}
    (S : FnScope N ps scope) (hd : A.handled = none) (e0 : Env0 P w K mg base A outer s H) (hl : vs.length = ps.length) (r : Vals vs us)
    (x : InCallC s s.heap.objs.size (bindL (envOfC qual scope s.heap.objs.size f cd).kindOf (ps.zip us) fun _ => none) (cellsFrom (s.heap.objs.size + 1) scope.names []) (bindC (envOfC qual scope s.heap.objs.size f cd).kindOf (ps.zip us) fun _ => none) s1) :
    Inv (cxOf CX P w K mg base N qual scope f cd A outer s H E) [] (start N vs) H s1 := by
  have hpl : ps.length ≤ N.length := by have := congrArg List.length S.pre; rw [List.length_take] at this; omega
  obtain ⟨h1, tk, rfl, hk⟩ := x.done
  have noA : ∀ b : Addr, b ∉ (cxOf CX P w K mg base N qual scope f cd A outer s H E).ex := fun b z => absurd (show b ∈ ([] : List Addr) from z) (by simp)
  refine ⟨⟨e0.mod, S.kind, rfl, rfl, Nat.le_refl _, fun y z c h1 h2 => ?_, fun y hy => ?_, fun y c _ h => ?_, fun _ => hd, Around.frames_deeper e0.frames, .inr ⟨rfl, rfl⟩, fun b z => absurd z (noA b), e0.bs, e0.bsz, fun b _ _ => noA b, fun b z => absurd z (noA b), e0.funs, e0.frf⟩,
    rfl, e0.bare, Un.kept hk, ⟨_, x.toInCall.ns, fun i y v h1 h2 h3 => ?_⟩, fun y c h => ⟨_, x.cell y c h⟩, e0.hok.fresh (Nat.le_refl _), fun y c h => ?_, fun p hp => absurd (show p ∈ ([] : List (Addr × Obj)) from hp) (by simp), e0.hok.kept hk, ?_⟩
  · exact name_of_addr x.apart (PySem.mem_of_lookup h1) (PySem.mem_of_lookup h2)
  · have hy : scope.names.lookup y = some .cell ∨ scope.names.lookup y = some .free := hy
    rcases hy with hy | hy
    · exact cell_has hy
    · exact absurd rfl (S.nofree _ (PySem.mem_of_lookup hy))
  · exact Nat.le_of_lt (x.above y c (PySem.mem_of_lookup h))
  · have hi : i < vs.length := by
      unfold start at h2
      by_cases hi : i < vs.length
      · exact hi
      · rw [List.getElem?_append_right (by simpa using hi)] at h2
        rw [List.getElem?_replicate] at h2
        split at h2 <;> cases h2
    have ha : vs[i]? = some v := by
      unfold start at h2
      rw [List.getElem?_append_left (by simpa using hi), List.getElem?_map] at h2
      cases e : vs[i]? with
      | none => rw [e] at h2; cases h2
      | some a => rw [e] at h2; cases h2; rfl
    obtain ⟨u, hu, rv⟩ := r.get ha
    have hp : ps[i]? = some y := by
      rw [← S.pre, List.getElem?_take_of_lt (by omega)]; exact h1
    have ndP : ps.Nodup := by rw [← S.pre]; exact S.nd.sublist (List.take_sublist _ _)
    refine ⟨u, rv, ?_⟩
    rcases S.par y (List.mem_of_getElem? hp) with k | k
    · exact .inl ⟨k, bindL_get ndP hp hu k⟩
    · obtain ⟨c, e⟩ := cell_has (n := s.heap.objs.size + 1) k
      refine .inr ⟨.inl k, c, e, ?_⟩
      have q := x.cell y c e
      rw [bindC_get ndP hp hu (by show scope.names.lookup y ≠ _; rw [k]; decide)] at q
      exact q
  · exact e0.hok.fresh (Nat.le_of_lt (x.above y c (PySem.mem_of_lookup h)))
  · unfold start
    show _ = N.length
    rw [List.length_append, List.length_map, List.length_replicate]
    omega

theorem fn_of {CX : CXT} {P : Program} {w : World} {K : PySem.W.Frag} {mg : Str → Option Value} {base : Heap} {k : Nat} {f : Addr} {name qual : Str} {params : Arguments} {body : List Stmt} {scope : Scope} {dV kV doc pm cdv ct oc : Value} {an od : Option Addr}
    {osl : Array (Option Value)} {N ps : List Str} {sp : Sp} (lk : K.lookup f = some ⟨oc, od, .func (PySem.W.fnOf name qual params body scope dV kV doc pm an cdv ct), osl⟩) (hcd : PySem.W.codeIn K cdv qual = true) (S : FnScope N ps scope)
    (len : ∀ vs H Q E, sp vs H Q E → vs.length = ps.length)
    (hbody : ∀ (A : Around) (outer : List Env) (s : Shared) (H : Hp) (vs : List V) (Q : VK) (E : XK), Room k (A.deeper (envOfC qual scope s.heap.objs.size f cdv)) → sp vs H Q E →
      ∃ t, PSs (cxOf CX P w K mg base N qual scope f cdv A outer s H E) body t ∧ t { nx := fun _ H' => Q .non H', rt := Q } (start N vs) H) :
    FnOk P w K mg base CX (k + 1) f (PySem.W.fnOf name qual params body scope dV kV doc pm an cdv ct) ps sp := by
  refine ⟨len, fun A outer s H args us vs Q E hr e0 hb r hsp => ?_⟩
  have hl := len _ _ _ _ hsp
  have KX : K.In s.heap := e0.mod.kin.keeps fun b o e => (e0.bs b o e).1
  have lim : s.heap.NoLimit := e0.mod.nolimit.keeps fun b o e => (e0.bs b o e).1
  have hkind : ∀ y ∈ ps.zip us, scope.names.lookup y.1 = some .local ∨ (scope.names.lookup y.1 = some .cell ∧ ((cellsFrom (s.heap.objs.size + 1) scope.names []).lookup y.1).isSome = true) := fun ⟨n, v⟩ hy => by
    rcases S.par n (List.of_mem_zip hy).1 with q | q
    · exact .inl q
    · exact .inr ⟨q, PySem.W.cellsFrom_some _ _ _ (.inl q)⟩
  refine codeAny_call_function hr.depth (KX _ _ lk) rfl S.co S.gen rfl (PySem.W.codeRec_of KX hcd) (hb _ _ _ _ ?_)
  refine wpAny_newFunctionEnv_cells S.kind hkind fun env he s1 x => ?_
  subst he
  refine ⟨lim.keeps x.toInCall.keep, codeAny_func ?_⟩
  obtain ⟨t, ht, hq⟩ := hbody A outer s H vs Q E (hr.deeper _) hsp
  have I : Inv (cxOf CX P w K mg base N qual scope f cdv A outer s H E) [] (start N vs) H s1 := inv_start S hr.hd e0 hl r x
  refine wpAny_mono (ht [] s1 (start N vs) H _ I hq) (fun fl s' hs => ?_) fun e s' hs => hs
  have fin : ∀ {σ' : St} {H' : Hp} {v : V} {u : Value}, Inv (cxOf CX P w K mg base N qual scope f cdv A outer s H E) [] σ' H' s' → RelV v u → Q v H' → CE outer P w H s Q u s' :=
    fun {σ' H' v u} J rv q => ⟨v, H', J.os, J.bare, J.base, J.hok, rv, q⟩
  cases fl with
  | ret u =>
    obtain ⟨v, σ', H', J, rv, q⟩ := hs
    exact fin J rv q
  | next =>
    obtain ⟨σ', H', J, q⟩ := hs
    exact fin (v := V.non) (u := Value.none) J rfl q
  | brk =>
    obtain ⟨_, _, _, q⟩ := hs
    exact False.elim q
  | cont =>
    obtain ⟨_, _, _, q⟩ := hs
    exact False.elim q
end L2

namespace L2
open PySem PySem.Spec PyProof.Rows
section
variable {X : Cx} {x : Str} {p pos : Pos} {e : Expr} {es : List Expr} {t : TA} {id T : String} {r : List V → Hp → VK → Prop}

noncomputable def tCB (r : List V → Hp → VK → Prop) (t : TA) : TE := fun σ H Q => t σ H fun vs H1 => r vs H1 Q
theorem pe_callB (hc : CallR X (.builtin id) r) (hg : Gl X x) (hm : X.mg x = none) (hv : bootBuiltins x = some (.builtin id)) (ha : PA X (e :: es) t) (hn : x ≠ "__name__" := by decide) (hdb : (x == ("__debug__" : Str)) = false := by decide)
    (he : starEach (e :: es) X.env = (false, eval e X.env) :: starEach es X.env := by rfl) (hpl : (backTo pos (starEach es X.env)).any (·.1) = false := by rfl) : PE X (.Call (.Name x p) (e :: es) [] pos) (tCB r t) := by
  intro pins s σ H Q I h
  refine wpAny_Call_Name_kw (ld_blt I hg hm hv ?_ hn hdb)
  exact PyProof.Rows.callWith_builtin1 (thn (ha pos pins s σ H _ I h) fun us s1 ⟨vs, H1, I1, r1, q1⟩ => hc pins s1 σ H1 vs us Q I1 r1 q1) he hpl
theorem pe_callTy (hc : CallR X (.type T) r) (hg : Gl X x) (hm : X.mg x = none) (hv : bootBuiltins x = some (.type T)) (ha : PA X (e :: es) t) (hn : x ≠ "__name__" := by decide) (hdb : (x == ("__debug__" : Str)) = false := by decide)
    (he : starEach (e :: es) X.env = (false, eval e X.env) :: starEach es X.env := by rfl) (hpl : (backTo pos (starEach es X.env)).any (·.1) = false := by rfl) : PE X (.Call (.Name x p) (e :: es) [] pos) (tCB r t) := by
  intro pins s σ H Q I h
  refine wpAny_Call_Name_kw (ld_blt I hg hm hv ?_ hn hdb)
  exact PyProof.Rows.callWith_type1 (thn (ha pos pins s σ H _ I h) fun us s1 ⟨vs, H1, I1, r1, q1⟩ => hc pins s1 σ H1 vs us Q I1 r1 q1) he hpl
end
end L2

namespace HT
open PySem PyProof.Rows

section
open PySem.SeqAt
open PySem.AutoSeq1 (wpAny_loadPart')
open PySem.MeetsSeq PySem.MeetsSeq2 PySem.MeetsSeq3

end

section
variable {prog : Program} {w : World} {A : Around} {E : Value → Shared → Prop} {s : Shared}

noncomputable def sIx (n d : Nat) : Option Int → Nat
  | none => d
  | some v => if v < 0 then (v + (n : Int)).toNat else min v.toNat n
end
end HT

namespace L2
open PySem PySem.Spec PyProof.Rows

noncomputable abbrev TO := St → Hp → (Option Int → Hp → Prop) → Prop
noncomputable def PO (X : Cx) (e : Option Expr) (t : TO) : Prop :=
  ∀ (pins : List (Addr × Obj)) (s : Shared) (σ : St) (H : Hp) (Q : Option Int → Hp → Prop), Inv X pins σ H s → t σ H Q →
    wpAny (model X.prog X.w) X.A (evalPart e X.env) (fun u s' => ∃ o H', Inv X pins σ H' s' ∧ IsPart u o ∧ Q o H') X.xe s
noncomputable def tNoPart : TO := fun _ H Q => Q none H
noncomputable def tPart (t : TE) : TO := fun σ H Q => t σ H fun x H1 => ∃ i, x = .int i ∧ Q (some i) H1

theorem intsAre_of {ns : List Int} : ∀ {us : List Value}, Vals (ns.map V.int) us → IntsAre us ns := by
  induction ns with
  | nil => intro us r; rw [List.map_nil] at r; cases r; exact .nil
  | cons n ns ih =>
    intro us r
    rw [List.map_cons] at r
    cases r with
    | cons r1 r2 =>
      obtain ⟨t, e⟩ := r1
      subst e
      exact .cons n t (ih r2)

section
variable {X : Cx} {e : Expr} {te : TE} {lo hi : Option Expr} {tl th : TO} {pos p2 : Pos}

theorem po_none : PO X none tNoPart := by
  intro pins s σ H Q I h
  rw [evalPart_none]
  exact wpAny_pure ⟨none, H, I, .none, h⟩
theorem po_some (h : PE X e te) : PO X (some e) (tPart te) := by
  intro pins s σ H Q I hw
  rw [evalPart_some]
  refine thn (h pins s σ H _ I hw) fun u s1 ⟨x, H1, I1, r1, q1⟩ => ?_
  obtain ⟨i, rfl, q⟩ := q1
  obtain ⟨t, rfl⟩ := r1
  exact ⟨some i, H1, I1, .int i t, q⟩

noncomputable def SlR (X : Cx) (r : V → Option Int → Option Int → Hp → VK → Prop) : Prop :=
  ∀ (pins : List (Addr × Obj)) (s : Shared) (σ : St) (H : Hp) (x : V) (v vl vu : Value) (lo hi : Option Int) (sl : Addr) (Q : VK), Inv X pins σ H s → RelV x v → s.heap.IsSliceOf sl vl vu .none → IsPart vl lo → IsPart vu hi → r x lo hi H Q →
    ∃ T id, typeLookup (.type T) "__getitem__" = pure (some (.builtin id)) ∧ s.TypeIs v T ∧ wpAny (model X.prog X.w) X.A (getItem v (.ref sl)) (EP X pins σ Q) X.xe s
noncomputable def tSl (r : V → Option Int → Option Int → Hp → VK → Prop) (te : TE) (tl th : TO) : TE := fun σ H Q => te σ H fun x H1 => tl σ H1 fun l H2 => th σ H2 fun u H3 => r x l u H3 Q
theorem pe_slice {r : V → Option Int → Option Int → Hp → VK → Prop} (hr : SlR X r) (he : PE X e te) (hl : PO X lo tl) (hu : PO X hi th) : PE X (.Subscript e (.Slice lo hi none p2) pos) (tSl r te tl th) := by
  intro pins s σ H Q I h
  refine Subscript_ (thn (he pins s σ H _ I h) fun v s1 ⟨x, H1, I1, r1, q1⟩ => ?_)
  refine wpAny_Slice (thn (hl pins s1 σ H1 _ I1 q1) fun vl s2 ⟨l, H2, I2, pl, q2⟩ => thn (hu pins s2 σ H2 _ I2 q2) fun vu s3 ⟨u, H3, I3, pu, q3⟩ => ?_)
  rw [evalPart_none]
  refine wpAny_pure ?_
  have I4 : Inv X pins σ H3 { s3 with heap := s3.heap.push { cls := .type "slice", data := .fields #[vl, vu, .none] } } := I3.kept (t' := s3.toks) fun b ob q => Heap.get?_push_of_some _ q
  obtain ⟨T, id, hT, ht, hg⟩ := hr pins { s3 with heap := s3.heap.push { cls := .type "slice", data := .fields #[vl, vu, .none] } } σ H3 x v vl vu l u s3.heap.objs.size Q I4 r1 (Heap.IsSliceOf.new ..) pl pu q3
  show wpAny (model X.prog X.w) X.A (subscriptTail e (.Slice lo hi none p2) v (.ref s3.heap.objs.size)) (EP X pins σ Q) X.xe { s3 with heap := s3.heap.push { cls := .type "slice", data := .fields #[vl, vu, .none] } }
  exact tail_any (ops := [.ref s3.heap.objs.size, v]) ht hT hg (by with_unfolding_all rfl)

noncomputable def cutV (xs : List V) (lo hi : Option Int) : List V := (xs.drop (HT.sIx xs.length 0 lo)).take (HT.sIx xs.length xs.length hi - HT.sIx xs.length 0 lo)
theorem cutV_length (xs : List V) (lo hi : Option Int) : (cutV xs lo hi).length ≤ xs.length := by
  unfold cutV
  rw [List.length_take, List.length_drop]
  omega
end
end L2

namespace L2
open PySem PySem.Spec PyProof.Rows

noncomputable def ixN (n : Nat) (i : Int) : Option Nat := if 0 ≤ i then (if i < n then some i.toNat else none) else if -(n : Int) ≤ i then some (i + n).toNat else none
noncomputable def atI {α : Type} (xs : List α) (i : Int) : Option α := (ixN xs.length i).bind fun j => xs[j]?
theorem ixN_seq {n : Nat} {i : Int} {j : Nat} (h : ixN n i = some j) : seqIndex? i n = some j ∧ j < n ∧ -(n : Int) ≤ i ∧ i < n := by
  unfold ixN at h
  by_cases h0 : 0 ≤ i
  · rw [if_pos h0] at h
    by_cases h1 : i < n
    · rw [if_pos h1] at h
      have e : i.toNat = j := Option.some.inj h
      exact ⟨by rw [seqIndex_of h0 h1, e], by omega, by omega, h1⟩
    · rw [if_neg h1] at h; cases h
  · rw [if_neg h0] at h
    by_cases h1 : -(n : Int) ≤ i
    · rw [if_pos h1] at h
      have e : (i + n).toNat = j := Option.some.inj h
      exact ⟨by rw [seqIndex_neg (by omega) h1, e], by omega, h1, by omega⟩
    · rw [if_neg h1] at h; cases h
theorem atI_get {α : Type} {xs : List α} {i : Int} {v : α} (h : atI xs i = some v) : ∃ j, seqIndex? i xs.length = some j ∧ xs[j]? = some v ∧ j < xs.length ∧ -(xs.length : Int) ≤ i ∧ i < xs.length := by
  unfold atI at h
  cases e : ixN xs.length i with
  | none => rw [e] at h; cases h
  | some j =>
    rw [e] at h
    obtain ⟨h1, h2, h3, h4⟩ := ixN_seq e
    exact ⟨j, h1, h, h2, h3, h4⟩
theorem atI_nat {α : Type} {xs : List α} {j : Nat} {v : α} (h : xs[j]? = some v) : atI xs (j : Int) = some v := by
  have hj : j < xs.length := (List.getElem?_eq_some_iff.mp h).1
  have e : ixN xs.length (j : Int) = some j := by
    unfold ixN
    rw [if_pos (by omega), if_pos (by omega)]; simp
  unfold atI; rw [e]; exact h
noncomputable def PlainIx (b : Expr) : Prop := ∀ o i, subscripted b false o i = operate [o, i] (getItem o i)
noncomputable def IxR (X : Cx) (r : R2) : Prop :=
  ∀ (value slice : Expr) (pins : List (Addr × Obj)) (s : Shared) (σ : St) (H : Hp) (x y : V) (v u : Value) (Q : VK), Inv X pins σ H s → RelV x v → RelV y u → r x y H Q →
    subscripted slice false v u = operate [v, u] (getItem v u) → wpAny (model X.prog X.w) X.A (subscriptTail value slice v u) (EP X pins σ Q) X.xe s
noncomputable def MtR (X : Cx) (id : String) (r : V → List V → Hp → VK → Prop) : Prop :=
  ∀ (pins : List (Addr × Obj)) (s : Shared) (σ : St) (H : Hp) (x : V) (xs : List V) (v : Value) (us : List Value) (Q : VK), Inv X pins σ H s → RelV x v → Vals xs us → r x xs H Q →
    wpAny (model X.prog X.w) X.A (call (.builtin id) (v :: us)) (EP X pins σ Q) X.xe s
section
variable {X : Cx} {a b : Expr} {ta tb : TE} {pos : Pos}
theorem pe_ix {r : R2} (hr : IxR X r) (ha : PE X a ta) (hb : PE X b tb) (hs : PlainIx b) : PE X (.Subscript a b pos) (tOp r ta tb) := by
  intro pins s σ H Q I h
  exact Subscript_ (binT ha hb I h fun v u s2 x y H2 I2 rx ry q => hr a b pins s2 σ H2 x y v u Q I2 rx ry q (hs _ _))

inductive IxLR (K : PySem.W.Frag) (x y : V) (H : Hp) (Q : VK) : Prop
  | mk (p : Addr) (xs : List V) (i : Int) (v : V) (a : x = .ref p) (b : y = .int i) (c : SqL K H p xs) (d : atI xs i = some v) (q : Q v H) : IxLR K x y H Q
inductive IxTR (K : PySem.W.Frag) (x y : V) (H : Hp) (Q : VK) : Prop
  | mk (p : Addr) (xs : List V) (i : Int) (v : V) (a : x = .ref p) (b : y = .int i) (c : SqT K H p xs) (d : atI xs i = some v) (q : Q v H) : IxTR K x y H Q
noncomputable def rIxL (K : PySem.W.Frag) : R2 := fun x y H Q => IxLR K x y H Q
noncomputable def rIxT (K : PySem.W.Frag) : R2 := fun x y H Q => IxTR K x y H Q
theorem ix_list : IxR X (rIxL X.K) := by
  intro value slice pins s σ H x y v u Q I rx ry h hs
  obtain ⟨p, xs, i, z, rfl, rfl, hq, he, q⟩ := h
  cases rx
  obtain ⟨t, rfl⟩ := ry
  obtain ⟨its, r, pl, hz⟩ := I.list hq
  obtain ⟨j, h1, h2, h3, h4, h5⟩ := atI_get he
  obtain ⟨w, ew, rw'⟩ := r.get h2
  have hl := r.length
  have hn := line63
  have fin : EP X pins σ Q w s := ⟨z, H, I, rw', q⟩
  by_cases h0 : 0 ≤ i
  · have hj : i.toNat = j := by
      rw [seqIndex_of h0 h5] at h1
      exact Option.some.inj h1
    exact item_listR pl.isList h0 (by omega) (by rw [hj]; simpa using ew) fin hs
  · have hj : (i + (its.toArray.size : Int)).toNat = j := by
      rw [seqIndex_neg (by omega) h4] at h1
      rw [List.size_toArray, ← hl]
      exact Option.some.inj h1
    exact subscriptTail_builtinR (x := w) pl.isList.typeIs slot_list_getitem.lookup
      (wpAny_getItem_list_neg (Q := fun r s' => r = w ∧ EP X pins σ Q r s') pl.isList (by omega) (by rw [List.size_toArray] <;> omega) (by omega) (by rw [hj]; simpa using ew) ⟨rfl, fin⟩) hs
theorem ix_tup : IxR X (rIxT X.K) := by
  intro value slice pins s σ H x y v u Q I rx ry h hs
  obtain ⟨p, xs, i, z, rfl, rfl, hq, he, q⟩ := h
  cases rx
  obtain ⟨t, rfl⟩ := ry
  obtain ⟨its, r, pl, hz⟩ := I.tuple hq
  obtain ⟨j, h1, h2, h3, h4, h5⟩ := atI_get he
  obtain ⟨w, ew, rw'⟩ := r.get h2
  have hl := r.length
  have hn := line63
  have fin : EP X pins σ Q w s := ⟨z, H, I, rw', q⟩
  exact subscriptTail_builtinR (x := w) pl.typeIs slot_tuple_getitem.lookup
    (getItem_tuple (j := j) (Q := fun r s' => r = w ∧ EP X pins σ Q r s') pl (by omega) (by omega) (by rw [List.size_toArray, ← hl]; exact h1) (by simpa using ew) ⟨rfl, fin⟩) hs
theorem mapSeq_set (its : List Value) (n j : Nat) (u : Value) : Obj.mapSeq (·.setIfInBounds j u) { cls := .type "list", data := .seq its.toArray n } = { cls := .type "list", data := .seq (its.set j u).toArray n } := by
  simp [Obj.mapSeq]
theorem Inv.lst {pins : List (Addr × Obj)} {σ : St} {H : Hp} {s : Shared} {p : Addr} {xs : List V} (I : Inv X pins σ H s) (h : H p = some (.lst xs)) :
    ∃ (its : List Value) (n : Nat), Vals xs its ∧ s.heap.get? p = some { cls := .type "list", data := .seq its.toArray n } ∧ xs.length ≤ sizeLine := by
  obtain ⟨z, its, n, r, e⟩ := I.hok p _ h
  exact ⟨its, n, r, e, z⟩
theorem Inv.lstUpd {pins : List (Addr × Obj)} {σ : St} {H : Hp} {s : Shared} {p : Addr} {xs ys : List V} {its its' : List Value} {n n' : Nat} {f : Obj → Obj} (I : Inv X pins σ H s) (h : H p = some (.lst xs))
    (ho : s.heap.get? p = some { cls := .type "list", data := .seq its.toArray n }) (hf : f { cls := .type "list", data := .seq its.toArray n } = { cls := .type "list", data := .seq its'.toArray n' }) (r : Vals ys its') (hz : ys.length ≤ sizeLine) (t : Nat) :
    Inv X pins σ (upd H p (.lst ys)) { s with heap := s.heap.update p f, toks := t } := by
  have e : (s.heap.update p f).get? p = some { cls := .type "list", data := .seq its'.toArray n' } := by
    rw [Heap.get?_update_self f ho (by rw [hf] <;> rfl), hf]
  refine I.write (x := p) (e := p) (by rw [h]; trivial) (.inl rfl) (fun b u hb q => (Heap.get?_update_other _ _ (Ne.symm hb)).trans q) ⟨_, e⟩ ?_
  exact ⟨hz, its', n', r, e⟩
inductive SetLR (o i v : V) (H : Hp) (Q : Hp → Prop) : Prop
  | mk (p : Addr) (xs : List V) (k : Int) (j : Nat) (e1 : o = .ref p) (e2 : i = .int k) (h : H p = some (.lst xs)) (x : ixN xs.length k = some j) (q : Q (upd H p (.lst (xs.set j v)))) : SetLR o i v H Q
noncomputable def rSetL : V → V → V → Hp → (Hp → Prop) → Prop := fun o i v H Q => SetLR o i v H Q
theorem set_list : PSet X rSetL := by
  intro pins s σ H o i v ov iv u Q I ro ri rv h
  obtain ⟨p, xs, k, j, rfl, rfl, hp, hj, q⟩ := h
  cases ro
  obtain ⟨t, rfl⟩ := ri
  obtain ⟨its, n, r, ho, hz⟩ := I.lst hp
  obtain ⟨h1, h2, h3, h4⟩ := ixN_seq hj
  have hl := r.length
  have hn := line63
  have I' : Inv X pins σ (upd H p (.lst (xs.set j v))) { s with heap := s.heap.update p (Obj.mapSeq (·.setIfInBounds j u)) } :=
    I.lstUpd hp ho (mapSeq_set its n j u) (r.set rv j) (by rw [List.length_set]; exact hz) s.toks
  by_cases h0 : 0 ≤ k
  · have hk : k.toNat = j := by
      rw [seqIndex_of h0 h4] at h1
      exact Option.some.inj h1
    exact PySem.W.ki_setAt ho h0 (by omega) (by rw [List.size_toArray, ← hl]; exact h4) (by rw [hk]; exact ⟨_, I', q⟩)
  · have hk : (k + (its.toArray.size : Int)).toNat = j := by
      rw [seqIndex_neg (by omega) h3] at h1
      rw [List.size_toArray, ← hl]
      exact Option.some.inj h1
    exact PySem.W.ki_setBack ho (by omega) (by rw [List.size_toArray, ← hl]; exact h3) (by omega) (by rw [hk]; exact ⟨_, I', q⟩)

theorem slice_bounds (lo hi : Option Int) (n : Nat) : (sliceBounds lo hi none n).1 = ((HT.sIx n 0 lo : Nat) : Int) ∧ (sliceBounds lo hi none n).2.1 = ((HT.sIx n n hi : Nat) : Int) ∧ (sliceBounds lo hi none n).2.2 = 1 := by
  refine ⟨?_, ?_, rfl⟩
  · cases lo with
    | none => simp [sliceBounds, HT.sIx]
    | some i =>
      simp only [sliceBounds, HT.sIx, Option.getD_none, show (1 : Int) > 0 by decide, if_true]
      by_cases h : i < 0
      · simp only [h, if_true] <;> omega
      · simp only [h, if_false] <;> omega
  · cases hi with
    | none => simp [sliceBounds, HT.sIx]
    | some i =>
      simp only [sliceBounds, HT.sIx, Option.getD_none, show (1 : Int) > 0 by decide, if_true]
      by_cases h : i < 0
      · simp only [h, if_true] <;> omega
      · simp only [h, if_false] <;> omega
theorem slicePick_cut (its : List Value) (lo hi : Option Int) : slicePick its.toArray lo hi none = ((its.drop (HT.sIx its.length 0 lo)).take (HT.sIx its.length its.length hi - HT.sIx its.length 0 lo)).toArray := by
  obtain ⟨h1, h2, h3⟩ := slice_bounds lo hi its.toArray.size
  unfold slicePick
  rw [h1, h2, h3]
  simp only [sliceRange_one, pick_run, List.size_toArray] <;> rfl
inductive SlLR (K : PySem.W.Frag) (x : V) (lo hi : Option Int) (H : Hp) (Q : VK) : Prop
  | mk (a : Addr) (xs : List V) (e : x = .ref a) (s : SqL K H a xs) (q : ∀ p, H p = none → Q (.ref p) (upd H p (.lst (cutV xs lo hi)))) : SlLR K x lo hi H Q
noncomputable def rSlL (K : PySem.W.Frag) : V → Option Int → Option Int → Hp → VK → Prop := fun x lo hi H Q => SlLR K x lo hi H Q
theorem sl_list : SlR X (rSlL X.K) := by
  intro pins s σ H x v vl vu lo hi sl Q I rx hs pl pu h
  obtain ⟨a, xs, rfl, hx, q⟩ := h
  cases rx
  obtain ⟨its, r, ht, hz⟩ := I.list hx
  have hlen := r.length
  refine ⟨"list", _, slot_list_getitem.lookup, ht.isList.typeIs, ?_⟩
  refine wpAny_getItem_list_slice ht.isList hs pl pu .none (by simp) ?_ (by rw [List.size_toArray] <;> omega)
  rw [slicePick_cut, ← hlen]
  refine ⟨.ref s.heap.objs.size, _, I.laid (t' := s.toks) (o := .lst (cutV xs lo hi)) (fun b ob q => Heap.get?_push_of_some _ q) (Nat.le_refl _) ?_, rfl, q _ (I.hok.fresh (Nat.le_refl _))⟩
  exact ⟨Nat.le_trans (cutV_length xs lo hi) hz, _, 0, (r.drop (HT.sIx xs.length 0 lo)).take (HT.sIx xs.length xs.length hi - HT.sIx xs.length 0 lo), Heap.get?_push_size _ rfl⟩

inductive LenR (K : PySem.W.Frag) (xs : List V) (H : Hp) (Q : VK) : Prop
  | mk (p : Addr) (ys : List V) (e : xs = [.ref p]) (s : SqL K H p ys ∨ SqT K H p ys) (q : Q (.int ys.length) H) : LenR K xs H Q
theorem call_len_seq : CallR X (.builtin "len") (LenR X.K) := by
  intro pins s σ H xs us Q I r h
  obtain ⟨p, ys, rfl, hq, q⟩ := h
  obtain ⟨u, rfl, rx⟩ := vals1 r
  cases rx
  have hn := line63
  rcases hq with hq | hq
  · obtain ⟨its, r', pl, hz⟩ := I.list hq
    have hlen := r'.length
    exact Calls.call_len_list pl.isList (by simp only [List.size_toArray] <;> omega) ⟨.int ys.length, H, I.tok _, ⟨s.toks + 1, by rw [List.size_toArray, hlen]⟩, q⟩
  · obtain ⟨its, r', pl, hz⟩ := I.tuple hq
    have hlen := r'.length
    exact len_tuple pl (by simp only [List.size_toArray] <;> omega) ⟨.int ys.length, H, I.tok _, ⟨s.toks + 1, by rw [List.size_toArray, hlen]⟩, q⟩
theorem call_list_of : CallR X (.type "list") (fun xs H Q => ∃ p ys, xs = [.ref p] ∧ (SqL X.K H p ys ∨ SqT X.K H p ys) ∧ ∀ l, H l = none → Q (.ref l) (upd H l (.lst ys))) := by
  intro pins s σ H xs us Q I r h
  obtain ⟨p, ys, rfl, hq, q⟩ := h
  obtain ⟨u, rfl, rx⟩ := vals1 r
  cases rx
  have fin : ∀ (its : List Value), Vals ys its → ys.length ≤ sizeLine → ∀ (h' : Heap) (c' : Nat), (∀ b o', s.heap.get? b = some o' → h'.get? b = some o') →
      h'.get? s.heap.objs.size = some { cls := .type "list", dict := none, data := .seq its.toArray c', slots := #[] } → EP X pins σ Q (.ref s.heap.objs.size) { s with heap := h' } := fun its r' hz h' c' kp e =>
    ⟨.ref s.heap.objs.size, _, I.laid (t' := s.toks) kp (Nat.le_refl _) (show ObjOk X.prog X.w _ h' _ (.lst ys) from ⟨hz, its, c', r', e⟩), rfl, q _ (I.hok.fresh (Nat.le_refl _))⟩
  rcases hq with hq | hq
  · obtain ⟨its, r', pl, hz⟩ := I.list hq
    have hlen := r'.length
    obtain ⟨o, ho, hc, n, hd⟩ := pl.isList
    exact call_list_seq p (.inl rfl) ho hc hd (fun h' c' kp e => fin its r' hz h' c' kp e) (by simp only [List.size_toArray] <;> omega)
  · obtain ⟨its, r', pl, hz⟩ := I.tuple hq
    have hlen := r'.length
    obtain ⟨o, ho, hc, n, hd⟩ := pl
    exact call_list_seq p (.inr rfl) ho hc hd (fun h' c' kp e => fin its r' hz h' c' kp e) (by simp only [List.size_toArray] <;> omega)
theorem call_tuple_of : CallR X (.type "tuple") (fun xs H Q => ∃ p ys, xs = [.ref p] ∧ ((SqL X.K H p ys ∧ ∀ l, H l = none → Q (.ref l) (upd H l (.tup ys))) ∨ (SqT X.K H p ys ∧ Q (.ref p) H))) := by
  intro pins s σ H xs us Q I r h
  obtain ⟨p, ys, rfl, h⟩ := h
  obtain ⟨u, rfl, rx⟩ := vals1 r
  cases rx
  rcases h with ⟨hq, q⟩ | ⟨hq, q⟩
  · obtain ⟨its, r', pl, hz⟩ := I.list hq
    have hlen := r'.length
    refine call_tuple_list pl.isList (fun h' kp => ?_) (by simp only [List.size_toArray] <;> omega)
    have I1 : Inv X pins σ H { s with heap := h' } := I.kept (t' := s.toks) kp
    have I2 : Inv X pins σ (upd H h'.objs.size (.tup ys)) { s with heap := h'.push { cls := .type "tuple", data := .seq its.toArray } } :=
      I1.laid (t' := s.toks) (fun b o e => Heap.get?_push_of_some _ e) (Nat.le_refl _) (show ObjOk X.prog X.w _ _ _ (.tup ys) from ⟨hz, its, r', IsTup.new _ _, _, Heap.get?_push_size _ rfl, rfl⟩)
    exact ⟨.ref h'.objs.size, _, I2, rfl, q _ (I1.hok.fresh (Nat.le_refl _))⟩
  · obtain ⟨its, r', pl, hz⟩ := I.tuple hq
    exact call_tuple_same pl ⟨.ref p, H, I, rfl, q⟩

noncomputable def tyV (K : PySem.W.Frag) (T : String) (x : V) (H : Hp) : Prop := match x with
  | .str _ => T = "str"
  | .int _ => T = "int"
  | .ref p => (T = "list" ∧ ∃ xs, SqL K H p xs) ∨ (T = "tuple" ∧ ∃ o, K.lookup p = some o ∧ o.cls = .type "tuple" ∧ o.dict = none) ∨
      (T = "dict" ∧ ((∃ kvs, H p = some (.dK kvs)) ∨ ∃ kvs, H p = some (.dT kvs))) ∨ (T = "set" ∧ ∃ S n, H p = some (.set S n))
  | _ => False
theorem tyV_is {pins : List (Addr × Obj)} {σ : St} {H : Hp} {s : Shared} {T : String} {x : V} {v : Value} (I : Inv X pins σ H s) (r : RelV x v) (ty : tyV X.K T x H) :
    s.TypeIs v T ∧ ∀ a, v = .ref a → ∃ ob, s.heap.get? a = some ob ∧ ob.dict = none := by
  cases x with
  | str z =>
    obtain ⟨t, rfl⟩ := r
    cases (show T = "str" from ty)
    exact ⟨typeIs_str s z t, fun _ e => nomatch e⟩
  | int i =>
    obtain ⟨t, rfl⟩ := r
    cases (show T = "int" from ty)
    exact ⟨typeIs_int s i t, fun _ e => nomatch e⟩
  | ref p =>
    cases r
    rcases ty with ⟨rfl, xs, hq⟩ | ⟨rfl, o, hk, hc, hd⟩ | ⟨rfl, hk⟩ | ⟨rfl, S, n, hk⟩
    · obtain ⟨its, _, pl, _⟩ := I.list hq
      refine ⟨pl.isList.typeIs, fun a e => ?_⟩
      cases e
      obtain ⟨o, n, e, c, hd, _⟩ := pl
      exact ⟨o, e, hd⟩
    · refine ⟨⟨o, I.kIn p o hk, hc⟩, fun a e => ?_⟩
      cases e
      exact ⟨o, I.kIn _ o hk, hd⟩
    · have z : ∃ o, s.heap.get? p = some o ∧ o.ExactDict := by
        rcases hk with ⟨kvs, hk⟩ | ⟨kvs, hk⟩
        · obtain ⟨_, _, _, _, o, _, _, e, ex, _⟩ := I.hok p _ hk
          exact ⟨o, e, ex⟩
        · obtain ⟨_, _, _, _, o, _, _, e, ex, _⟩ := I.hok p _ hk
          exact ⟨o, e, ex⟩
      obtain ⟨o, e, ex⟩ := z
      refine ⟨⟨o, e, ex.1⟩, fun a e2 => ?_⟩
      cases e2
      exact ⟨o, e, ex.2.1⟩
    · obtain ⟨o, _, _, _, e, ex, _⟩ := I.hok p _ hk
      refine ⟨⟨o, e, ex.1⟩, fun a e2 => ?_⟩
      cases e2
      exact ⟨o, e, ex.2.1⟩
  | _ => exact False.elim ty
noncomputable def tBM (K : PySem.W.Frag) (T : String) (r : V → List V → Hp → VK → Prop) (to : TE) (t : TA) : TE := fun σ H Q => to σ H fun x H1 => tyV K T x H1 ∧ t σ H1 fun xs H2 => r x xs H2 Q
variable {o e : Expr} {es : List Expr} {to : TE} {t : TA} {name : Str} {apos cpos : Pos} {T id : String} {r : V → List V → Hp → VK → Prop}
theorem pe_bm (pa : PlainAttrs T) (slot : Slot T name id) (hty : typeOf (.builtin id) = pure (.type "method_descriptor")) (hm : MtR X id r) (ho : PE X o to) (ha : PA X (e :: es) t)
    (hbase : attributeBase o name X.env (eval o X.env) = eval o X.env := by rfl)
    (hfew : ((backTo cpos (starEach (e :: es) X.env)).all (fun x => !x.1) && (backToKw cpos (keywordEach [] X.env)).all (fun x => x.1.isSome)
      && decide ((e :: es).length + ([] : List Keyword).length + (if ([] : List Keyword).isEmpty then 0 else 1) < 30)) = true := by rfl)
    (hline : (apos.endLine == cpos.line) = true := by rfl) (hs : starEach (e :: es) X.env = (false, eval e X.env) :: starEach es X.env := by rfl) (hplain : (backTo cpos (starEach es X.env)).any (·.1) = false := by rfl) :
    PE X (.Call (.Attribute o name apos) (e :: es) [] cpos) (tBM X.K T r to t) := by
  intro pins s σ H Q I h
  refine wpAny_Call_method_late hbase hfew hline rfl (thn (ho pins s σ H _ I h) fun v s1 ⟨x, H1, I1, r1, ty, q1⟩ => ?_)
  obtain ⟨h1, h2⟩ := tyV_is I1 r1 ty
  refine ⟨T, id, pa, slot, hty, h1, h2, ?_⟩
  have hA := ha cpos pins s1 σ H1 _ I1 q1
  rw [hs] at hA ⊢
  refine Calls.callWith_builtin (by show (false || (backTo cpos (starEach es X.env)).any (·.1)) = false; rw [hplain] <;> rfl) (Calls.evalArgs_plain ?_)
  exact thn hA fun us s2 ⟨vs, H2, I2, r2, q2⟩ => hm pins s2 σ H2 x vs v us Q I2 r1 r2 q2
/- xs.append(e), list.index on a module's tuple .. are MtR facts of 06m -/
end
end L2

namespace L2
open PySem PySem.Spec PyProof.Rows

noncomputable def MtM (X : Cx) (id : String) (r : V → List V → Hp → VK → Prop) : Prop :=
  ∀ (pins : List (Addr × Obj)) (s : Shared) (σ : St) (H : Hp) (x : V) (xs : List V) (v : Value) (us : List Value) (Q : VK), Inv X pins σ H s → RelV x v → Vals xs us → r x xs H Q →
    wpAny (model X.prog X.w) X.A (call (.builtin id) (v :: us)) (EP X pins σ Q) X.xe s

theorem Vals.one : ∀ {x : V} {us : List Value}, Vals [x] us → ∃ u, us = [u] ∧ RelV x u
  | _, _, .cons r .nil => ⟨_, rfl, r⟩
theorem Vals.dropLast {xs : List V} {us : List Value} (h : Vals xs us) : Vals xs.dropLast us.dropLast := by
  induction h with
  | nil => exact .nil
  | cons r t ih =>
    cases t with
    | nil => exact .nil
    | cons q t' => exact .cons r ih
theorem Vals.eraseIdx : ∀ {xs : List V} {us : List Value} (i : Nat), Vals xs us → Vals (xs.eraseIdx i) (us.eraseIdx i)
  | _, _, _, .nil => .nil
  | _, _, 0, .cons _ t => t
  | _, _, i + 1, .cons r t => .cons r (Vals.eraseIdx i t)
theorem Vals.rep {xs : List V} {us : List Value} (h : Vals xs us) : ∀ k : Nat, Vals (List.replicate k xs).flatten (List.replicate k us).flatten
  | 0 => .nil
  | k + 1 => by
    rw [List.replicate_succ, List.replicate_succ, List.flatten_cons, List.flatten_cons]
    exact Vals.append h (Vals.rep h k)
theorem len_erase {α : Type} : ∀ (l : List α) (i : Nat), (l.eraseIdx i).length ≤ l.length
  | [], _ => Nat.le_refl _
  | _ :: _, 0 => Nat.le_succ _
  | _ :: r, i + 1 => Nat.succ_le_succ (len_erase r i)
section
variable {X : Cx} {pins : List (Addr × Obj)} {σ : St} {H : Hp} {s : Shared} {l b : Addr} {xs ys zs : List V}

theorem Inv.lset {its its' : List Value} {n : Nat} {f : Array Value → Array Value} {t' : Nat} (I : Inv X pins σ H s) (hH : H l = some (.lst xs))
    (e : s.heap.get? l = some { cls := .type "list", data := .seq its.toArray n }) (hf : f its.toArray = its'.toArray) (hv : Vals ys its') (hz : ys.length ≤ sizeLine) :
    Inv X pins σ (upd H l (.lst ys)) { s with heap := s.heap.update l (Obj.mapSeq f), toks := t' } := by
  have q := PySem.IsL.update e f
  rw [hf] at q
  refine I.write (x := l) (e := l) (by rw [hH]; exact trivial) (.inl rfl) (fun b' u hb hu => (Heap.get?_update_other s.heap (Obj.mapSeq f) (Ne.symm hb)).trans hu) ⟨_, q⟩ ?_
  exact ⟨hz, its', _, hv, q⟩
theorem Inv.lnew {its : List Value} {t' : Nat} (I : Inv X pins σ H s) (hv : Vals ys its) (hz : ys.length ≤ sizeLine) :
    Inv X pins σ (upd H s.heap.objs.size (.lst ys)) { s with heap := s.heap.push { cls := .type "list", data := .seq its.toArray }, toks := t' } :=
  I.laid (fun _ _ q => Heap.get?_push_of_some _ q) (Nat.le_refl _) ⟨hz, its, 0, hv, Heap.get?_push_size _ rfl⟩
theorem Inv.fresh (I : Inv X pins σ H s) : H s.heap.objs.size = none := I.hok.fresh (Nat.le_refl _)
theorem Inv.lstM (I : Inv X pins σ H s) (hH : H l = some (.lst xs)) : xs.length ≤ sizeLine ∧ ∃ (its : List Value) (n : Nat), Vals xs its ∧ xs.length = its.length ∧ s.heap.get? l = some { cls := .type "list", data := .seq its.toArray n } := by
  obtain ⟨z, its, n, r, e⟩ := I.hok l _ hH
  exact ⟨z, its, n, r, r.length, e⟩

end

section
variable {X : Cx}

inductive AppR (x : V) (vs : List V) (H : Hp) (Q : VK) : Prop
  | mk (l : Addr) (xs : List V) (y : V) (e1 : x = .ref l) (e2 : vs = [y]) (h : H l = some (.lst xs)) (n : xs.length < sizeLine) (q : Q .non (upd H l (.lst (xs ++ [y])))) : AppR x vs H Q
noncomputable def rAppend : V → List V → Hp → VK → Prop := fun x vs H Q => AppR x vs H Q
theorem mt_append : MtM X "list.append" rAppend := by
  intro pins s σ H x vs v us Q I rx rv h
  obtain ⟨l, xs, y, rfl, rfl, hH, hz, q⟩ := h
  cases rx
  obtain ⟨u, rfl, ru⟩ := rv.one
  obtain ⟨z, its, n, r, hl, e⟩ := I.lstM hH
  refine call_meets F.slot_list_append ⟨_, e, rfl⟩ F.entry_list_append (F.args_list_append_2 _ _) (PySem.list_append l its.toArray n u (by rw [List.size_toArray]; omega)) ⟨e, ?_⟩
  refine ⟨.non, _, I.lset (its' := its ++ [u]) hH e (by simp) (r.append (.cons ru .nil)) ?_, rfl, q⟩
  rw [List.length_append, List.length_singleton]
  omega

noncomputable def rPopAt : V → List V → Hp → VK → Prop := fun x vs H Q => ∃ l xs i k y, x = .ref l ∧ vs = [.int i] ∧ H l = some (.lst xs) ∧ -(2 ^ 63) ≤ i ∧ i < 2 ^ 63 ∧ seqIndex? i xs.length = some k ∧ xs[k]? = some y ∧ Q y (upd H l (.lst (xs.eraseIdx k)))
theorem mt_popAt : MtM X "list.pop" rPopAt := by
  intro pins s σ H x vs v us Q I rx rv h
  obtain ⟨l, xs, i, k, y, rfl, rfl, hH, h1, h2, hk, hy, q⟩ := h
  cases rx
  obtain ⟨u, rfl, ru⟩ := rv.one
  obtain ⟨t, rfl⟩ := ru
  obtain ⟨z, its, n, r, hl, e⟩ := I.lstM hH
  obtain ⟨w, hw, rw'⟩ := r.get hy
  refine call_meets F.slot_list_pop ⟨_, e, rfl⟩ F.entry_list_pop (F.args_list_pop_2 _ _)
    (MeetsSeq.list_pop_at l its.toArray n i t k w (fitsIndex_both h1 h2) (by rw [List.size_toArray, ← hl]; exact hk) (by rw [← Array.getElem?_toList]; exact hw) (by rw [List.size_toArray]; omega)) ⟨e, ?_⟩
  refine ⟨y, _, I.lset (its' := its.eraseIdx k) hH e ?_ (r.eraseIdx k) ?_, rw', q⟩
  · show its.toArray.eraseIdxIfInBounds k = (its.eraseIdx k).toArray
    rw [List.eraseIdxIfInBounds_toArray]
  · have := len_erase xs k
    omega

inductive CatR (x y : V) (H : Hp) (Q : VK) : Prop
  | mk (l b : Addr) (xs zs : List V) (e1 : x = .ref l) (e2 : y = .ref b) (h1 : H l = some (.lst xs)) (h2 : H b = some (.lst zs)) (n : xs.length + zs.length ≤ sizeLine) (q : ∀ p, H p = none → Q (.ref p) (upd H p (.lst (xs ++ zs)))) : CatR x y H Q
noncomputable def rCat : R2 := fun x y H Q => CatR x y H Q
theorem op_cat : OpR X (binaryOp .Add) rCat := by
  intro pins s σ H x y v u Q I rx ry h
  obtain ⟨l, b, xs, zs, rfl, rfl, hH, hB, hz, q⟩ := h
  cases rx
  cases ry
  obtain ⟨z, its, n, r, hl, e⟩ := I.lstM hH
  obtain ⟨z2, its2, n2, r2, hl2, e2⟩ := I.lstM hB
  refine PySem.P.add_list e e2 ?_ (by rw [List.size_toArray, List.size_toArray]; omega)
  have ea : its.toArray ++ its2.toArray = (its ++ its2).toArray := by simp
  rw [ea]
  exact ⟨.ref _, _, I.lnew (t' := s.toks) (r.append r2) (by rw [List.length_append]; omega), rfl, q _ I.fresh⟩
end

section
variable {prog : Program} {w : World} {A : Around} {E : Value → Shared → Prop} {s : Shared}
end

section
variable {X : Cx}
end
end L2

namespace L2
open PySem PySem.Spec PyProof.Rows

section
variable {κ : Type} [DecidableEq κ]
noncomputable def valV (kvs : List (κ × V)) (k : κ) : Option V := (kvs.find? fun kv => decide (kv.1 = k)).map (·.2)
noncomputable def putK (kvs : List (κ × V)) (k : κ) (v : V) : List (κ × V) :=
  if (kvs.any fun kv => decide (kv.1 = k)) = true then kvs.map (fun kv => if kv.1 = k then (kv.1, v) else kv) else kvs ++ [(k, v)]
noncomputable def dropK (kvs : List (κ × V)) (k : κ) : List (κ × V) := kvs.filter fun kv => decide (kv.1 ≠ k)

theorem valV_pos {p : κ × V} {r : List (κ × V)} {k : κ} (e : p.1 = k) : valV (p :: r) k = some p.2 := by simp [valV, List.find?_cons, e]
theorem valV_neg {p : κ × V} {r : List (κ × V)} {k : κ} (e : ¬ p.1 = k) : valV (p :: r) k = valV r k := by simp [valV, List.find?_cons, e]
theorem valV_any (k : κ) : ∀ kvs : List (κ × V), (kvs.any fun kv => decide (kv.1 = k)) = (valV kvs k).isSome
  | [] => rfl
  | p :: r => by
    rw [List.any_cons]
    by_cases e : p.1 = k
    · simp only [valV_pos e, decide_eq_true e, Bool.true_or, Option.isSome_some]
    · rw [valV_neg e, decide_eq_false e, Bool.false_or]; exact valV_any k r
theorem RelO.isSome_eq {o : Option V} {u : Option Value} (r : RelO o u) : o.isSome = u.isSome := by
  cases o with
  | none => cases u with
    | none => rfl
    | some _ => exact (show False from r).elim
  | some _ => cases u with
    | none => exact (show False from r).elim
    | some _ => rfl
theorem RelO.getD {o : Option V} {u : Option Value} {d : V} {d' : Value} (r : RelO o u) (rd : RelV d d') : RelV (o.getD d) (u.getD d') := by
  cases o with
  | none => cases u with
    | none => exact rd
    | some _ => exact (show False from r).elim
  | some _ => cases u with
    | none => exact (show False from r).elim
    | some _ => exact r

theorem KV.val {kvs : List (κ × V)} {vs : List (κ × Value)} (r : KV kvs vs) (k : κ) : RelO (valV kvs k) (valueAt vs k) := by
  unfold KV at r
  induction r with
  | nil => exact True.intro
  | @cons p q ps qs h t ih =>
    obtain ⟨h1, h2⟩ := h
    by_cases e : p.1 = k
    · have e' : q.1 = k := h1.symm.trans e
      have b : valueAt (q :: qs) k = some q.2 := by simp [valueAt, List.find?_cons, e']
      rw [valV_pos e, b]; exact h2
    · have e' : ¬ q.1 = k := fun z => e (h1.trans z)
      have b : valueAt (q :: qs) k = valueAt qs k := by simp [valueAt, List.find?_cons, e']
      rw [valV_neg e, b]; exact ih
theorem KV.any {kvs : List (κ × V)} {vs : List (κ × Value)} (r : KV kvs vs) (k : κ) : (kvs.any fun kv => decide (kv.1 = k)) = vs.any fun kv => decide (kv.1 = k) := by
  unfold KV at r
  induction r with
  | nil => rfl
  | cons h t ih => rw [List.any_cons, List.any_cons, ih, h.1]
theorem KV.repl {kvs : List (κ × V)} {vs : List (κ × Value)} (r : KV kvs vs) (k : κ) {y : V} {u : Value} (ry : RelV y u) :
    KV (kvs.map fun kv => if kv.1 = k then (kv.1, y) else kv) (vs.map fun kv => if kv.1 = k then (kv.1, u) else kv) := by
  unfold KV at r ⊢
  induction r with
  | nil => exact .nil
  | @cons p q ps qs h t ih =>
    rw [List.map_cons, List.map_cons]
    refine .cons ?_ ih
    obtain ⟨h1, h2⟩ := h
    by_cases e : p.1 = k
    · rw [if_pos e, if_pos (h1.symm.trans e)]; exact ⟨h1, ry⟩
    · rw [if_neg e, if_neg (fun z => e (h1.trans z))]; exact ⟨h1, h2⟩
theorem KV.put {kvs : List (κ × V)} {vs : List (κ × Value)} (r : KV kvs vs) (k : κ) {y : V} {u : Value} (ry : RelV y u) : KV (putK kvs k y) (stored vs k u) := by
  unfold putK stored
  rw [r.any k]
  by_cases e : (vs.any fun kv => decide (kv.1 = k)) = true
  · rw [if_pos e, if_pos e]; exact r.repl k ry
  · rw [if_neg e, if_neg e]; exact Paired.snoc r ⟨rfl, ry⟩
theorem KV.drop {kvs : List (κ × V)} {vs : List (κ × Value)} (r : KV kvs vs) (k : κ) : KV (dropK kvs k) (without vs k) := by
  unfold KV at r ⊢
  unfold dropK without
  induction r with
  | nil => exact .nil
  | @cons p q ps qs h t ih =>
    obtain ⟨h1, h2⟩ := h
    rw [List.filter_cons, List.filter_cons]
    by_cases e : p.1 = k
    · have a : ¬ decide (p.1 ≠ k) = true := by simp [e]
      have b : ¬ decide (q.1 ≠ k) = true := by simp [h1.symm.trans e]
      rw [if_neg a, if_neg b]; exact ih
    · have e' : ¬ q.1 = k := fun z => e (h1.trans z)
      have a : decide (p.1 ≠ k) = true := by simp [e]
      have b : decide (q.1 ≠ k) = true := by simp [e']
      rw [if_pos a, if_pos b]; exact .cons ⟨h1, h2⟩ ih
theorem KV.length {kvs : List (κ × V)} {vs : List (κ × Value)} (r : KV kvs vs) : kvs.length = vs.length := Paired.length r
end


noncomputable abbrev KT (H : Hp) : List (List Key × V) → List (List Key × Addr × Value) → Prop := Paired fun p q => p.1 = q.1 ∧ H q.2.1 = some (.tup (p.1.map kV)) ∧ RelV p.2 q.2.2
theorem KT.val {H : Hp} {kvs : List (List Key × V)} {xs : List (List Key × Addr × Value)} (r : KT H kvs xs) (k : List Key) : RelO (valV kvs k) ((atKey xs k).map (·.2)) := by
  induction r with
  | nil => exact True.intro
  | @cons p q ps qs h t ih =>
    obtain ⟨h1, _, h2⟩ := h
    by_cases e : p.1 = k
    · have e' : q.1 = k := h1.symm.trans e
      have b : atKey (q :: qs) k = some q.2 := by simp [atKey, List.find?_cons, e']
      rw [valV_pos e, b]; exact h2
    · have e' : ¬ q.1 = k := fun z => e (h1.trans z)
      have b : atKey (q :: qs) k = atKey qs k := by simp [atKey, List.find?_cons, e']
      rw [valV_neg e, b]; exact ih
theorem KT.repl {H : Hp} {kvs : List (List Key × V)} {xs : List (List Key × Addr × Value)} (r : KT H kvs xs) (k : List Key) {y : V} {u : Value} (ry : RelV y u) :
    KT H (kvs.map fun kv => if kv.1 = k then (kv.1, y) else kv) (xs.map (putAt k u)) := by
  induction r with
  | nil => exact .nil
  | @cons p q ps qs h t ih =>
    rw [List.map_cons, List.map_cons]
    refine .cons ?_ ih
    obtain ⟨h1, h2, h3⟩ := h
    unfold putAt
    by_cases e : p.1 = k
    · rw [if_pos e, if_pos (h1.symm.trans e)]; exact ⟨h1, h2, ry⟩
    · rw [if_neg e, if_neg (fun z => e (h1.trans z))]; exact ⟨h1, h2, h3⟩
theorem KT.put {H : Hp} {kvs : List (List Key × V)} {xs : List (List Key × Addr × Value)} (r : KT H kvs xs) (k : List Key) {b : Addr} {y : V} {u : Value} (hb : H b = some (.tup (k.map kV))) (ry : RelV y u) :
    KT H (putK kvs k y) (storedH xs k b u) := by
  have e : (kvs.any fun kv => decide (kv.1 = k)) = (atKey xs k).isSome := by
    rw [valV_any, (r.val k).isSome_eq, Option.isSome_map]
  unfold putK storedH
  rw [e]
  by_cases q : (atKey xs k).isSome = true
  · rw [if_pos q, if_pos q]; exact r.repl k ry
  · rw [if_neg q, if_neg q]; exact Paired.snoc r ⟨rfl, hb, ry⟩
theorem KT.keeps {H H' : Hp} {kvs : List (List Key × V)} {xs : List (List Key × Addr × Value)} (r : KT H kvs xs) (ht : ∀ b ys, H b = some (.tup ys) → H' b = some (.tup ys)) : KT H' kvs xs :=
  Paired.mapP r fun _ _ z => ⟨z.1, ht _ _ z.2.1, z.2.2⟩

section
variable {P : Program} {w : World} {H : Hp} {h : Heap} {a : Addr}
end

section
variable {X : Cx} {pins : List (Addr × Obj)} {σ : St} {H : Hp} {s : Shared} {a : Addr} {y v : V} {u r : Value} {o : Option V} {A : Around} {E : Value → Shared → Prop}

end

section
variable {X : Cx} {pins : List (Addr × Obj)} {σ : St} {H : Hp} {s : Shared} {a : Addr} {kvs : List (Key × V)} {k : Key} {u : Value} {A : Around} {E : Value → Shared → Prop}
end


section
variable {X : Cx} {o i e value : Expr} {pos pos' tpos : Pos} {td ty tv : TE}
end


section
variable {X : Cx} {pos : Pos}
end

structure M1 (X : Cx) (o : Expr) (m : Str) (apos : Pos) (e : Expr) (cpos : Pos) : Prop where
  base : attributeBase o m X.env (eval o X.env) = eval o X.env
  few : ((backTo cpos (starEach [e] X.env)).all (fun x => !x.1) && (backToKw cpos (keywordEach [] X.env)).all (fun x => x.1.isSome)
    && decide (([e] : List Expr).length + ([] : List Keyword).length + (if ([] : List Keyword).isEmpty then 0 else 1) < 30)) = true
  line : (apos.endLine == cpos.line) = true
  trees : backTo cpos (starEach [e] X.env) = [(false, eval e X.env)]
structure M2 (X : Cx) (o : Expr) (m : Str) (apos : Pos) (e f : Expr) (cpos : Pos) : Prop where
  base : attributeBase o m X.env (eval o X.env) = eval o X.env
  few : ((backTo cpos (starEach [e, f] X.env)).all (fun x => !x.1) && (backToKw cpos (keywordEach [] X.env)).all (fun x => x.1.isSome)
    && decide (([e, f] : List Expr).length + ([] : List Keyword).length + (if ([] : List Keyword).isEmpty then 0 else 1) < 30)) = true
  line : (apos.endLine == cpos.line) = true
  trees : backTo cpos (starEach [e, f] X.env) = [(false, eval e X.env), (false, eval f X.env)]

section
variable {X : Cx} {pins : List (Addr × Obj)} {σ : St} {H : Hp} {s : Shared} {a : Addr} {y d : V} {u r : Value} {o : Option V} {A : Around} {E : Value → Shared → Prop}
end

section
variable {X : Cx} {o e f : Expr} {apos cpos : Pos} {td ty tx : TE}
end

section
variable {X : Cx} {pins : List (Addr × Obj)} {σ : St} {H : Hp} {s : Shared} {a : Addr} {kvs : List (Key × V)} {A : Around} {E : Value → Shared → Prop}
end


section
variable {X : Cx} {pins : List (Addr × Obj)} {σ : St} {H : Hp} {s : Shared} {a : Addr} {y : V} {u : Value} {A : Around} {E : Value → Shared → Prop}
end
end L2


namespace Att
open PySem PySem.W PySem.Calls PyProof.Rows

theorem ints_of_wellAll {P : Params} {h : Heap} : ∀ (ns : List Int) (vs : List Value), WellAll P h vs (ns.map WData.int) → IntsAre vs ns := by
  intro ns
  induction ns with
  | nil =>
    intro vs w
    rw [List.map_nil] at w
    cases w
    exact .nil
  | cons n ns ih =>
    intro vs w
    rw [List.map_cons] at w
    cases w with
    | cons a b =>
      cases a
      exact .cons _ _ (ih _ b)

theorem script_of {l : OpenLaw} {n : Nat} (hn : l.most = some n) {P : Params} {h : Heap} {args : List WData} {vals : List Value}
    (hpre : l.row.toRowW.claim.pre args = true) (hwl : WellAll P h vals args) :
    ∃ a vs ns, vals = [Value.ref a] ∧ args = [WData.list (ns.map WData.int)] ∧ h.get? a = some { cls := .type "list", data := .seq vs.toArray } ∧ IntsAre vs ns ∧ ns.length ≤ n := by
  have hsh : WShape.hasAll [] args [.list .int] = true := (pre_splitW hpre).1
  have hc : l.pre.holds [] { args := args } = true := (pre_splitW hpre).2
  obtain ⟨d, r, rfl, h1, h2⟩ := hasAllW_cons hsh
  obtain rfl := hasAllW_nil h2
  obtain ⟨xs, rfl, h3⟩ := hasW_list h1
  obtain ⟨ns, rfl⟩ := items_int h3
  have hlen : ns.length ≤ n := by
    unfold OpenLaw.pre at hc
    have h4 : (WTm.not (.lt (.lit (.int (n : Int))) (.len (.arg 0)))).holds [] { args := [.list (ns.map .int)] } = true := by
      have h4 := (holds_andW hc).1
      rw [hn] at h4
      exact h4
    have h5 := condW_of h4 (w_not (w_lt w_lit (w_len_list (w_arg rfl))))
    rw [List.length_map] at h5
    refine Nat.le_of_not_lt fun q => ?_
    have q' : (n : Int) < ((ns.length : Nat) : Int) := by omega
    first
      | (rw [decide_eq_true q'] at h5; exact absurd h5 (by decide))
      | (simp at h5; omega)
  cases hwl with
  | cons w1 w2 =>
    cases w2
    cases w1 with
    | list ho hall => exact ⟨_, _, ns, rfl, rfl, ho, ints_of_wellAll ns _ hall, hlen⟩

theorem post_true (l : OpenLaw) (args : List WData) : l.row.toRowW.claim.post args (.bool true) args = true :=
  postW_of (r := l.row.toRowW) (X := (true == true))
    (show WShape.has [] (.bool true) .bool = true by first | rfl | decide | simp [WShape.has, WShape.arms, WShape.armsAll])
    (show (WTm.eq .res (.lit (.bool true))).value [] { args := args, res := some (.bool true), after := args } = some (.bool (true == true)) from w_eq_bool (w_res rfl) w_lit) rfl

theorem attach_call {l : OpenLaw} {n : Nat} {q : Program} {loose : List Str} {XP : (Str → Option Value) → Heap → Prop} {YP : World → Heap → Prop} {d : DefRec}
    (hn : l.most = some n) (hdf : d.params.defaults = [])
    (call : ∀ (w : World) (s₀ s₁ : Shared) (mg mb : Str → Option Value) (fa : Addr) (o : Obj) (pm cd doc : Value) (a : Addr) (vs : List Value) (ns : List Int),
      Ground q loose [] XP w s₀ mg mb s₁.heap → YP w s₁.heap →
      s₁.heap.get? fa = some o → o.data = .func (docDef d.name d.params d.body d.scope pm cd doc) → s₁.heap.CodeRec cd d.name → mg d.name = some (.ref fa) →
      s₁.heap.get? a = some { cls := .type "list", data := .seq vs.toArray } → IntsAre vs ns → ns.length ≤ n → s₁.gens = #[] →
      codeAny (model l.prog w) callerA (.call (.ref fa) ⟨[.ref a], []⟩) (fun r s' => r = .ok (.ret (.bool true)) ∧ OldK s₁.heap s'.heap ∧ s'.os = s₁.os ∧ AllBare s'.gens) s₁) :
    WalkO q loose XP YP l.row.toRowW d [] (fun f vs => PySem.call f vs) := by
  intro w s₀ s₁ mg mb G Y fa o pm cd doc dV kV ho hd hcd hD hmg hg args vals as hpre hlay hrd hwl hlo
  obtain rfl : dV = .none := Dflts.none hD hdf
  obtain rfl : kV = .none := Dflts.noKw hD
  obtain ⟨a, vs, ns, rfl, rfl, hobj, hints, hlen⟩ := script_of hn hpre hwl
  refine enter_call (codeAny_mono (call w s₀ s₁ mg mb fa o pm cd doc a vs ns G Y ho (fd_plain hd) hcd hmg hobj hints hlen hg) fun r s' hq => ?_)
  obtain ⟨rfl, h2, h3, h4⟩ := hq
  exact ⟨.inl ⟨.bool true, .bool true, [], rfl, fun _ => rfl, .bool true, post_true l _, fun _ => ⟨List.Pairwise.nil, fun _ hm => (nomatch hm)⟩⟩, h2, h3, h4⟩

section
variable {prog : Program} {w : World} {A : Around} {E : Value → Shared → Prop} {s : Shared} {K : Frag}

noncomputable def ledger (h : Heap) (L d : Addr) : List (Addr × Obj) := (List.range h.objs.size).filterMap fun a => if a = L ∨ a = d then none else (h.get? a).map fun o => (a, o)
end
end Att

namespace L2
open PySem PySem.Spec PyProof.Rows

theorem vals_ints : ∀ {vs : List Value} {ns : List Int}, IntsAre vs ns → Vals (ns.map V.int) vs
  | _, _, .nil => .nil
  | _, _, .cons n t h => .cons ⟨t, rfl⟩ (vals_ints h)

noncomputable def Only (H : Hp) : Prop := ∀ b, H b = none ∨ ∃ o xs, H b = some (.frz o (.lst xs))

theorem law_call {P : Program} {w : World} {K : PySem.W.Frag} {mg mb : Str → Option Value} {CX : CXT} {k : Nat} {fa a : Addr} {fd : FuncData} {x : Str} {sp : Sp} {s₁ : Shared} {vs : List Value} {ns : List Int}
    (KX : K.In s₁.heap) (hns : s₁.heap.Ns mainGlobals mg) (hb : s₁.heap.Ns builtinsNs mb) (hbb : ∀ x : Str, x ≠ "__name__" → mb x = bootBuiltins x) (hlim : s₁.heap.NoLimit) (hg : s₁.gens = #[])
    (ha : s₁.heap.get? a = some { cls := .type "list", data := .seq vs.toArray }) (hi : IntsAre vs ns) (hl : ns.length ≤ sizeLine) (hr : Room k callerA)
    (F : ∀ base : Heap, K.In base → base.Ns mainGlobals mg → FnOk P w K mg base CX k fa fd [x] sp) (hbind : ∀ (s : Shared) (u : Value), BindsTo s fd ⟨[u], []⟩ [(x, u)])
    (hsp : ∀ H : Hp, Only H → SqL K H a (ns.map V.int) → sp [.ref a] H (fun v _ => v = .bl true) fun _ _ _ => False)
    (hCX : ∀ H e s', CX [] H s₁ (fun _ _ _ => False) e s' → False) :
    codeAny (model P w) callerA (.call (.ref fa) ⟨[.ref a], []⟩) (fun r s' => r = .ok (.ret (.bool true)) ∧ OldK s₁.heap s'.heap ∧ s'.os = s₁.os ∧ AllBare s'.gens) s₁ := by
  have rv := vals_ints hi
  have lenV := hi.length
  -- from an abstract heap in which nothing but the script may be tracked
  have core : ∀ H : Hp, Only H → SqL K H a (ns.map V.int) → HOk P w H s₁.heap → (∀ b, H b ≠ none → b = a) → (H a ≠ none → K.lookup a = none) →
      codeAny (model P w) callerA (.call (.ref fa) ⟨[.ref a], []⟩) (fun r s' => r = .ok (.ret (.bool true)) ∧ OldK s₁.heap s'.heap ∧ s'.os = s₁.os ∧ AllBare s'.gens) s₁ := by
    intro H hO hS hok hA hK
    have base_of : ∀ {b : Addr} {o : Obj}, s₁.heap.get? b = some o → H b = none → (hidT s₁.heap H).get? b = some o := fun e n => hidT_get e n
    have noA : ∀ {b : Addr} {o : Obj} {es : Array DictEntry} {ep : Nat}, s₁.heap.get? b = some o → o.data = .dict es ep → H b = none := fun {b o es ep} e d => by
      cases q : H b with
      | none => rfl
      | some u =>
        have e' : b = a := hA b (by rw [q]; simp)
        subst e'
        rw [ha] at e; cases e
        have d' : Data.seq vs.toArray _ = Data.dict es ep := d
        cases d'
    have nsK : ∀ {b : Addr} {m : Str → Option Value}, s₁.heap.Ns b m → (hidT s₁.heap H).Ns b m := fun {b m} ⟨o, es, ep, e, d, r⟩ => ⟨o, es, ep, base_of e (noA e d), d, r⟩
    have hKb : K.In (hidT s₁.heap H) := fun b o e => base_of (KX b o e) (by
      cases q : H b with
      | none => rfl
      | some u =>
        have e' : b = a := hA b (by rw [q]; simp)
        subst e'
        rw [hK (by rw [q]; simp)] at e; cases e)
    have hM : Mod K mg (hidT s₁.heap H) := ⟨hKb, nsK hns, ⟨mb, nsK hb, hbb⟩, let ⟨mc, h1, h2⟩ := hlim; ⟨mc, nsK h1, h2⟩⟩
    have e0 : Env0 P w K mg (hidT s₁.heap H) callerA [] s₁ H := ⟨rfl, hM, fun b o e => of_hidT e, Nat.le_of_eq (hidT_size _ _), trivial, fun b hb => absurd (show b ∈ ([] : List Addr) from hb) (by simp), hok, .of_eq hg⟩
    refine codeAny_mono ((F _ hKb (nsK hns)).run callerA [] s₁ H ⟨[.ref a], []⟩ [.ref a] [.ref a] _ _ hr e0 (hbind s₁ (.ref a)) (.cons rfl .nil) (hsp H hO hS)) fun r s' h => ?_
    cases r with
    | error e => exact (hCX H e s' h).elim
    | ok fl =>
      cases fl with
      | next => exact False.elim h
      | brk => exact False.elim h
      | cont => exact False.elim h
      | ret u =>
        obtain ⟨v, H', os, bare, un, hok', r', q⟩ := h
        have q' : v = .bl true := q
        subst q'
        obtain rfl : u = Value.bool true := r'
        refine ⟨rfl, OldK.of_keep fun b o e => ?_, os, bare⟩
        cases q : H b with
        | none => exact un.keep b o e q (by intro z; exact absurd (show b ∈ ([] : List Addr) from z) (by simp)) (by simp)
        | some u =>
          rcases hO b with z | ⟨ob, xs, z⟩
          · rw [q] at z; cases z
          · have z2 := un.frzs b ob _ z
            obtain ⟨e1, _⟩ := hok b _ z
            obtain ⟨e2, _⟩ := hok' b _ z2
            rw [e] at e1; cases e1
            exact e2
  cases hk : K.lookup a with
  | some o =>
    -- the script is one of the module's own objects
    have e := KX a o hk
    rw [ha] at e
    cases e
    refine core (fun _ => none) (fun _ => .inl rfl) (.inr ⟨_, vs.toArray, _, hk, rfl, rfl, rfl, by rw [List.size_toArray, lenV]; exact hl, by simpa using rv⟩) (fun b u z => by have z' : (none : Option HO) = some u := z; cases z') (fun b z => absurd rfl z) fun z => absurd rfl z
  | none =>
    refine core (fun b => if b = a then some (.frz { cls := .type "list", data := .seq vs.toArray } (.lst (ns.map V.int))) else none) (fun b => ?_) (.inl (.inr ⟨{ cls := .type "list", data := .seq vs.toArray }, if_pos rfl⟩)) (fun b u z => ?_) (fun b z => ?_) fun _ => hk
    · by_cases hb : b = a
      · exact .inr ⟨_, _, if_pos hb⟩
      · exact .inl (if_neg hb)
    · by_cases hb : b = a
      · have z' := (if_pos hb).symm.trans z
        cases z'
        subst hb
        exact ⟨ha, by rw [List.length_map]; exact hl, vs, _, rv, ha⟩
      · have z' := (if_neg hb).symm.trans z
        cases z'
    · by_cases hb : b = a
      · exact hb
      · exact absurd (if_neg hb) z
end L2

namespace L2
open PySem PySem.Spec PyProof.Rows

noncomputable abbrev KOf {K : PySem.W.Frag} {h : Heap} (_ : K.In h) : PySem.W.Frag := K

theorem walk_of {l : PySem.W.OpenLaw} {n k : Nat} {q : Program} {loose : List Str} {XP : (Str → Option Value) → Heap → Prop} {YP : World → Heap → Prop} {d : DefRec} {K : Params → PySem.W.Frag} {CX : World → CXT} {sp : World → Sp} {x : Str}
    (hn : l.most = some n) (hn2 : n ≤ sizeLine) (hdf : d.params.defaults = []) (hr : Room k callerA)
    (hY : ∀ (w : World) (h : Heap), YP w h → (K w.params).In h)
    (F : ∀ (w : World) (mg : Str → Option Value) (fa : Addr) (h : Heap), (K w.params).In h → h.Ns mainGlobals mg → mg d.name = some (.ref fa) →
      ∃ fd : FuncData, (∀ (s : Shared) (u : Value), BindsTo s fd ⟨[u], []⟩ [(x, u)]) ∧
        ∀ base : Heap, (K w.params).In base → base.Ns mainGlobals mg → FnOk l.prog w (K w.params) mg base (CX w) k fa fd [x] (sp w))
    (hsp : ∀ (w : World) (H : Hp) (a : Addr) (ns : List Int), ns.length ≤ n → Only H → SqL (K w.params) H a (ns.map V.int) → sp w [.ref a] H (fun v _ => v = .bl true) fun _ _ _ => False)
    (hCX : ∀ (w : World) (H : Hp) (s : Shared) (e : Value) (s' : Shared), CX w [] H s (fun _ _ _ => False) e s' → False) :
    PySem.W.WalkO q loose XP YP l.row.toRowW d [] (fun f vs => PySem.call f vs) := by
  refine Att.attach_call hn hdf fun w s₀ s₁ mg mb fa o pm cd doc a vs ns G Y ho hd hcd hmg hobj hints hlen hg => ?_
  have KX := hY w _ Y
  obtain ⟨fd, hb, hF⟩ := F w mg fa _ KX G.T.g hmg
  exact law_call KX G.T.g G.T.b G.T.builtins G.T.nolimit hg hobj hints (Nat.le_trans hlen hn2) hr hF hb (fun H hO hS => hsp w H a ns hlen hO hS) fun H e s' => hCX w H s₁ e s'
end L2

/- THE LAST THEOREM (shape; LID, My.* are yours):
   My.Adr: a structure of the addresses that your layer names (classes, functions); My.Txt K t: a structure (Prop) of the equations over K;
   My.txt_mk : {K} {implicit addresses ..} (e1 : nsIn K mainGlobals "law" = some (some (.ref f))) (e2 : K.lookup f = some ⟨oc, od, .func (fnOf "law" "law" params body scope dV kV doc pm an cdv ct), sl⟩) (e3 : codeIn K cdv "law" = true) .. : ∃ t, My.Txt K t

set_option maxRecDepth 100000 in
set_option maxHeartbeats 0 in
theorem PySem.Challenge.cw_LID_holds : PySem.Challenge.rw_LID.Holds := by
  w_on; o_law; k_head; (case hw => w_witness2)
  k_fill
  refine L2.walk_of (l := PySem.Challenge.rw_LID) (n := 63) (k := 40) (x := "script") (CX := fun w => ..) (sp := fun _ => My.sp_law) rfl (by decide) rfl ⟨rfl, by decide, by decide⟩ (fun w h Y => PySem.W.kIn_of Y) ?F ?S ?C
  case F =>
    intro w mg fa h KX G hmg
    have T : ∃ t, My.Txt (L2.KOf KX) t := by
      dsimp only [L2.KOf]                          -- K must stand as «<heap const> w.params» for k_is
      refine' My.txt_mk ?e1 ?e2 ?e3 ..
      (case e1 => PySem.W.k_is)                    -- in the order: a name -> its address -> its object -> its parts
      (case e2 => PySem.W.k_is)
      ..
    obtain ⟨t, T⟩ := T
    have e0 := hmg.symm.trans (PySem.W.mg_of KX G T.law)
    cases e0                                       -- fa is the law's own address
    exact ⟨_, fun s u => .of_eq rfl, fun base kb nb => My.law_fn T kb nb⟩     -- if «.of_eq rfl» comes too early: refine' ⟨_, ?b, fun base kb nb => My.law_fn T kb nb⟩; exact fun s u => .of_eq rfl
  case S => exact fun w H a ns hl hO hS => ..
  case C => exact ..
(the tactic k_is has no namespace: write k_is) -/

namespace L2
open PySem PySem.Spec PyProof.Rows

noncomputable def inClass (s : Stmt) (j : Nat) : Stmt := match s with
  | .ClassDef _ _ _ body _ _ _ _ _ _ _ => body.getD j (.Pass ⟨0, 0, 0, 0⟩)
  | _ => .Pass ⟨0, 0, 0, 0⟩
noncomputable def defArgs (s : Stmt) : Arguments := match s with
  | .FunctionDef _ a _ _ _ _ _ _ _ _ => a
  | _ => { posonlyargs := [], args := [], vararg := none, kwonlyargs := [], kw_defaults := [], kwarg := none, defaults := [] }
noncomputable def defBody (s : Stmt) : List Stmt := match s with
  | .FunctionDef _ _ b _ _ _ _ _ _ _ => b
  | _ => []
noncomputable def defScope (s : Stmt) : Scope := match s with
  | .FunctionDef _ _ _ _ _ _ sc _ _ _ => sc
  | _ => { kind := .function, names := [], isGenerator := false, isCoroutine := false }

noncomputable abbrev CX0 : CXT := fun _ _ _ _ _ _ => False
noncomputable abbrev E0 : XK := fun _ _ _ => False
theorem pass0 {X : Cx} : Passes CX0 X E0 := fun _ _ _ _ _ _ _ h => h.elim

structure Fun (K : PySem.W.Frag) (x qual : Str) (st : Stmt) (f : Addr) (fd : FuncData) : Prop where
  ex : ∃ (oc : Value) (od : Option Addr) (kV doc pm : Value) (an : Option Addr) (cdv ct : Value) (osl : Array (Option Value)),
    fd = PySem.W.fnOf x qual (defArgs st) (defBody st) (defScope st) .none kV doc pm an cdv ct ∧ K.lookup f = some ⟨oc, od, .func fd, osl⟩ ∧ PySem.W.codeIn K cdv qual = true
  kp : PySem.W.keepIn K (.ref f) = true
section
variable {P : Program} {w : World} {K : PySem.W.Frag} {mg : Str → Option Value} {base : Heap}
theorem Fun.ok {x qual : Str} {st : Stmt} {f : Addr} {fd : FuncData} {N ps : List Str} {k : Nat} {sp : Sp} (F : Fun K x qual st f fd) (S : FnScope N ps (defScope st)) (len : ∀ vs H Q E, sp vs H Q E → vs.length = ps.length)
    (hbody : ∀ (cdv : Value) (A : Around) (outer : List Env) (s : Shared) (H : Hp) (vs : List V) (Q : VK) (E : XK), Room k (A.deeper (envOfC qual (defScope st) s.heap.objs.size f cdv)) → sp vs H Q E →
      ∃ t, PSs (cxOf CX0 P w K mg base N qual (defScope st) f cdv A outer s H E).nox (defBody st) t ∧ t { nx := fun _ H' => Q .non H', rt := Q } (start N vs) H) : FnOk P w K mg base CX0 (k + 1) f fd ps sp := by
  obtain ⟨oc, od, kV, doc, pm, an, cdv, ct, osl, rfl, lk, hcd⟩ := F.ex
  refine fn_of lk hcd S len fun A outer s H vs Q E hr hsp => ?_
  obtain ⟨t, h, q⟩ := hbody cdv A outer s H vs Q E hr hsp
  exact ⟨t, h.nox, q⟩
theorem Fun.binds {x qual : Str} {st : Stmt} {f : Addr} {fd : FuncData} {ps : List Str} (F : Fun K x qual st f fd)
    (h : ∀ (kV doc pm : Value) (an : Option Addr) (cdv ct : Value) (us : List Value), us.length = ps.length → bindArgs (PySem.W.fnOf x qual (defArgs st) (defBody st) (defScope st) .none kV doc pm an cdv ct) ⟨us, []⟩ = pure (ps.zip us)) : Binds K fd ps [] := by
  obtain ⟨oc, od, kV, doc, pm, an, cdv, ct, osl, rfl, lk, hcd⟩ := F.ex
  exact .all (h kV doc pm an cdv ct)
theorem fun_mk {x qual : Str} {st : Stmt} {f : Addr} {oc : Value} {od an : Option Addr} {osl : Array (Option Value)} {kV doc pm cdv ct : Value} (l : K.lookup f = some ⟨oc, od, .func (PySem.W.fnOf x qual (defArgs st) (defBody st) (defScope st) .none kV doc pm an cdv ct), osl⟩)
    (c : PySem.W.codeIn K cdv qual = true) (k : PySem.W.keepIn K (.ref f) = true) : Fun K x qual st f (PySem.W.fnOf x qual (defArgs st) (defBody st) (defScope st) .none kV doc pm an cdv ct) := ⟨⟨oc, od, kV, doc, pm, an, cdv, ct, osl, rfl, l, c⟩, k⟩
end
section
variable {X : Cx}
theorem pv (i : Nat) {x : Str} {pos : Pos} (hN : X.N[i]? = some x := by rfl) (hv : Vis X.env.scope x := by first | exact Or.inl rfl | exact Or.inr (Or.inl rfl) | exact Or.inr (Or.inr rfl)) (hd : (x == ("__debug__" : Str)) = false := by decide)
    (hcd : (x == ("__classdict__" : Str)) = false := by decide) : PE X (.Name x pos) (tVar i) := pe_var hN hv hd hcd
end

theorem iteF {A B : Prop} (h : B) : if false = true then A else B := by
  rw [if_neg Bool.false_ne_true]
  exact h
theorem iteT {A B : Prop} (h : A) : if true = true then A else B := by
  rw [if_pos rfl]
  exact h
theorem ite2 {c A B : Prop} [Decidable c] (h1 : c → A) (h2 : ¬ c → B) : if c then A else B := by
  by_cases h : c
  · rw [if_pos h]
    exact h1 h
  · rw [if_neg h]
    exact h2 h
theorem iteNS {c A B : Prop} [Decidable c] (hc : c) (h : B) : if (!decide c) = true then A else B := by
  rw [decide_eq_true hc]
  exact iteF h

noncomputable def Same (H H' : Hp) : Prop := ∀ b o, H b = some o → H' b = some o
theorem Same.refl (H : Hp) : Same H H := fun _ _ h => h
theorem Same.trans {H H1 H2 : Hp} (a : Same H H1) (b : Same H1 H2) : Same H H2 := fun c o h => b c o (a c o h)
theorem Same.free {H H' : Hp} (e : Same H H') {l : Addr} (h : H' l = Option.none) : H l = Option.none := by
  cases q : H l with
  | none => rfl
  | some o =>
    rw [e l o q] at h
    cases h
theorem Same.seq {K : PySem.W.Frag} {H H' : Hp} {a : Addr} {xs : List V} (e : Same H H') (h : SqL K H a xs) : SqL K H' a xs := by
  rcases h with (h | ⟨o, h⟩) | h
  · exact .inl (.inl (e _ _ h))
  · exact .inl (.inr ⟨o, e _ _ h⟩)
  · exact .inr h

end L2


namespace L2
open PySem PySem.Spec PyProof.Rows
section
variable {X : Cx}
end
section
variable {κ : Type} [DecidableEq κ]
end
end L2
namespace L2
open PySem
noncomputable def DK (h h' : Heap) : Prop := ∀ a o, h.get? a = some o → ∃ o', h'.get? a = some o' ∧ o'.dict = o.dict
theorem DK.refl (h : Heap) : DK h h := fun _ o e => ⟨o, e, rfl⟩
theorem DK.trans {h1 h2 h3 : Heap} (x : DK h1 h2) (y : DK h2 h3) : DK h1 h3 := fun a o e => by
  obtain ⟨o1, e1, d1⟩ := x a o e
  obtain ⟨o2, e2, d2⟩ := y a o1 e1
  exact ⟨o2, e2, d2.trans d1⟩
theorem not_freed {h : Heap} {a : Addr} {o : Obj} (e : h.get? a = some o) : o.isFreed = false := by
  unfold Heap.get? at e
  split at e
  · cases e
  · rename_i x hx
    obtain ⟨c, d, dt, sl⟩ := o
    cases dt <;> first | rfl | (exact absurd e (hx _ _ _))
theorem DK.upd {h : Heap} {a : Addr} {f : Obj → Obj} (hf : ∀ o, (f o).dict = o.dict ∧ (f o).isFreed = o.isFreed) : DK h (h.update a f) := fun b o e => by
  by_cases hb : a = b
  · subst hb
    exact ⟨f o, Heap.get?_update_self f e ((hf o).2.trans (not_freed e)), (hf o).1⟩
  · exact ⟨o, (Heap.get?_update_other h f hb).trans e, rfl⟩
theorem DK.push (h : Heap) (x : Obj) : DK h (h.push x) := fun _ o e => ⟨o, Heap.get?_push_of_some x e, rfl⟩
structure KpD {α : Type} (t : Sem α) : Prop where
  out : ∀ (M : Model) (Γ : Ctx) (Q : α → Pos → Shared → Prop) (E : Value → Pos → Shared → Prop) (p : Pos) (s : Shared), Sem.wp M Γ t Q E p s → Sem.wp M Γ t (fun a p' s' => Q a p' s' ∧ DK s.heap s'.heap) E p s
namespace KpD
variable {α β : Type}
theorem pure (a : α) : KpD (Pure.pure a : Sem α) := ⟨fun _ _ _ _ _ s h => ⟨h, DK.refl _⟩⟩
theorem unsupported (w : String) : KpD (PySem.unsupported w : Sem α) := ⟨fun _ _ _ _ _ _ h => h⟩
theorem bind {m : Sem α} {f : α → Sem β} (hm : KpD m) (hf : ∀ a, KpD (f a)) : KpD (m >>= f) := ⟨fun M Γ Q E p s h => by
  rw [Sem.wp_bind'] at h ⊢
  refine Sem.wp_mono M Γ m (fun a p' s' ⟨q, k⟩ => ?_) (fun _ _ _ z => z) p s (hm.out M Γ _ E p s h)
  exact Sem.wp_mono M Γ (f a) (fun b p2 s2 ⟨q2, k2⟩ => ⟨q2, k.trans k2⟩) (fun _ _ _ z => z) p' s' ((hf a).out M Γ Q E p' s' q)⟩
theorem ite {c : Prop} [Decidable c] {t u : Sem α} (ht : KpD t) (hu : KpD u) : KpD (if c then t else u) := by split <;> assumption
theorem load (a : Addr) : KpD (PySem.load a) := ⟨fun _ _ _ _ _ _ h => by
  obtain ⟨o, e, q⟩ := h
  exact ⟨o, e, q, DK.refl _⟩⟩
theorem stack : KpD PySem.stack := ⟨fun _ _ _ _ _ _ h => ⟨h, DK.refl _⟩⟩
theorem update (a : Addr) {f : Obj → Obj} (hf : ∀ o, (f o).dict = o.dict ∧ (f o).isFreed = o.isFreed) : KpD (PySem.update a f) := ⟨fun _ _ _ _ _ _ h => ⟨h.1, h.2, DK.upd hf⟩⟩
theorem alloc (x : Obj) : KpD (PySem.alloc x) := ⟨fun _ _ _ _ _ _ h => ⟨h, DK.push _ _⟩⟩
theorem field (v : Value) (i : Nat) : KpD (PySem.field v i) := ⟨fun M Γ Q E p s h => by
  rw [wp_field_iff] at h ⊢
  obtain ⟨a, o, vs, x, e, ho, hd, hx, q⟩ := h
  exact ⟨a, o, vs, x, e, ho, hd, hx, q, DK.refl _⟩⟩
theorem mapF (g : Array Value → Array Value) (o : Obj) : (o.mapFields g).dict = o.dict ∧ (o.mapFields g).isFreed = o.isFreed := by
  obtain ⟨c, d, dt, sl⟩ := o
  cases dt <;> exact ⟨rfl, rfl⟩
theorem setField (v : Value) (i : Nat) (x : Value) : KpD (PySem.setField v i x) := ⟨fun M Γ Q E p s h => by
  rw [wp_setField_iff] at h ⊢
  obtain ⟨a, o, vs, e, ho, hd, hi, q⟩ := h
  exact ⟨a, o, vs, e, ho, hd, hi, q, DK.upd (mapF _)⟩⟩
theorem newFields (ty : String) (vs : List Value) : KpD (PySem.newFields ty vs) := by
  unfold PySem.newFields newObj newObjAsIs
  dsimp only
  split
  all_goals repeat' with_reducible first
    | exact unsupported _
    | exact alloc _
    | exact pure _
    | apply bind
    | intro _
theorem slotF (g : Obj → Array (Option Value)) (o : Obj) : ({ o with slots := g o } : Obj).dict = o.dict ∧ ({ o with slots := g o } : Obj).isFreed = o.isFreed := by
  obtain ⟨c, d, dt, sl⟩ := o
  cases dt <;> exact ⟨rfl, rfl⟩
end KpD
local macro_rules
  | `(tactic| trivial) => `(tactic| (repeat' with_reducible first
    | assumption
    | exact KpD.pure _
    | exact KpD.unsupported _
    | exact KpD.field _ _
    | exact KpD.setField _ _ _
    | exact KpD.newFields _ _
    | exact KpD.load _
    | exact KpD.update _ (KpD.slotF _)
    | exact KpD.stack
    | exact KpD.alloc _
    | apply KpD.ite
    | apply KpD.bind
    | intro _
    | split))
end L2
namespace L2
open PySem PySem.Spec PyProof.Rows

noncomputable def FlyD (B : Heap) (l : List Env) (a : Addr) (cls : Value) (t : Addr) (od : Option Addr) (h : Heap) : Prop := Heap.FlyingW B l a cls (.ref t) h ∧ ∃ o, h.get? a = some o ∧ o.dict = od
theorem FlyD.there {B h : Heap} {l : List Env} {a t : Addr} {cls : Value} {od : Option Addr} (x : FlyD B l a cls t od h) : ∃ o, h.get? a = some o ∧ o.cls = cls ∧ o.dict = od ∧ ∃ vs, o.data = .fields vs := by
  obtain ⟨o, e, d⟩ := x.2
  obtain ⟨o2, vs, e2, c, f, _⟩ := x.1.first
  rw [e] at e2
  cases e2
  exact ⟨o, e, c, d, vs, f⟩
theorem DK.dict {h h' : Heap} {a : Addr} {od : Option Addr} (k : DK h h') (x : ∃ o, h.get? a = some o ∧ o.dict = od) : ∃ o, h'.get? a = some o ∧ o.dict = od := by
  obtain ⟨o, e, d⟩ := x
  obtain ⟨o', e', d'⟩ := k a o e
  exact ⟨o', e', d'.trans d⟩
section
variable {X : Cx} {pins : List (Addr × Obj)} {σ : St} {H : Hp} {s s' : Shared} {E : XK} {e : Value}
end

section
variable {P : Program} {w : World} {K : PySem.W.Frag} {mg : Str → Option Value} {base : Heap} {N : List Str} {qual : Str} {scope : Scope} {f : Addr} {cd : Value} {A : Around} {outer : List Env} {s₀ : Shared} {H₀ : Hp} {E : XK}
end

section
variable {M : Model} {A : Around} {E : Value → Shared → Prop} {s : Shared} {B : Heap} {env : Env} {outer l : List Env} {L e t : Addr} {cls : Value} {od : Option Addr} {Q : Unit → Shared → Prop}
end
end L2
namespace L2
open PySem PySem.Spec PyProof.Rows

noncomputable def cxComp (X : Cx) (scope : Scope) (cl : List (Str × Addr)) (C : Addr) (Nc : List Str) (ex : List Addr) (pins : List (Addr × Obj)) (s₀ : Shared) (H₀ : Hp) : Cx where
  prog := X.prog
  w := X.w
  K := X.K
  mg := X.mg
  base := X.base
  A := X.A
  N := Nc
  s₀ := s₀
  H₀ := H₀
  env := compEnvC scope cl C X.env
  outer := X.stack
  stack := X.stack
  ex := ex
  fn := fun y => scope.names.lookup y == some .local
  calm := true
  pn := X.pn ++ pins
  xe := fun _ _ => False

structure CompScope (X : Cx) (scope : Scope) (cl : List (Str × Addr)) (Nc : List Str) (cap : List (Nat × Nat)) : Prop where
  clos : closureFor scope X.env = pure cl
  kind : scope.kind = .function
  names : ∀ y ∈ scope.names, y.2 = .local → scope.names.lookup y.1 = some .local
  nocell : ∀ y ∈ scope.names, y.2 ≠ .cell
  sub : ∀ x c, cl.lookup x = some c → X.env.cells.lookup x = some c ∧ scope.names.lookup x ≠ some .local
  has : ∀ x, ((relabel scope X.env).names.lookup x = some .cell ∨ (relabel scope X.env).names.lookup x = some .free) → ∃ c, cl.lookup x = some c
  caps : ∀ j i, (j, i) ∈ cap → ∃ x c, Nc[j]? = some x ∧ X.N[i]? = some x ∧ cl.lookup x = some c ∧ X.env.scope.names.lookup x = some .cell ∧ (relabel scope X.env).names.lookup x = some .cell

theorem comp_mk {X : Cx} {scope : Scope} {cl : List (Str × Addr)} {Nc : List Str} {cap : List (Nat × Nat)} (clos : closureFor scope X.env = pure cl) (kind : scope.kind = .function) (names : ∀ y ∈ scope.names, y.2 = .local → scope.names.lookup y.1 = some .local) (nocell : ∀ y ∈ scope.names, y.2 ≠ .cell)
    (subs : ∀ p ∈ cl, X.env.cells.lookup p.1 = some p.2 ∧ scope.names.lookup p.1 = some .free) (hass : ((relabel scope X.env).names.all fun p => (p.2 != .cell && p.2 != .free) || (cl.lookup p.1).isSome) = true)
    (caps : ∀ p ∈ cap, ∃ x c, Nc[p.1]? = some x ∧ X.N[p.2]? = some x ∧ cl.lookup x = some c ∧ X.env.scope.names.lookup x = some .cell ∧ (relabel scope X.env).names.lookup x = some .cell) : CompScope X scope cl Nc cap :=
  ⟨clos, kind, names, nocell, fun x c e => ⟨(subs (x, c) (PySem.mem_of_lookup e)).1, fun z => by
    have := (subs (x, c) (PySem.mem_of_lookup e)).2
    rw [z] at this
    cases this⟩, fun x e => by
    have key : ∀ k, (relabel scope X.env).names.lookup x = some k → (k = .cell ∨ k = .free) → ∃ c, cl.lookup x = some c := fun k e hk => by
      have := List.all_eq_true.mp hass (x, k) (PySem.mem_of_lookup e)
      rcases hk with rfl | rfl
      · exact Option.isSome_iff_exists.mp (by simpa using this)
      · exact Option.isSome_iff_exists.mp (by simpa using this)
    rcases e with e | e
    · exact key _ e (.inl rfl)
    · exact key _ e (.inr rfl), fun j i m => caps (j, i) m⟩
noncomputable def capSt (n : Nat) (cap : List (Nat × Nat)) (σ : St) : St := (List.range n).map fun j => ((cap.find? fun p => p.1 == j).bind fun p => σ[p.2]?).bind id

theorem capSt_get {n : Nat} {cap : List (Nat × Nat)} {σ : St} {j : Nat} {v : V} (h : (capSt n cap σ)[j]? = some (some v)) : ∃ i, (j, i) ∈ cap ∧ σ[i]? = some (some v) := by
  unfold capSt at h
  rw [List.getElem?_map] at h
  cases e : (List.range n)[j]? with
  | none => rw [e] at h; cases h
  | some k =>
    rw [e] at h
    have hk : k = j := by
      obtain ⟨hl, q⟩ := List.getElem?_eq_some_iff.mp e
      rw [List.getElem_range] at q
      exact q.symm
    subst hk
    simp only [Option.map_some, Option.some.injEq] at h
    cases f : cap.find? fun p => p.1 == k with
    | none => rw [f] at h; cases h
    | some p =>
      rw [f] at h
      have h1 := List.mem_of_find?_eq_some f
      have h2 : p.1 = k := by
        have := List.find?_some f
        exact eq_of_beq this
      refine ⟨p.2, ?_, ?_⟩
      · rw [← h2]; exact h1
      · simp only [Option.bind_some] at h
        cases g : σ[p.2]? with
        | none => rw [g] at h; cases h
        | some o => rw [g] at h; simpa using h

section
variable {X : Cx} {pins : List (Addr × Obj)} {σ : St} {H : Hp} {s : Shared} {scope : Scope} {cl : List (Str × Addr)} {Nc : List Str} {cap : List (Nat × Nat)} {fp : List Addr}
theorem inv_comp (I : Inv X pins σ H s) (hcalm : X.calm = true) (S : CompScope X scope cl Nc cap) (hfp : ∀ b ∈ fp, FpOk X pins H b) (hob : ∀ b ∈ fp, ∃ o, s.heap.get? b = some o) {C : Addr} {h1 : Heap} {m : Str → Option Value} {tk : Nat} (hC : s.heap.objs.size ≤ C)
    (hn : h1.Ns C m) (keep : ∀ b o, s.heap.get? b = some o → h1.get? b = some o) : Inv (cxComp X scope cl C Nc fp pins s H) [] (capSt Nc.length cap σ) H { s with heap := h1, toks := tk } := by
  have neC : ∀ b o, s.heap.get? b = some o → b ≠ C := fun b o e => Nat.ne_of_lt (Nat.lt_of_lt_of_le (Heap.lt_size e) hC)
  refine ⟨⟨I.ok.mod, S.kind, I.ok.glob, I.ok.blt, hC, fun x y c e1 e2 => ?_, fun x hx => S.has x hx, fun x c e1 e2 => ?_, fun _ => I.ok.hd hcalm, I.ok.frames, .inl rfl, fun b hb => ⟨?_, fun x c e => ?_⟩, I.bs, Nat.le_trans I.ok.bsz I.sz, fun b o e hb => ?_, fun b hb z => ?_, I.stack, I.stkFree⟩,
    rfl, I.bare, Un.kept keep, ⟨m, hn, fun j x v e1 e2 e3 => ?_⟩, fun x c e => ?_, I.hok.fresh hC, fun x c e => ?_, fun p hp => ?_, I.hok.kept keep, ?_⟩
  · exact I.ok.inj x y c (S.sub x c e1).1 (S.sub y c e2).1
  · exact absurd (beq_iff_eq.mp e1) (S.sub x c e2).2
  · obtain ⟨o, e⟩ := hob b hb
    exact neC b o e
  · exact (hfp b hb).2.2.2.2.1 x c (S.sub x c e).1
  · rcases (hfp b hb).2.2.2.1 with z | z
    · exact I.ok.noex b o e z
    · exact absurd (Nat.lt_of_lt_of_le (Heap.lt_size e) (Nat.le_trans I.ok.bsz z)) (Nat.lt_irrefl _)
  · rcases List.mem_cons.mp (I.stkSub b z) with z | z
    · exact (hfp b hb).2.1 z
    · exact (hfp b hb).2.2.1 z
  · obtain ⟨i, hm, hv⟩ := capSt_get e2
    obtain ⟨x', c, q1, q2, q3, q4, q5⟩ := S.caps j i hm
    have e1' : Nc[j]? = some x := e1
    rw [q1] at e1'
    cases e1'
    obtain ⟨mo, _, hl⟩ := I.loc
    obtain ⟨u, r, l⟩ := hl i x v q2 hv (.inr (.inl q4))
    refine ⟨u, r, ?_⟩
    rcases l with ⟨k, _⟩ | ⟨_, c', e', z⟩
    · have k' : X.env.scope.names.lookup x = some .local := k
      rw [q4] at k'
      cases k'
    · have : c' = c := Option.some.inj (e'.symm.trans (S.sub x c q3).1)
      subst this
      obtain ⟨o, ho, hd⟩ := z
      exact .inr ⟨.inl q5, c', q3, ⟨o, keep _ _ ho, hd⟩⟩
  · obtain ⟨v, o, ho, hd⟩ := I.cell x c (S.sub x c e).1
    exact ⟨v, o, keep _ _ ho, hd⟩
  · exact I.freeC x c (S.sub x c e).1
  · have hp' : p ∈ X.pn ++ pins := by
      have z : p ∈ (X.pn ++ pins) ++ [] := hp
      rw [List.append_nil] at z
      exact z
    obtain ⟨e, n, ne, nf, d⟩ := I.pin p hp'
    refine ⟨keep _ _ e, n, neC _ _ e, fun z => ?_, d⟩
    rcases List.mem_cons.mp (I.stkSub p.1 z) with z | z
    · exact ne z
    · exact nf z
  · show (capSt Nc.length cap σ).length = Nc.length
    unfold capSt
    rw [List.length_map, List.length_range]

theorem comp_back (I : Inv X pins σ H s) (hfp : ∀ b ∈ fp, FpOk X pins H b) {C : Addr} {σc : St} {H' : Hp} {s' : Shared} {h' : Heap} (J : Inv (cxComp X scope cl C Nc fp pins s H) [] σc H' s') (hs : Heap.SameBut C s'.heap h') : Inv X pins σ H' { s' with heap := h' } := by
  have hC : s.heap.objs.size ≤ C := J.ok.above
  have neC : ∀ b o, s.heap.get? b = some o → b ≠ C := fun b o e => Nat.ne_of_lt (Nat.lt_of_lt_of_le (Heap.lt_size e) hC)
  have u := J.base
  refine I.call' (s' := { s' with heap := h' }) (ch := fp) J.os ⟨fun b o e n hb hx => ?_, fun b o e n hb hx => ?_, u.free, fun b o e hx => ?_, u.tups, u.frzs, u.tbls⟩ (fun b o e => ?_) J.bare fun b hb => ⟨(hfp b hb).2.2.2.1, (hfp b hb).2.1, (hfp b hb).2.2.2.2.1, (hfp b hb).2.2.2.2.2⟩
  · exact (hs.2 b (neC b o e)).trans (u.keep b o e n hb hx)
  · obtain ⟨sl, q⟩ := u.slot b o e n hb hx
    exact ⟨sl, (hs.2 b (neC b o e)).trans q⟩
  · obtain ⟨o', q⟩ := u.there b o e hx
    exact ⟨o', (hs.2 b (neC b o e)).trans q⟩
  · refine (J.hok b o e).stay (fun c v hc q => (hs.2 c ?_).trans q) (fun _ q => q) fun _ _ q => q
    intro z
    subst z
    have fr : H' c = none := J.free
    rcases hc with hc | hc
    · rw [hc] at fr; rw [fr] at e; cases e
    · rw [fr] at hc; cases hc
end

noncomputable def tComp (n : Nat) (cap : List (Nat × Nat)) (wi : TI) (g : TG) (te : TE) : TE := fun σ H Q => wi σ H fun J H1 => ∀ acc, H1 acc = none →
  ∃ W : Nat → Nat → List V → St → Hp → Prop, (∃ m, W 0 m [] (capSt n cap σ) (upd H1 acc (.lst []))) ∧ ∀ i m ys σc H2, W i m ys σc H2 →
    (J.stop i H2 ∧ Q (.ref acc) H2) ∨ (J.go i H2 ∧ ∀ x H3, J.yld i H2 x H3 → g x σc H3 fun σ4 H4 => te σ4 H4 fun v H5 => H5 acc = some (.lst ys) ∧ ys.length < sizeLine ∧ ∃ m', m' < m ∧ W (i + 1) m' (ys ++ [v]) σ4 (upd H5 acc (.lst (ys ++ [v]))))

noncomputable def tCompF (n : Nat) (cap : List (Nat × Nat)) (wi : TI) (g : TG) (tt : TT) (te : TE) : TE := fun σ H Q => wi σ H fun J H1 => ∀ acc, H1 acc = none →
  ∃ W : Nat → Nat → List V → St → Hp → Prop, (∃ m, W 0 m [] (capSt n cap σ) (upd H1 acc (.lst []))) ∧ ∀ i m ys σc H2, W i m ys σc H2 →
    (J.stop i H2 ∧ Q (.ref acc) H2) ∨ (J.go i H2 ∧ ∀ x H3, J.yld i H2 x H3 → g x σc H3 fun σ4 H4 => tt σ4 H4 fun ok H5 => if ok = true then (te σ4 H5 fun v H6 => H6 acc = some (.lst ys) ∧ ys.length < sizeLine ∧ ∃ m', m' < m ∧ W (i + 1) m' (ys ++ [v]) σ4 (upd H6 acc (.lst (ys ++ [v])))) else ∃ m', m' < m ∧ W (i + 1) m' ys σ4 H5)
noncomputable def PTs (X : Cx) (ifs : List PySem.Expr) (tt : TT) : Prop := ∀ (pins : List (Addr × Obj)) (s : Shared) (σ : St) (H : Hp) (Q : Bool → Hp → Prop), Inv X pins σ H s → tt σ H Q →
  wpAny (model X.prog X.w) X.A (forIn ifs true fun c r => if r = true then do let ok ← isTrue c X.env (eval c X.env); pure (ForInStep.yield ok) else pure (ForInStep.yield r)) (fun ok s' => ∃ H', Inv X pins σ H' s' ∧ Q ok H') X.xe s
theorem pts_one {X : Cx} {c : PySem.Expr} {tt : TT} (h : PT X c tt) : PTs X [c] tt := fun pins s σ H Q I q => wpAny_tests_one (h pins s σ H Q I q)
theorem pts_nil {X : Cx} : PTs X [] (fun _ H Q => Q true H) := fun _ _ _ H _ I q => wpAny_tests_nil ⟨H, I, q⟩
section
variable {prog : Program} {w : World} {A : Around} {s : Shared}
theorem compLoop_any {elt iter tg : PySem.Expr} {ifs : List PySem.Expr} {scope : Scope} {pos : Pos} {it acc : Value} {env : Env} {R : Result → Shared → Prop} (I : Nat → Shared → Prop)
    (turn : ∀ n s, I n s → wpAny (model prog w) A (pyNext it) (fun r s₁ => match r with
      | none => R (.ok .next) s₁
      | some v => wpAny (model prog w) A (letOwnedTupleGo tg it v) (fun _ s₁' => wpAny (model prog w) A (assign tg env v) (fun _ s₂ =>
          wpAny (model prog w) A (forIn ifs true fun c r => if r = true then do let ok ← isTrue c env (eval c env); pure (ForInStep.yield ok) else pure (ForInStep.yield r)) (fun ok s₃ => if ok = true then
            wpAny (model prog w) A (eval elt env) (fun x s₄ =>
              wpAny (model prog w) A (call (.builtin "list.append") [acc, x]) (fun _ s₅ => ∃ m, m < n ∧ I m s₅) (fun _ _ => False) s₄) (fun _ _ => False) s₃
            else ∃ m, m < n ∧ I m s₃) (fun _ _ => False) s₂)
          (fun _ _ => False) s₁') (fun _ _ => False) s₁) (notedBy (model prog w) A env fun e s' => R (.error e) s') s)
    (n : Nat) (h : I n s) : codeAny (model prog w) A (.compLoop (.ListComp elt [⟨tg, iter, ifs, 0⟩] scope pos) 0 it acc env) R s := by
  refine codeAny_loop rfl I (fun n s hI => ?_) n h
  show wpAny _ A ((compTurn (.ListComp elt [⟨tg, iter, ifs, 0⟩] scope pos) 0 it acc env).onRaise (fun x => do noteFrame x env; theTreesLotGoes x)) _ _ s
  refine wpAny_noted ?_
  rw [compTurn_list]
  refine wpAny_bind (wpAny_standAt (wpAny_bind (wpAny_mono (turn n s hI) (fun r s₁ h₁ => ?_) fun _ _ h' => h')))
  cases r with
  | none => exact wpAny_pure h₁
  | some v =>
    refine wpAny_bind (wpAny_mono h₁ (fun _ s₁' h₁' => ?_) fun _ _ h' => False.elim h')
    refine wpAny_bind (wpAny_mono h₁' (fun _ s₂ h₂ => wpAny_bind (wpAny_mono h₂ (fun ok s₃ h₃ => ?_) fun _ _ h' => False.elim h')) fun _ _ h' => False.elim h')
    cases ok with
    | false => exact wpAny_pure ⟨rfl, h₃⟩
    | true =>
      exact wpAny_bind (wpAny_bind (wpAny_mono h₃ (fun x s₄ h₄ => wpAny_bind (wpAny_mono h₄ (fun _ s₅ h₅ => wpAny_pure (wpAny_pure ⟨rfl, h₅⟩)) fun _ _ h' => False.elim h')) fun _ _ h' => False.elim h'))
end
section
variable {X : Cx} {elt iter tg : PySem.Expr} {ifs : List PySem.Expr} {pos : Pos} {scope : Scope} {cl : List (Str × Addr)} {Nc : List Str} {cap : List (Nat × Nat)} {wi : TI} {g : TG} {tt : TT} {te : TE}
theorem comp_core {pins : List (Addr × Obj)} {s : Shared} {σ : St} {H : Hp} {Q : V → Hp → Prop} {pos' : Pos} {use : Option (Value → Sem Unit)} {P : Value → Shared → Prop} (hc : X.calm = true) (hi : PI X tg iter wi) (S : CompScope X scope cl Nc cap)
    (hg : ∀ C fp pins s H, PG (cxComp X scope cl C Nc fp pins s H) tg g) (ht : ∀ C fp pins s H, PTs (cxComp X scope cl C Nc fp pins s H) ifs tt) (he : ∀ C fp pins s H, PE (cxComp X scope cl C Nc fp pins s H) elt te)
    (hs : ∀ y, foldedSetIterable iter X.env y = pure y) (I : Inv X pins σ H s) (h : tCompF Nc.length cap wi g tt te σ H Q)
    (fin : ∀ (acc C : Addr) (H5 : Hp) (s6 : Shared) (m6 : Str → Option Value), Inv X pins σ H5 s6 → FpOk X pins H5 C → s6.heap.Ns C m6 → Q (.ref acc) H5 → compPost (model X.prog X.w) X.A X.xe use P (.ref acc) C (.ok .next) s6) :
    wpAny (model X.prog X.w) X.A (comprehension (.ListComp elt [⟨tg, iter, ifs, 0⟩] scope pos) scope X.env pos' (newList []) false (eval iter X.env) use) P X.xe s := by
  refine wpAny_comprehension_free (use := use) (cl := cl) rfl hs S.clos S.kind S.names ?_
  refine thn (hi pins s σ H _ I h) fun v s1 h1 => thn h1 fun itv s2 h2 => ?_
  obtain ⟨it, fp, tn, J, H2, e, I2, T, st2, f2, rd⟩ := h2
  subst e
  refine wpAny_newObj_type ?_
  have hacc : H2 s2.heap.objs.size = none := I2.hok.fresh (Nat.le_refl _)
  obtain ⟨W, ⟨m0, w0⟩, turn⟩ := rd s2.heap.objs.size hacc
  -- the list is tracked
  have I3 : Inv X pins σ (upd H2 s2.heap.objs.size (.lst [])) { s2 with heap := s2.heap.push { cls := .type "list", dict := none, data := .seq ([] : List Value).toArray } } :=
    I2.laid (t' := s2.toks) (fun b u e => Heap.get?_push_of_some _ e) (Nat.le_refl _) ⟨Nat.zero_le _, [], 0, .nil, Heap.get?_push_size _ rfl⟩
  have st3 : tn 0 (s2.heap.push { cls := .type "list", dict := none, data := .seq ([] : List Value).toArray }) := T.keep _ _ _ st2 fun b _ o e => Heap.get?_push_of_some _ e
  have f3 : ∀ b ∈ fp, FpOk X pins (upd H2 s2.heap.objs.size (.lst [])) b := fun b hb => by
    obtain ⟨o, e, _⟩ := T.obj _ _ st2 b hb
    refine ⟨?_, (f2 b hb).2⟩
    rw [upd_ne (Nat.ne_of_lt (Heap.lt_size e))]
    exact (f2 b hb).1
  generalize hh3 : s2.heap.push { cls := .type "list", dict := none, data := .seq ([] : List Value).toArray } = h3 at I3 st3 ⊢
  generalize hH3 : upd H2 s2.heap.objs.size (.lst []) = H3 at I3 f3 w0
  generalize s2.heap.objs.size = acc at *
  refine wpAny_newFunctionEnv S.nocell (by intro y hy; simp at hy) (fun h4 hns hsb => ?_) S.kind
  dsimp only at hns hsb ⊢
  have keep : ∀ b o, h3.get? b = some o → h4.get? b = some o := fun b o e => hsb.extBut b o (Nat.ne_of_lt (Heap.lt_size e)) (Heap.get?_push_of_some _ e)
  have f0 : ∀ b ∈ fp, ∃ o, h3.get? b = some o := fun b hb => by
    obtain ⟨o, e, _⟩ := T.obj _ _ st3 b hb
    exact ⟨o, e⟩
  have I4 := inv_comp (tk := s2.toks + ([] : List (Str × Value)).length) I3 hc S f3 f0 (C := h3.objs.size) (Nat.le_refl _) hns keep
  have st4 : tn 0 h4 := T.keep _ _ _ st3 fun b _ o e => keep b o e
  have stat : ∀ {H' : Hp}, (∀ b ∈ fp, H' b = none) → ∀ b ∈ fp, FpOk (cxComp X scope cl h3.objs.size Nc fp pins { s2 with heap := h3 } H3) [] H' b := fun hn b hb => by
    obtain ⟨o, e⟩ := f0 b hb
    refine ⟨hn b hb, Nat.ne_of_lt (Heap.lt_size e), I4.ok.exfs b hb, .inl hb, fun x c q => (f3 b hb).2.2.2.2.1 x c (S.sub x c q).1, fun p hp => ?_⟩
    have z : p ∈ (X.pn ++ pins) ++ [] := hp
    rw [List.append_nil] at z
    exact (f3 b hb).2.2.2.2.2 p z
  have loop : codeAny (model X.prog X.w) X.A (.compLoop (.ListComp elt [⟨tg, iter, ifs, 0⟩] scope pos) 0 (.ref it) (.ref acc) (compEnvC scope cl h3.objs.size X.env)) (compPost (model X.prog X.w) X.A X.xe use P (.ref acc) h3.objs.size)
      { s2 with heap := h4, toks := s2.toks + ([] : List (Str × Value)).length } := by
    refine compLoop_any (fun n s' => ∃ i ys σ' H', Inv (cxComp X scope cl h3.objs.size Nc fp pins { s2 with heap := h3 } H3) [] σ' H' s' ∧ tn i s'.heap ∧ (∀ b ∈ fp, H' b = none) ∧ W i n ys σ' H') ?_ m0 ⟨0, [], _, H3, I4, st4, fun b hb => (f3 b hb).1, w0⟩
    rintro n s5 ⟨i, ys, σ5, H5, I5, st5, fr5, w5⟩
    rcases turn i n ys σ5 H5 w5 with ⟨stop, qn⟩ | ⟨go, step⟩
    · refine thn (T.done (cxComp X scope cl h3.objs.size Nc fp pins { s2 with heap := h3 } H3) rfl rfl rfl rfl i [] s5 σ5 H5 _ I5 (stat fr5) st5 stop) fun r s6 ⟨hr, I6⟩ => ?_
      subst hr
      obtain ⟨m6, hn6, _⟩ := id I6.loc
      exact fin acc _ H5 s6 m6 (comp_back (h' := s6.heap) I3 f3 I6 ⟨rfl, fun _ _ => rfl⟩) (I3.fpOk (Nat.le_refl _) I6.free) hn6 qn
    · refine wpAny_mono (T.item (cxComp X scope cl h3.objs.size Nc fp pins { s2 with heap := h3 } H3) rfl rfl rfl rfl i [] s5 σ5 H5 (fun _ _ => False) I5 (stat fr5) st5 go) (fun r s6 ⟨u, hr, h6⟩ => ?_) fun _ _ z => False.elim z
      subst hr
      refine thn h6 fun _ s7 ⟨y, H7, I7, r7, y7, st7, fr7⟩ => ?_
      have I7' := I7.pinned (stat fr7) (T.obj _ _ st7)
      have kp : ∀ {σ8 : St} {H8 : Hp} {s8 : Shared}, Inv (cxComp X scope cl h3.objs.size Nc fp pins { s2 with heap := h3 } H3) ([] ++ pinsAt fp s7.heap) σ8 H8 s8 → tn (i + 1) s8.heap ∧ ∀ b ∈ fp, H8 b = none := fun {σ8 H8 s8} I8 =>
        ⟨T.keep _ _ _ st7 fun b hb o e => (I8.pin (b, o) (List.mem_append_right _ (List.mem_append_right _ (mem_pinsAt hb e)))).1, fun b hb => by
          obtain ⟨o, e, d⟩ := T.obj _ _ st7 b hb
          exact (I8.pin (b, o) (List.mem_append_right _ (List.mem_append_right _ (mem_pinsAt hb e)))).2.1⟩
      refine thn (hg _ _ _ _ _ _ s7 σ5 H7 y u _ I7' r7 (step y H7 y7)) fun _ s8 ⟨σ8, H8, I8, q8⟩ => ?_
      refine thn (ht _ _ _ _ _ _ s8 σ8 H8 _ I8 q8) fun ok s9 ⟨H9, I9, q9⟩ => ?_
      cases ok with
      | false =>
        rw [if_neg Bool.false_ne_true] at q9 ⊢
        obtain ⟨m', hm, w'⟩ := q9
        obtain ⟨st9, fr9⟩ := kp I9
        exact ⟨m', hm, i + 1, ys, σ8, H9, I9.unpinned, st9, fr9, w'⟩
      | true =>
        rw [if_pos rfl] at q9 ⊢
        refine thn (he _ _ _ _ _ _ s9 σ8 H9 _ I9 q9) fun w10 s10 ⟨v10, H10, I10, r10, e10, l10, m', hm, q10⟩ => ?_
        refine thn (mt_append _ s10 σ8 H10 (.ref acc) [v10] (.ref acc) [w10] (fun _ H11 => W (i + 1) m' (ys ++ [v10]) σ8 H11) I10 rfl (.cons r10 .nil) ⟨acc, ys, v10, rfl, rfl, e10, l10, q10⟩) fun _ s11 ⟨_, H11, I11, _, q11⟩ => ?_
        obtain ⟨st11, fr11⟩ := kp I11
        exact ⟨m', hm, i + 1, ys ++ [v10], σ8, H11, I11.unpinned, st11, fr11, q11⟩
  exact codeAny_compStart_list loop (T.self _ 0 _ _ _ st4 loop)
theorem pe_compG (hc : X.calm = true) (hi : PI X tg iter wi) (S : CompScope X scope cl Nc cap)
    (hg : ∀ C fp pins s H, PG (cxComp X scope cl C Nc fp pins s H) tg g) (ht : ∀ C fp pins s H, PTs (cxComp X scope cl C Nc fp pins s H) ifs tt) (he : ∀ C fp pins s H, PE (cxComp X scope cl C Nc fp pins s H) elt te)
    (hs : ∀ y, foldedSetIterable iter X.env y = pure y := by intro _; rfl) : PE X (.ListComp elt [⟨tg, iter, ifs, 0⟩] scope pos) (tCompF Nc.length cap wi g tt te) := by
  intro pins s σ H Q I h
  rw [eval_ListComp]
  exact comp_core (use := none) hc hi S hg ht he hs I h fun acc C H5 s6 m6 back fpC hn qn => ⟨m6, hn, fun h7 hs7 => ⟨.ref acc, H5, back.turned (t' := s6.toks) (fun b o hb q => (hs7.2 b hb).trans q) fpC.1 fpC.2.1 fpC.2.2.2.1 fpC.2.2.2.2.1 fpC.2.2.2.2.2, rfl, qn⟩⟩
theorem tCompF_nil {n : Nat} : tCompF n cap wi g (fun _ H Q => Q true H) te = tComp n cap wi g te := by
  unfold tCompF tComp
  simp only [if_true]
theorem pe_comp (hc : X.calm = true) (hi : PI X tg iter wi) (S : CompScope X scope cl Nc cap)
    (hg : ∀ C fp pins s H, PG (cxComp X scope cl C Nc fp pins s H) tg g) (he : ∀ C fp pins s H, PE (cxComp X scope cl C Nc fp pins s H) elt te)
    (hs : ∀ y, foldedSetIterable iter X.env y = pure y := by intro _; rfl) : PE X (.ListComp elt [⟨tg, iter, [], 0⟩] scope pos) (tComp Nc.length cap wi g te) :=
  tCompF_nil ▸ pe_compG (ifs := []) (pos := pos) hc hi S hg (fun _ _ _ _ _ => pts_nil) he hs
theorem pe_compF {ct : PySem.Expr} (hc : X.calm = true) (hi : PI X tg iter wi) (S : CompScope X scope cl Nc cap)
    (hg : ∀ C fp pins s H, PG (cxComp X scope cl C Nc fp pins s H) tg g) (ht : ∀ C fp pins s H, PT (cxComp X scope cl C Nc fp pins s H) ct tt) (he : ∀ C fp pins s H, PE (cxComp X scope cl C Nc fp pins s H) elt te)
    (hs : ∀ y, foldedSetIterable iter X.env y = pure y := by intro _; rfl) : PE X (.ListComp elt [⟨tg, iter, [ct], 0⟩] scope pos) (tCompF Nc.length cap wi g tt te) :=
  pe_compG hc hi S hg (fun C fp pins s H => pts_one (ht C fp pins s H)) he hs
theorem ps_setCompG {i : Nat} {y : Str} {py spos : Pos} (hN : X.N.Nodup) (hiN : X.N[i]? = some y) (hy : Loc X.env.scope y)
    (hc : X.calm = true) (hi : PI X tg iter wi) (S : CompScope X scope cl Nc cap)
    (hg : ∀ C fp pins s H, PG (cxComp X scope cl C Nc fp pins s H) tg g) (ht : ∀ C fp pins s H, PTs (cxComp X scope cl C Nc fp pins s H) ifs tt) (he : ∀ C fp pins s H, PE (cxComp X scope cl C Nc fp pins s H) elt te)
    (hsw : swapsWith (.ListComp elt [⟨tg, iter, ifs, 0⟩] scope pos) (some (.Name y py)) spos.line X.env = pure true := by rfl) (hs : ∀ z, foldedSetIterable iter X.env z = pure z := by intro _; rfl)
    (hf : X.fn y = true ∨ X.env.scope.names.lookup y = some .local := by first | exact .inl rfl | exact .inr rfl | assumption) :
    PS X (.Assign [.Name y py] (.ListComp elt [⟨tg, iter, ifs, 0⟩] scope pos) spos) (tAsg (tCompF Nc.length cap wi g tt te) (gName i)) := by
  intro pins s σ H D I h
  rw [exec_Assign_Name_used _ _ _ _ hsw]
  refine wpAny_bind (wpAny_standAt (wpAny_bind ?_))
  show wpAny _ X.A (do let _ ← comprehension (.ListComp elt [⟨tg, iter, ifs, 0⟩] scope pos) scope X.env _ (newList []) false (eval iter X.env) (some (assign (.Name y py) X.env))) _ _ s
  refine wpAny_bind (wpAny_mono (comp_core (use := some (assign (.Name y py) X.env)) (P := fun _ s' => SP X pins D .next s') hc hi S hg ht he hs I h fun acc C H5 s6 m6 back fpC hn6 qn => ?_) (fun _ s' hq => wpAny_pure (wpAny_pure hq)) fun _ _ e => e)
  show wpAny (model X.prog X.w) X.A (assign (.Name y py) X.env (.ref acc)) _ X.xe s6
  refine wpAny_assign_Name (store_ok2 (v := .ref acc) back hN hiN hy rfl (fun s7 I7 ⟨a7, sb7, e7⟩ => ?_) hf)
  have nC : C ≠ a7 := by
    rcases e7 with e7 | e7
    · rw [e7]; exact fpC.2.1
    · exact Ne.symm (fpC.2.2.2.2.1 _ _ e7)
  refine ⟨m6, hn6.sameBut sb7 nC, fun h8 hs8 => ⟨_, H5, ?_, qn⟩⟩
  exact I7.turned (t' := s7.toks) (fun b o hb q => (hs8.2 b hb).trans q) fpC.1 fpC.2.1 fpC.2.2.2.1 fpC.2.2.2.2.1 fpC.2.2.2.2.2
theorem ps_setCompF {ct : PySem.Expr} {i : Nat} {y : Str} {py spos : Pos} (hN : X.N.Nodup) (hiN : X.N[i]? = some y) (hy : Loc X.env.scope y)
    (hc : X.calm = true) (hi : PI X tg iter wi) (S : CompScope X scope cl Nc cap)
    (hg : ∀ C fp pins s H, PG (cxComp X scope cl C Nc fp pins s H) tg g) (ht : ∀ C fp pins s H, PT (cxComp X scope cl C Nc fp pins s H) ct tt) (he : ∀ C fp pins s H, PE (cxComp X scope cl C Nc fp pins s H) elt te)
    (hsw : swapsWith (.ListComp elt [⟨tg, iter, [ct], 0⟩] scope pos) (some (.Name y py)) spos.line X.env = pure true := by rfl) (hs : ∀ z, foldedSetIterable iter X.env z = pure z := by intro _; rfl)
    (hf : X.fn y = true ∨ X.env.scope.names.lookup y = some .local := by first | exact .inl rfl | exact .inr rfl | assumption) :
    PS X (.Assign [.Name y py] (.ListComp elt [⟨tg, iter, [ct], 0⟩] scope pos) spos) (tAsg (tCompF Nc.length cap wi g tt te) (gName i)) :=
  ps_setCompG hN hiN hy hc hi S hg (fun C fp pins s H => pts_one (ht C fp pins s H)) he hsw hs hf
theorem ps_setComp {i : Nat} {y : Str} {py spos : Pos} (hN : X.N.Nodup) (hiN : X.N[i]? = some y) (hy : Loc X.env.scope y)
    (hc : X.calm = true) (hi : PI X tg iter wi) (S : CompScope X scope cl Nc cap)
    (hg : ∀ C fp pins s H, PG (cxComp X scope cl C Nc fp pins s H) tg g) (he : ∀ C fp pins s H, PE (cxComp X scope cl C Nc fp pins s H) elt te)
    (hsw : swapsWith (.ListComp elt [⟨tg, iter, [], 0⟩] scope pos) (some (.Name y py)) spos.line X.env = pure true := by rfl) (hs : ∀ z, foldedSetIterable iter X.env z = pure z := by intro _; rfl)
    (hf : X.fn y = true ∨ X.env.scope.names.lookup y = some .local := by first | exact .inl rfl | exact .inr rfl | assumption) :
    PS X (.Assign [.Name y py] (.ListComp elt [⟨tg, iter, [], 0⟩] scope pos) spos) (tAsg (tComp Nc.length cap wi g te) (gName i)) :=
  tCompF_nil ▸ ps_setCompG (ifs := []) hN hiN hy hc hi S hg (fun _ _ _ _ _ => pts_nil) he hsw hs hf
end
end L2
namespace L2
open PySem PySem.Spec PyProof.Rows
section
variable {X : Cx}
noncomputable def Big (i : Int) : Prop := i.natAbs < 2 ^ 8000
theorem big_log {i : Int} (h : Big i) : i.natAbs.log2 < 8000 := by
  by_cases z : i.natAbs = 0
  · rw [z]; decide
  · exact (Nat.log2_lt z).mpr h
theorem big_bits {i : Int} (h : Big i) : Builtin.Int.intBits i ≤ 8001 := by
  have := big_log h
  unfold Builtin.Int.intBits
  split <;> omega
noncomputable def CMulB (i j : Int) : Prop := Big i ∧ Big j
theorem op_mulB : OpR X (binaryOp .Mult) (rI CMulB fun i j => .int (i * j)) := opI fun _ _ _ _ _ _ _ hc q => mul_int q (IntMulOk.of_bits (Nat.le_trans (big_bits hc.1) (by decide)) (Nat.le_trans (big_bits hc.2) (by decide)))
noncomputable def CDivB (_ j : Int) : Prop := j ≠ 0 ∧ Big j
theorem op_fdivB : OpR X (binaryOp .FloorDiv) (rI CDivB fun i j => .int (i.fdiv j)) := opI fun _ _ _ _ _ _ _ hc q => floordiv_int hc.1 q (.inl (PyProof.noPylong_of_log2 (by have := big_log hc.2; omega)))
noncomputable def rIsi (K : PySem.W.Frag) (c : V) (cv : Value) : List V → Hp → VK → Prop := fun xs H Q => ∃ x t b, xs = [x, c] ∧ TyOf K H x t ∧ PySem.W.kitOne K t cv = some b ∧ Q (.bl b) H
theorem call_isi {c : V} {cv : Value} (hc : ∀ u, RelV c u → u = cv) : CallR X (.builtin "isinstance") (rIsi X.K c cv) := by
  intro pins s σ H xs us Q I r h
  obtain ⟨x, t, b, rfl, ty, e, q⟩ := h
  obtain ⟨u, w', rfl, r1, r2⟩ := vals2 r
  cases hc w' r2
  exact isinst_ok I r1 ty e fun tk => ⟨.bl b, H, I.tok _, rfl, q⟩
end
end L2
namespace L2
open PySem PySem.Spec PyProof.Rows
theorem bt_isinstance : bootBuiltins "isinstance" = some (.builtin "isinstance") := by decide +kernel
theorem bt_int : bootBuiltins "int" = some (.type "int") := by decide +kernel
theorem bt_tuple : bootBuiltins "tuple" = some (.type "tuple") := by decide +kernel
theorem bt_len : bootBuiltins "len" = some (.builtin "len") := by decide +kernel
theorem bt_abs : bootBuiltins "abs" = some (.builtin "abs") := by decide +kernel
theorem bt_max : bootBuiltins "max" = some (.builtin "max") := by decide +kernel
theorem bt_min : bootBuiltins "min" = some (.builtin "min") := by decide +kernel
theorem kit_self (K : PySem.W.Frag) (t : Value) : PySem.W.kitOne K t t = some true := by
  unfold PySem.W.kitOne
  rw [if_pos (beq_self_eq_true t)]
section
variable {X : Cx}
end
end L2
namespace L2
open PySem PySem.Spec PyProof.Rows
section
variable {X : Cx}
end
end L2
namespace L2
open PySem PySem.Spec PyProof.Rows
section
variable {prog : Program} {w : World} {A : Around} {E : Value → Shared → Prop} {s : Shared}
theorem nextT_item {c t : Addr} {k : Nat} {vs : Array Value} {y : Value} {Q : Value → Shared → Prop} (hc : s.heap.IsTupleIter c t k) (ht : s.heap.IsTuple t vs) (hy : vs[k]? = some y)
    (hQ : ∀ h', h'.IsTupleIter c t (k + 1) → Heap.SameBut c s.heap h' → Q y { s with heap := h' }) : wpAny (model prog w) A (Builtin.SmallTypes.nextOf (.ref c)) Q E s := by
  obtain ⟨ob, e1, e2, e3⟩ := id hc
  obtain ⟨ot, f1, _, nt, f2⟩ := ht
  unfold Builtin.SmallTypes.nextOf
  refine wpAny_bind (wpAny_callSpecial?_slot (name := Str.ofString "__next__") hc.typeIs PySem.F.slot_tuple_iterator_next (wpAny_call_entry PySem.F.slot_tuple_iterator_next hc.typeIs PySem.F.entry_tuple_iterator_next ?_ (PySem.F.args_tuple_iterator_next_1 _)))
  show wpAny _ _ (field (.ref c) 0 >>= _) _ _ s
  refine wpAny_bind (wpAny_field e1 e3 (x := .ref t) rfl ?_)
  show wpAny _ _ (if (Value.ref t == Value.none) = true then _ else _) _ _ _
  rw [if_neg (show ¬ ((Value.ref t == Value.none) = true) by exact Bool.false_ne_true)]
  show wpAny _ _ (field (.ref c) 1 >>= _) _ _ s
  refine wpAny_bind (wpAny_field e1 e3 (x := .int k 0) rfl ?_)
  show wpAny _ _ (seqItems? (.ref t) >>= _) _ _ _
  refine wpAny_bind (wpAny_seqItems f1 f2 ?_)
  simp only [Int.toNat_natCast, hy]
  refine wpAny_bind (wpAny_setField e1 e3 (by simp) (wpAny_pure ⟨y, rfl, wpAny_pure (hQ _ ?_ (Heap.SameBut.update ..))⟩))
  exact ⟨_, Heap.get?_update_self _ e1 (Obj.isFreed_of_fields (Obj.data_mapFields e3 _)), (Obj.cls_mapFields ..).trans e2, by rw [Obj.data_mapFields e3]; simp [rawInt]⟩
theorem nextT_end {c t : Addr} {k : Nat} {vs : Array Value} {Q : Value → Shared → Prop} (hh : A.handled = none) (hc : s.heap.IsTupleIter c t k) (ht : s.heap.IsTuple t vs) (hy : vs[k]? = none)
    (hE : ∀ h' x, Heap.ExtBut c s.heap h' → (∃ o, h'.get? x = some o ∧ o.cls = .type "StopIteration") → E (.ref x) { s with heap := h' }) : wpAny (model prog w) A (Builtin.SmallTypes.nextOf (.ref c)) Q E s := by
  obtain ⟨ob, e1, e2, e3⟩ := id hc
  obtain ⟨ot, f1, _, nt, f2⟩ := ht
  unfold Builtin.SmallTypes.nextOf
  refine wpAny_bind (wpAny_callSpecial?_slot (name := Str.ofString "__next__") hc.typeIs PySem.F.slot_tuple_iterator_next (wpAny_call_entry PySem.F.slot_tuple_iterator_next hc.typeIs PySem.F.entry_tuple_iterator_next ?_ (PySem.F.args_tuple_iterator_next_1 _)))
  show wpAny _ _ (field (.ref c) 0 >>= _) _ _ s
  refine wpAny_bind (wpAny_field e1 e3 (x := .ref t) rfl ?_)
  show wpAny _ _ (if (Value.ref t == Value.none) = true then _ else _) _ _ _
  rw [if_neg (show ¬ ((Value.ref t == Value.none) = true) by exact Bool.false_ne_true)]
  show wpAny _ _ (field (.ref c) 1 >>= _) _ _ s
  refine wpAny_bind (wpAny_field e1 e3 (x := .int k 0) rfl ?_)
  show wpAny _ _ (seqItems? (.ref t) >>= _) _ _ _
  refine wpAny_bind (wpAny_seqItems f1 f2 ?_)
  simp only [Int.toNat_natCast, hy]
  refine wpAny_bind (wpAny_rule (wpAny_bind (wpAny_setField e1 e3 (by simp) ?_)))
  show wpAny _ _ (newExc (.type "StopIteration") [] >>= _) _ _ (_ : Shared)
  refine wpAny_bind ?_
  simp only [newExc, newTuple]
  refine wpAny_bind (wpAny_newObj_type ?_ (by size_fits)); refine wpAny_bind (m := firstArgMember _ _) (wpAny_of_eq (a := Value.none) (by first | rfl | (simp only [firstArgMember]; rfl)) ?_)
  refine wpAny_newObj_type ?_ (by size_fits); simp only [raiseNew]
  refine wpAny_bind (wpAny_handled ?_); first | rw [show A.in1.handled = none from hh] | rw [hh]
  refine wpAny_bind (wpAny_pure (wpAny_throw (hE _ _ (((Heap.SameBut.update ..).extBut.push _).push _) ⟨_, Heap.get?_push_size _ rfl, rfl⟩)))
theorem drawsT (hh : A.handled = none) (c t : Addr) (hne : t ≠ c) (vs : Array Value) :
    Draws prog w A c [c, t] vs.size (fun i v => vs[i]? = some v) (fun i h => h.IsTupleIter c t i ∧ h.IsTuple t vs) where
  live := fun _ _ st => let ⟨o, ho, _⟩ := st.1; ⟨o, ho⟩
  frame := fun _ _ _ st hk => ⟨let ⟨o, ho, r⟩ := st.1; ⟨o, hk c (by simp) o ho, r⟩, let ⟨o, ho, r⟩ := st.2; ⟨o, hk t (by simp) o ho, r⟩⟩
  item := fun i s' Q' E' hi st hQ => nextT_item st.1 st.2 (y := vs[i]) (by simp [hi]) fun h' k1 k2 => hQ _ h' s'.toks (by simp [hi]) ⟨k1, st.2.extBut k2.extBut hne⟩ k2
  done := fun s' Q' E' st hE => nextT_end hh st.1 st.2 (by simp) hE
set_option maxHeartbeats 1000000 in
theorem meets_enumT (t : Addr) (vs : Array Value) (n : Nat) (dct : Option Addr) (sl : Array (Option Value)) :
    Meets (Builtin.«enumerate.__new__» ⟨[.type "enumerate", .ref t], []⟩) (fun _ R s => s.heap.get? t = some { cls := .type "tuple", dict := dct, data := .seq vs n, slots := sl } ∧
      R (.ok (.ret (.ref (s.heap.push { cls := .type "tuple_iterator", data := .fields #[.ref t, .int 0 0] }).objs.size)))
        { s with heap := (s.heap.push { cls := .type "tuple_iterator", data := .fields #[.ref t, .int 0 0] }).push { cls := .type "enumerate", data := .fields #[.none, .bool false, .ref s.heap.objs.size, rawInt 0, .none, .none] } }) :=
  .of_wp fun prog w A R s h => by
    obtain ⟨hp, g, d, tk, os⟩ := s; obtain ⟨ht, h⟩ := h
    have hsub := sub_enumerate
    have hT : Heap.IsTuple (Shared.heap ⟨hp, g, d, tk, os⟩) t vs := ⟨_, ht, rfl, n, rfl⟩
    wp_walk using AutoSeq1.wpAny_loadPart' ht
    refine wpAny_stack_any fun st => wpAny_pure ?_
    split
    · rename_i c _ _ _ _ _
      cases (c == Value.type "enumerate") <;> (wp_walk using AutoSeq1.wpAny_loadPart' ht, wpAny_pyIter_tuple hT; exact ⟨_, rfl, h⟩)
    · wp_walk using AutoSeq1.wpAny_loadPart' ht, wpAny_pyIter_tuple hT; exact ⟨_, rfl, h⟩
theorem call_enumT {t : Addr} {vs : Array Value} {Q : Value → Shared → Prop} (hT : s.heap.IsTuple t vs)
    (h : ∀ h', IsEnum h' (s.heap.objs.size + 1) s.heap.objs.size 0 .none → h'.IsTupleIter s.heap.objs.size t 0 → (∀ b o, s.heap.get? b = some o → h'.get? b = some o) → Q (.ref (s.heap.objs.size + 1)) { s with heap := h' }) :
    wpAny (model prog w) A (call (.type "enumerate") [.ref t]) Q E s := by
  obtain ⟨⟨c, dct, dt, sl⟩, ht, hc, n, hd⟩ := hT
  obtain rfl : c = .type "tuple" := hc
  obtain rfl : dt = .seq vs n := hd
  refine callType_new PySem.F.called_enumerate (by decide) (PySem.F.typeCall_enumerate_1 _) (PySem.F.newCall_enumerate_1 _) (fun obj => PySem.F.args_object_init_2 obj _) PySem.F.entry_enumerate_new (meets_enumT t vs n dct sl) ⟨ht, ?_⟩
  have z : (s.heap.push { cls := .type "tuple_iterator", data := .fields #[.ref t, .int 0 0] }).objs.size = s.heap.objs.size + 1 := Heap.size_push ..
  show _ ∧ _
  rw [z]
  have he : IsEnum ((s.heap.push { cls := .type "tuple_iterator", data := .fields #[.ref t, .int 0 0] }).push { cls := .type "enumerate", data := .fields #[.none, .bool false, .ref s.heap.objs.size, rawInt 0, .none, .none] }) (s.heap.objs.size + 1) s.heap.objs.size 0 .none := by
    have q := Heap.get?_push_size (s.heap.push { cls := .type "tuple_iterator", data := .fields #[.ref t, .int 0 0] }) (o := { cls := .type "enumerate", data := .fields #[.none, .bool false, .ref s.heap.objs.size, rawInt 0, .none, .none] }) rfl
    rw [z] at q
    exact q
  exact ⟨⟨_, he, rfl⟩, h _ he ⟨_, Heap.get?_push_of_some _ (Heap.get?_push_size _ rfl), rfl, rfl⟩ fun b o q => Heap.get?_push_of_some _ (Heap.get?_push_of_some _ q)⟩
end
section
variable {X : Cx}
noncomputable def Ite (a : Addr) : It :=
  ⟨fun i H => ∃ xs x, H a = some (.tup xs) ∧ xs[i]? = some x,
   fun i H v H' => ∃ p x, v = .ref p ∧ H p = none ∧ H' = upd H p (.tup [.int i, x]) ∧ ∀ xs, H a = some (.tup xs) → xs[i]? = some x,
   fun i H => ∃ xs, H a = some (.tup xs) ∧ xs.length = i⟩
theorem turn_enum {P : Program} {w : World} {K : PySem.W.Frag} {es : List PySem.Expr} {kk : Nat} {pos : Pos} {a e it : Addr} (hei : e ≠ it) :
    Turn P w K (.Tuple es kk pos) (Ite a) [e, it] e (fun i h => (∃ old, IsEnum h e it ((i : Nat) : Int) old) ∧ h.IsTupleIter it a i) where
  mem := by simp
  obj := fun i h st c hc => by
    obtain ⟨⟨old, h1⟩, o2, h2, _, d2⟩ := st
    simp only [List.mem_cons, List.not_mem_nil, or_false] at hc
    rcases hc with rfl | rfl
    · exact ⟨_, h1, fun v z => by have z' : Data.fields _ = Data.cell v := z; cases z'⟩
    · exact ⟨_, h2, fun v z => by rw [d2] at z; cases z⟩
  keep := fun i h h' st k => by
    obtain ⟨⟨old, h1⟩, o2, h2, r⟩ := st
    exact ⟨⟨old, k e (by simp) _ h1⟩, o2, k it (by simp) _ h2, r⟩
  item := by
    intro X hP hw hK hc i pins s σ H E I hf st hg
    subst hP hw hK
    obtain ⟨xs, x, qa, hx⟩ := hg
    obtain ⟨its, rv, pa, _⟩ := I.tuple (SqT.of (K := X.K) qa)
    obtain ⟨ux, hux, rx⟩ := rv.get hx
    obtain ⟨⟨old, h1⟩, h2⟩ := st
    have nea : e ≠ a := fun z => by
      have := (hf e (by simp)).1
      rw [z, qa] at this
      cases this
    have nia : a ≠ it := fun z => by
      have := (hf it (by simp)).1
      rw [← z, qa] at this
      cases this
    have hlt : i < its.toArray.size := by
      rw [List.size_toArray]
      exact (List.getElem?_eq_some_iff.mp hux).1
    have D : Draws X.prog X.w X.A.in1 it [it, a] its.toArray.size (fun i v => its.toArray[i]? = some v) (fun i h => h.IsTupleIter it a i ∧ h.IsTuple a its.toArray) := drawsT (show X.A.in1.handled = none from I.ok.hd hc) it a nia its.toArray
    refine wpAny_pyNext_enum_itemD D h1 ⟨h2, pa⟩ hlt hei (by simp [hei, nea]) fun y h' tk hy a1 a2 a3 a4 k => ?_
    have hyx : y = ux := by
      have q1 : its.toArray[i]? = some y := hy
      rw [List.getElem?_toArray, hux] at q1
      exact (Option.some.inj q1).symm
    subst hyx
    refine ⟨_, rfl, wpAny_letOwnedTupleGo_enum a1 fun h'' b1 sb => ?_⟩
    have sb : Heap.SameBut e h' h'' := sb
    have hse : s.heap.objs.size ≠ e := Nat.ne_of_gt (Heap.lt_size h1)
    have hsi : s.heap.objs.size ≠ it := by
      obtain ⟨o, g, _⟩ := id h2
      exact Nat.ne_of_gt (Heap.lt_size g)
    have hn : H s.heap.objs.size = none := I.hok.fresh (Nat.le_refl _)
    have kk' : ∀ c o, c ∉ [e, it] → s.heap.get? c = some o → h''.get? c = some o := fun c o hc q =>
      (sb.2 c fun z => hc (by simp [z])).trans (k c o (fun z => hc (by simp [z])) (fun z => hc (by simp [z])) q)
    have tO : h''.get? s.heap.objs.size = some { cls := .type "tuple", data := .seq #[.int i tk, y] } := (sb.2 _ hse).trans a3
    have nt : ∀ c u, H c = some u → c ∉ [e, it] := fun c u q hc => by
      have := (hf c hc).1
      rw [q] at this
      cases this
    have tupOk : ObjOk X.prog X.w (upd H s.heap.objs.size (.tup [.int i, x])) h'' s.heap.objs.size (.tup [.int i, x]) :=
      ⟨by show 2 ≤ sizeLine; decide, [.int i tk, y], .cons ⟨tk, rfl⟩ (.cons rx .nil), ⟨_, tO, rfl, _, rfl⟩, _, tO, rfl⟩
    have I1 : Inv X pins σ (upd H s.heap.objs.size (.tup [.int i, x])) { s with heap := h'', toks := tk + 1 } := by
      refine I.step (g' := s.gens) (d' := s.drawn) (t' := tk + 1) (ch := [e, it]) (fun c hc => ⟨(hf c hc).2.2.2.1, (hf c hc).2.1, (hf c hc).2.2.2.2.1, (hf c hc).2.2.2.2.2⟩) (fun c o _ _ hc q _ => kk' c o hc q) (fun c o _ _ hc q _ => ⟨o.slots, kk' c o hc q⟩)
        (fun c o _ q n => by rw [upd_ne (Nat.ne_of_lt (Heap.lt_size q))]; exact n) (fun c o hc q => ⟨o, kk' c o hc q⟩) (fun c vs q => by rw [upd_ne (ne_of_none q hn)]; exact q) (fun c o vs q => by rw [upd_ne (ne_of_none q hn)]; exact q)
        (fun c ps q => ⟨#[], by rw [upd_ne (ne_of_none q hn), q]; simp⟩) (fun m hm => ?_) (fun c o q => ?_) I.bare
      · obtain ⟨o, es', ep, ho, r⟩ := hm
        exact ⟨o, es', ep, kk' _ o (fun q => (hf _ q).2.1 rfl) ho, r⟩
      · by_cases hcs : c = s.heap.objs.size
        · subst hcs
          rw [upd_same] at q
          cases q
          exact tupOk
        · rw [upd_ne hcs] at q
          refine (I.hok c o q).stay (fun d v hd z => kk' d v ?_ z) (fun d z => by rw [upd_ne (ne_of_none z hn)]; exact z) fun d vs z => by rw [upd_ne (ne_of_none z hn)]; exact z
          rcases hd with hd | hd
          · rw [hd]; exact nt c o q
          · exact nt d _ hd
    have g2 : h''.IsTupleIter it a (i + 1) := by
      obtain ⟨⟨o, g, r⟩, _⟩ := a2
      exact ⟨o, (sb.2 _ (Ne.symm hei)).trans g, r⟩
    have g1 : IsEnum h'' e it (((i + 1 : Nat)) : Int) y := by
      have : ((i + 1 : Nat) : Int) = (i : Int) + 1 := by omega
      rw [this]
      exact b1
    exact ⟨.ref s.heap.objs.size, _, I1, rfl, ⟨_, x, rfl, hn, rfl, fun xs' q => by rw [qa] at q; cases q; exact hx⟩, ⟨⟨_, g1⟩, g2⟩, fun c hc => by
      have : c ≠ s.heap.objs.size := by
        simp only [List.mem_cons, List.not_mem_nil, or_false] at hc
        rcases hc with rfl | rfl
        · exact Ne.symm hse
        · exact Ne.symm hsi
      rw [upd_ne this]
      exact (hf c hc).1⟩
  done := by
    intro X hP hw hK hc i pins s σ H E I hf st hg
    subst hP hw hK
    obtain ⟨xs, qa, hl⟩ := hg
    obtain ⟨its, rv, pa, _⟩ := I.tuple (SqT.of (K := X.K) qa)
    obtain ⟨⟨old, h1⟩, h2⟩ := st
    have nia : a ≠ it := fun z => by
      have := (hf it (by simp)).1
      rw [← z, qa] at this
      cases this
    have D : Draws X.prog X.w X.A.in1 it [it, a] its.toArray.size (fun i v => its.toArray[i]? = some v) (fun i h => h.IsTupleIter it a i ∧ h.IsTuple a its.toArray) := drawsT (show X.A.in1.handled = none from I.ok.hd hc) it a nia its.toArray
    have hi : its.toArray.size = i := by
      rw [List.size_toArray, ← rv.length]
      exact hl
    obtain ⟨f0, f1, f2, f3, f4, f5⟩ := hf it (by simp)
    refine wpAny_pyNext_enum_endD D h1 (by rw [hi]; exact ⟨h2, pa⟩) fun h' k => ⟨rfl, I.turned (t' := s.toks) (fun b o hb q => k b o hb q) f0 f1 f3 f4 f5⟩
  self := fun _ _ _ _ _ st h => by
    obtain ⟨⟨old, h1⟩, _⟩ := st
    exact wpAny_pyIter_enum h1 h
noncomputable def iEnum (ta : TA) : TI := fun σ H R => ta σ H fun vs H1 => ∃ a xs, vs = [.ref a] ∧ H1 a = some (.tup xs) ∧ R (Ite a) H1
theorem pi_enum {es : List PySem.Expr} {kk : Nat} {tpos : Pos} {a : PySem.Expr} {ta : TA} {p pos : Pos} (hg : Gl X "enumerate") (hm : X.mg "enumerate" = none) (ha : PA X [a] ta) (hs : starEach [a] X.env = [(false, eval a X.env)] := by rfl) :
    PI X (.Tuple es kk tpos) (.Call (.Name "enumerate" p) [a] [] pos) (iEnum ta) := by
  intro pins s σ H R I h
  refine Call_ (ld_blt I hg hm PyProof.Rows.boot_enumerate (PyProof.Rows.callWith_type1 (thn (ha pos pins s σ H _ I h) fun us s1 ⟨vs, H1, I1, r1, q1⟩ => ?_) hs rfl))
  obtain ⟨la, xs, e, qa, q⟩ := q1
  subst e
  obtain ⟨u1, rfl, ra⟩ := vals1 r1
  cases ra
  obtain ⟨its, rv, pa, _⟩ := I1.tuple (SqT.of (K := X.K) qa)
  refine call_enumT pa fun h' z1 z2 zk => wpAny_pyIter_enum z1 ?_
  have I2 : Inv X pins σ H1 { s1 with heap := h' } := I1.kept (t' := s1.toks) zk
  refine ⟨s1.heap.objs.size + 1, _, _, _, H1, rfl, I2, turn_enum (Nat.succ_ne_self _), ⟨⟨_, z1⟩, z2⟩, fun c hc => ?_, q⟩
  have hge : s1.heap.objs.size ≤ c := by
    simp only [List.mem_cons, List.not_mem_nil, or_false] at hc
    rcases hc with rfl | rfl <;> omega
  exact I1.fpOk (H' := H1) hge (I1.hok.fresh hge)
theorem for_enum {a : Addr} {xs : List V} {g : TG} {tb : TS} {D : Ends} {σ : St} {H : Hp} (Pv : Nat → St → Hp → Prop) (h0 : Pv 0 σ H) (hl : ∀ i σ H, i ≤ xs.length → Pv i σ H → H a = some (.tup xs))
    (hs : ∀ i x σ H p, xs[i]? = some x → Pv i σ H → H p = none → g (.ref p) σ (upd H p (.tup [.int i, x])) fun σ2 H2 => tb { D with nx := Pv (i + 1), ct := Pv (i + 1), bk := D.nx } σ2 H2) (hd : ∀ σ H, Pv xs.length σ H → D.nx σ H) :
    ∃ W : Nat → Nat → St → Hp → Prop, (∃ m, W 0 m σ H) ∧ ∀ i m σ H, W i m σ H →
      ((Ite a).stop i H ∧ D.nx σ H) ∨ ((Ite a).go i H ∧ ∃ N : St → Hp → Prop, (∀ σ' H', N σ' H' → ∃ m', m' < m ∧ W (i + 1) m' σ' H') ∧ ∀ x H', (Ite a).yld i H x H' → g x σ H' fun σ2 H2 => tb { D with nx := N, ct := N, bk := D.nx } σ2 H2) := by
  refine ⟨fun i m σ H => m = xs.length - i ∧ i ≤ xs.length ∧ Pv i σ H, ⟨xs.length, by simp, Nat.zero_le _, h0⟩, ?_⟩
  rintro i m σ H ⟨rfl, hi, p⟩
  have qa := hl i σ H hi p
  rcases Nat.lt_or_ge i xs.length with hlt | hge
  · refine .inr ⟨⟨xs, xs[i], qa, by simp [hlt]⟩, Pv (i + 1), fun σ' H' p' => ⟨xs.length - (i + 1), by omega, rfl, hlt, p'⟩, fun v H' yl => ?_⟩
    obtain ⟨pa, x, rfl, hp, rfl, hx⟩ := yl
    exact hs i x σ H pa (hx xs qa) p hp
  · obtain rfl : i = xs.length := by omega
    exact .inl ⟨⟨xs, qa, rfl⟩, hd σ H p⟩

end
end L2
namespace L2
open PySem PySem.Spec PyProof.Rows
section
variable {X : Cx}
noncomputable def ItEl (a : Addr) : It :=
  ⟨fun i H => ∃ xs x, H a = some (.lst xs) ∧ xs[i]? = some x,
   fun i H v H' => ∃ p x, v = .ref p ∧ H p = none ∧ H' = upd H p (.tup [.int i, x]) ∧ ∀ xs, H a = some (.lst xs) → xs[i]? = some x,
   fun i H => ∃ xs, H a = some (.lst xs) ∧ xs.length = i⟩
theorem turn_enumL {P : Program} {w : World} {K : PySem.W.Frag} {es : List PySem.Expr} {kk : Nat} {pos : Pos} {a e it : Addr} (hei : e ≠ it) :
    Turn P w K (.Tuple es kk pos) (ItEl a) [e, it] e (fun i h => (∃ old, IsEnum h e it ((i : Nat) : Int) old) ∧ h.IsListIter it a i) where
  mem := by simp
  obj := fun i h st c hc => by
    obtain ⟨⟨old, h1⟩, o2, h2, _, d2⟩ := st
    simp only [List.mem_cons, List.not_mem_nil, or_false] at hc
    rcases hc with rfl | rfl
    · exact ⟨_, h1, fun v z => by have z' : Data.fields _ = Data.cell v := z; cases z'⟩
    · exact ⟨_, h2, fun v z => by rw [d2] at z; cases z⟩
  keep := fun i h h' st k => by
    obtain ⟨⟨old, h1⟩, o2, h2, r⟩ := st
    exact ⟨⟨old, k e (by simp) _ h1⟩, o2, k it (by simp) _ h2, r⟩
  item := by
    intro X hP hw hK hc i pins s σ H E I hf st hg
    subst hP hw hK
    obtain ⟨xs, x, qa, hx⟩ := hg
    obtain ⟨its, rv, pa, _⟩ := I.list (SqL.of (K := X.K) qa)
    obtain ⟨ux, hux, rx⟩ := rv.get hx
    obtain ⟨⟨old, h1⟩, h2⟩ := st
    have nea : e ≠ a := fun z => by
      have := (hf e (by simp)).1
      rw [z, qa] at this
      cases this
    have nia : a ≠ it := fun z => by
      have := (hf it (by simp)).1
      rw [← z, qa] at this
      cases this
    have hlt : i < its.toArray.size := by
      rw [List.size_toArray]
      exact (List.getElem?_eq_some_iff.mp hux).1
    have D : Draws X.prog X.w X.A.in1 it [it, a] its.toArray.size (fun i v => its.toArray[i]? = some v) (fun i h => h.IsListIter it a i ∧ h.IsList a its.toArray) := Draws.list (show X.A.in1.handled = none from I.ok.hd hc) it a nia its.toArray
    refine wpAny_pyNext_enum_itemD D h1 ⟨h2, pa.isList⟩ hlt hei (by simp [hei, nea]) fun y h' tk hy a1 a2 a3 a4 k => ?_
    have hyx : y = ux := by
      have q1 : its.toArray[i]? = some y := hy
      rw [List.getElem?_toArray, hux] at q1
      exact (Option.some.inj q1).symm
    subst hyx
    refine ⟨_, rfl, wpAny_letOwnedTupleGo_enum a1 fun h'' b1 sb => ?_⟩
    have sb : Heap.SameBut e h' h'' := sb
    have hse : s.heap.objs.size ≠ e := Nat.ne_of_gt (Heap.lt_size h1)
    have hsi : s.heap.objs.size ≠ it := by
      obtain ⟨o, g, _⟩ := id h2
      exact Nat.ne_of_gt (Heap.lt_size g)
    have hn : H s.heap.objs.size = none := I.hok.fresh (Nat.le_refl _)
    have kk' : ∀ c o, c ∉ [e, it] → s.heap.get? c = some o → h''.get? c = some o := fun c o hc q =>
      (sb.2 c fun z => hc (by simp [z])).trans (k c o (fun z => hc (by simp [z])) (fun z => hc (by simp [z])) q)
    have tO : h''.get? s.heap.objs.size = some { cls := .type "tuple", data := .seq #[.int i tk, y] } := (sb.2 _ hse).trans a3
    have nt : ∀ c u, H c = some u → c ∉ [e, it] := fun c u q hc => by
      have := (hf c hc).1
      rw [q] at this
      cases this
    have tupOk : ObjOk X.prog X.w (upd H s.heap.objs.size (.tup [.int i, x])) h'' s.heap.objs.size (.tup [.int i, x]) :=
      ⟨by show 2 ≤ sizeLine; decide, [.int i tk, y], .cons ⟨tk, rfl⟩ (.cons rx .nil), ⟨_, tO, rfl, _, rfl⟩, _, tO, rfl⟩
    have I1 : Inv X pins σ (upd H s.heap.objs.size (.tup [.int i, x])) { s with heap := h'', toks := tk + 1 } := by
      refine I.step (g' := s.gens) (d' := s.drawn) (t' := tk + 1) (ch := [e, it]) (fun c hc => ⟨(hf c hc).2.2.2.1, (hf c hc).2.1, (hf c hc).2.2.2.2.1, (hf c hc).2.2.2.2.2⟩) (fun c o _ _ hc q _ => kk' c o hc q) (fun c o _ _ hc q _ => ⟨o.slots, kk' c o hc q⟩)
        (fun c o _ q n => by rw [upd_ne (Nat.ne_of_lt (Heap.lt_size q))]; exact n) (fun c o hc q => ⟨o, kk' c o hc q⟩) (fun c vs q => by rw [upd_ne (ne_of_none q hn)]; exact q) (fun c o vs q => by rw [upd_ne (ne_of_none q hn)]; exact q)
        (fun c ps q => ⟨#[], by rw [upd_ne (ne_of_none q hn), q]; simp⟩) (fun m hm => ?_) (fun c o q => ?_) I.bare
      · obtain ⟨o, es', ep, ho, r⟩ := hm
        exact ⟨o, es', ep, kk' _ o (fun q => (hf _ q).2.1 rfl) ho, r⟩
      · by_cases hcs : c = s.heap.objs.size
        · subst hcs
          rw [upd_same] at q
          cases q
          exact tupOk
        · rw [upd_ne hcs] at q
          refine (I.hok c o q).stay (fun d v hd z => kk' d v ?_ z) (fun d z => by rw [upd_ne (ne_of_none z hn)]; exact z) fun d vs z => by rw [upd_ne (ne_of_none z hn)]; exact z
          rcases hd with hd | hd
          · rw [hd]; exact nt c o q
          · exact nt d _ hd
    have g2 : h''.IsListIter it a (i + 1) := by
      obtain ⟨⟨o, g, r⟩, _⟩ := a2
      exact ⟨o, (sb.2 _ (Ne.symm hei)).trans g, r⟩
    have g1 : IsEnum h'' e it (((i + 1 : Nat)) : Int) y := by
      have : ((i + 1 : Nat) : Int) = (i : Int) + 1 := by omega
      rw [this]
      exact b1
    exact ⟨.ref s.heap.objs.size, _, I1, rfl, ⟨_, x, rfl, hn, rfl, fun xs' q => by rw [qa] at q; cases q; exact hx⟩, ⟨⟨_, g1⟩, g2⟩, fun c hc => by
      have : c ≠ s.heap.objs.size := by
        simp only [List.mem_cons, List.not_mem_nil, or_false] at hc
        rcases hc with rfl | rfl
        · exact Ne.symm hse
        · exact Ne.symm hsi
      rw [upd_ne this]
      exact (hf c hc).1⟩
  done := by
    intro X hP hw hK hc i pins s σ H E I hf st hg
    subst hP hw hK
    obtain ⟨xs, qa, hl⟩ := hg
    obtain ⟨its, rv, pa, _⟩ := I.list (SqL.of (K := X.K) qa)
    obtain ⟨⟨old, h1⟩, h2⟩ := st
    have nia : a ≠ it := fun z => by
      have := (hf it (by simp)).1
      rw [← z, qa] at this
      cases this
    have D : Draws X.prog X.w X.A.in1 it [it, a] its.toArray.size (fun i v => its.toArray[i]? = some v) (fun i h => h.IsListIter it a i ∧ h.IsList a its.toArray) := Draws.list (show X.A.in1.handled = none from I.ok.hd hc) it a nia its.toArray
    have hi : its.toArray.size = i := by
      rw [List.size_toArray, ← rv.length]
      exact hl
    obtain ⟨f0, f1, f2, f3, f4, f5⟩ := hf it (by simp)
    refine wpAny_pyNext_enum_endD D h1 (by rw [hi]; exact ⟨h2, pa.isList⟩) fun h' k => ⟨rfl, I.turned (t' := s.toks) (fun b o hb q => k b o hb q) f0 f1 f3 f4 f5⟩
  self := fun _ _ _ _ _ st h => by
    obtain ⟨⟨old, h1⟩, _⟩ := st
    exact wpAny_pyIter_enum h1 h
noncomputable def iEnumL (ta : TA) : TI := fun σ H R => ta σ H fun vs H1 => ∃ a xs, vs = [.ref a] ∧ H1 a = some (.lst xs) ∧ R (ItEl a) H1
theorem pi_enumL {es : List PySem.Expr} {kk : Nat} {tpos : Pos} {a : PySem.Expr} {ta : TA} {p pos : Pos} (hg : Gl X "enumerate") (hm : X.mg "enumerate" = none) (ha : PA X [a] ta) (hs : starEach [a] X.env = [(false, eval a X.env)] := by rfl) :
    PI X (.Tuple es kk tpos) (.Call (.Name "enumerate" p) [a] [] pos) (iEnumL ta) := by
  intro pins s σ H R I h
  refine Call_ (ld_blt I hg hm PyProof.Rows.boot_enumerate (PyProof.Rows.callWith_type1 (thn (ha pos pins s σ H _ I h) fun us s1 ⟨vs, H1, I1, r1, q1⟩ => ?_) hs rfl))
  obtain ⟨la, xs, e, qa, q⟩ := q1
  subst e
  obtain ⟨u1, rfl, ra⟩ := vals1 r1
  cases ra
  obtain ⟨its, rv, pa, _⟩ := I1.list (SqL.of (K := X.K) qa)
  refine call_enumerate_list pa.isList fun h' z1 z2 _ zk => wpAny_pyIter_enum z1 ?_
  have I2 : Inv X pins σ H1 { s1 with heap := h' } := I1.kept (t' := s1.toks) zk
  refine ⟨s1.heap.objs.size + 1, _, _, _, H1, rfl, I2, turn_enumL (Nat.succ_ne_self _), ⟨⟨_, z1⟩, z2⟩, fun c hc => ?_, q⟩
  have hge : s1.heap.objs.size ≤ c := by
    simp only [List.mem_cons, List.not_mem_nil, or_false] at hc
    rcases hc with rfl | rfl <;> omega
  exact I1.fpOk (H' := H1) hge (I1.hok.fresh hge)
theorem for_enumL {a : Addr} {xs : List V} {g : TG} {tb : TS} {D : Ends} {σ : St} {H : Hp} (Pv : Nat → St → Hp → Prop) (h0 : Pv 0 σ H) (hl : ∀ i σ H, i ≤ xs.length → Pv i σ H → H a = some (.lst xs))
    (hs : ∀ i x σ H p, xs[i]? = some x → Pv i σ H → H p = none → g (.ref p) σ (upd H p (.tup [.int i, x])) fun σ2 H2 => tb { D with nx := Pv (i + 1), ct := Pv (i + 1), bk := D.nx } σ2 H2) (hd : ∀ σ H, Pv xs.length σ H → D.nx σ H) :
    ∃ W : Nat → Nat → St → Hp → Prop, (∃ m, W 0 m σ H) ∧ ∀ i m σ H, W i m σ H →
      ((ItEl a).stop i H ∧ D.nx σ H) ∨ ((ItEl a).go i H ∧ ∃ N : St → Hp → Prop, (∀ σ' H', N σ' H' → ∃ m', m' < m ∧ W (i + 1) m' σ' H') ∧ ∀ x H', (ItEl a).yld i H x H' → g x σ H' fun σ2 H2 => tb { D with nx := N, ct := N, bk := D.nx } σ2 H2) := by
  refine ⟨fun i m σ H => m = xs.length - i ∧ i ≤ xs.length ∧ Pv i σ H, ⟨xs.length, by simp, Nat.zero_le _, h0⟩, ?_⟩
  rintro i m σ H ⟨rfl, hi, p⟩
  have qa := hl i σ H hi p
  rcases Nat.lt_or_ge i xs.length with hlt | hge
  · refine .inr ⟨⟨xs, xs[i], qa, by simp [hlt]⟩, Pv (i + 1), fun σ' H' p' => ⟨xs.length - (i + 1), by omega, rfl, hlt, p'⟩, fun v H' yl => ?_⟩
    obtain ⟨pa, x, rfl, hp, rfl, hx⟩ := yl
    exact hs i x σ H pa (hx xs qa) p hp
  · obtain rfl : i = xs.length := by omega
    exact .inl ⟨⟨xs, qa, rfl⟩, hd σ H p⟩

end
end L2
namespace L2
open PySem PySem.Spec PyProof.Rows
section
variable {a : Addr} {xs : List V} {g : TG} {tb : TS} {D : Ends} {σ : St} {H : Hp}
end
end L2
namespace L2
open PySem PySem.Spec PyProof.Rows
theorem pe_bmK {X : Cx} (K : PySem.W.Frag) {o e : PySem.Expr} {es : List PySem.Expr} {to : TE} {t : TA} {name : Str} {apos cpos : Pos} {T id : String} {r : V → List V → Hp → VK → Prop} (pa : PlainAttrs T) (slot : Slot T name id) (hty : typeOf (.builtin id) = pure (.type "method_descriptor")) (hm : MtR X id r) (ho : PE X o to) (ha : PA X (e :: es) t)
    (hbase : attributeBase o name X.env (eval o X.env) = eval o X.env := by rfl)
    (hfew : ((backTo cpos (starEach (e :: es) X.env)).all (fun x => !x.1) && (backToKw cpos (keywordEach [] X.env)).all (fun x => x.1.isSome) && decide ((e :: es).length + ([] : List Keyword).length + (if ([] : List Keyword).isEmpty then 0 else 1) < 30)) = true := by rfl)
    (hline : (apos.endLine == cpos.line) = true := by rfl) (hs : starEach (e :: es) X.env = (false, eval e X.env) :: starEach es X.env := by rfl) (hplain : (backTo cpos (starEach es X.env)).any (·.1) = false := by rfl) (hK : X.K = K := by rfl) :
    PE X (.Call (.Attribute o name apos) (e :: es) [] cpos) (tBM K T r to t) := by
  subst hK
  exact pe_bm pa slot hty hm ho ha hbase hfew hline hs hplain
end L2
namespace L2
open PySem PySem.Spec PyProof.Rows
section
variable {X : Cx}
end
end L2
namespace L2
open PySem PySem.Spec PyProof.Rows
noncomputable def ItK (t : Bool) (h : Heap) (c a : Addr) (k : Nat) : Prop := if t then h.IsTupleIter c a k else h.IsListIter c a k
noncomputable def SqK (t : Bool) (h : Heap) (a : Addr) (vs : Array Value) : Prop := if t then h.IsTuple a vs else h.IsList a vs
theorem ItK.ext {t : Bool} {h h' : Heap} {c b a : Addr} {k : Nat} (x : ItK t h c a k) (hs : Heap.ExtBut b h h') (n : c ≠ b) : ItK t h' c a k := by
  cases t
  · exact Heap.IsListIter.extBut x hs n
  · exact Heap.IsTupleIter.extBut x hs n
theorem ItK.at {t : Bool} {h h' : Heap} {c a : Addr} {k : Nat} (x : ItK t h c a k) (e : ∀ o, h.get? c = some o → h'.get? c = some o) : ItK t h' c a k := by
  cases t
  · exact Heap.IsListIter.at x e
  · exact Heap.IsTupleIter.at x e
theorem ItK.obj {t : Bool} {h : Heap} {c a : Addr} {k : Nat} (x : ItK t h c a k) : ∃ o, h.get? c = some o ∧ ∀ v, o.data ≠ .cell v := by
  cases t
  · obtain ⟨o, e, _, d⟩ := x
    exact ⟨o, e, fun v z => by rw [d] at z; cases z⟩
  · obtain ⟨o, e, _, d⟩ := x
    exact ⟨o, e, fun v z => by rw [d] at z; cases z⟩
theorem SqK.ext {t : Bool} {h h' : Heap} {b a : Addr} {vs : Array Value} (x : SqK t h a vs) (hs : Heap.ExtBut b h h') (n : a ≠ b) : SqK t h' a vs := by
  cases t
  · exact Heap.IsList.extBut x hs n
  · exact Heap.IsTuple.extBut x hs n
section
variable {prog : Program} {w : World} {A : Around} {E : Value → Shared → Prop} {s : Shared}
end
end L2
namespace L2
open PySem PySem.Spec PyProof.Rows
section
variable {X : Cx}
noncomputable def SqS (t : Bool) (K : PySem.W.Frag) (H : Hp) (a : Addr) (xs : List V) : Prop := if t then SqT K H a xs else SqL K H a xs
theorem SqK.lt {t : Bool} {h : Heap} {a : Addr} {vs : Array Value} (x : SqK t h a vs) : a < h.objs.size := by
  cases t
  · obtain ⟨o, e, _⟩ := x
    exact Heap.lt_size e
  · obtain ⟨o, e, _⟩ := x
    exact Heap.lt_size e
theorem SqS.l {K : PySem.W.Frag} {H : Hp} {a : Addr} {xs : List V} (h : H a = some (.lst xs)) : SqS false K H a xs := SqL.of h
end
end L2
namespace L2
open PySem PySem.Spec PyProof.Rows
section
variable {X : Cx}
end
end L2
namespace L2
open PySem PySem.Spec PyProof.Rows PySem.W
section
variable {prog : Program} {w : World} {A : Around} {E : Value → Shared → Prop} {K : Frag} {h : Heap} {g : Array GenState} {d : Drawn} {t : Nat} {os : OsState} {a C : Addr} {o : Obj}
end
section
variable {X : Cx}
end
end L2
namespace My
open PySem L2
noncomputable def del (H : Hp) (a : Addr) : Hp := fun b => if b = a then none else H b
theorem del_self (H : Hp) (a : Addr) : del H a a = none := if_pos rfl
theorem del_ne {H : Hp} {a b : Addr} (h : b ≠ a) : del H a b = H b := if_neg h
theorem del_sub (H : Hp) (a : Addr) : Same (del H a) H := fun b o e => by
  by_cases h : b = a
  · subst h; rw [del_self] at e; cases e
  · rw [del_ne h] at e; exact e
theorem del_mono {H H' : Hp} (a : Addr) (s : Same H H') : Same (del H a) (del H' a) := fun b o e => by
  by_cases h : b = a
  · subst h; rw [del_self] at e; cases e
  · rw [del_ne h] at e ⊢; exact s _ _ e
theorem del_upd (H : Hp) (a : Addr) (o : HO) : del (upd H a o) a = del H a := by
  funext b
  by_cases h : b = a
  · subst h; rw [del_self, del_self]
  · rw [del_ne h, del_ne h, upd_ne h]
theorem del_new {H : Hp} {a : Addr} (h : H a = none) : del H a = H := by
  funext b
  by_cases z : b = a
  · subst z; rw [del_self, h]
  · exact del_ne z
theorem del_at {H : Hp} {a b : Addr} {o : HO} (e : H b = some o) (h : b ≠ a) : del H a b = some o := by rw [del_ne h]; exact e
section
variable {α : Type} {R : Hp → Addr → α → Prop}
noncomputable def At (R : Hp → Addr → α → Prop) (H : Hp) (bs : List Addr) (xs : List α) : Prop := bs.length = xs.length ∧ ∀ (i : Nat) (b : Addr) (x : α), bs[i]? = some b → xs[i]? = some x → R H b x
noncomputable def Mo (R : Hp → Addr → α → Prop) : Prop := ∀ {H H' : Hp} {b : Addr} {x : α}, Same H H' → R H b x → R H' b x
theorem At.nil {H : Hp} : At R H [] [] := ⟨rfl, fun i b x e => by simp at e⟩
theorem At.keep {H H' : Hp} {bs : List Addr} {xs : List α} (h : At R H bs xs) (m : Mo R) (s : Same H H') : At R H' bs xs := ⟨h.1, fun i b x e1 e2 => m s (h.2 i b x e1 e2)⟩
theorem At.snoc {H : Hp} {bs : List Addr} {xs : List α} {b : Addr} {x : α} (h : At R H bs xs) (r : R H b x) : At R H (bs ++ [b]) (xs ++ [x]) := by
  refine ⟨by simp [h.1], fun i c y e1 e2 => ?_⟩
  have hl := h.1
  rcases Nat.lt_or_ge i bs.length with z | z
  · rw [List.getElem?_append_left z] at e1
    rw [List.getElem?_append_left (by omega)] at e2
    exact h.2 i c y e1 e2
  · rw [List.getElem?_append_right z] at e1
    rw [List.getElem?_append_right (by omega)] at e2
    rw [hl] at e1
    cases hi : i - xs.length with
    | zero => rw [hi] at e1 e2; cases e1; cases e2; exact r
    | succ k => rw [hi] at e1; simp at e1
theorem At.app {H : Hp} {bs cs : List Addr} {xs ys : List α} (h : At R H bs xs) (g : At R H cs ys) : At R H (bs ++ cs) (xs ++ ys) := by
  refine ⟨by simp [h.1, g.1], fun i c y e1 e2 => ?_⟩
  have hl := h.1
  rcases Nat.lt_or_ge i bs.length with z | z
  · rw [List.getElem?_append_left z] at e1
    rw [List.getElem?_append_left (by omega)] at e2
    exact h.2 i c y e1 e2
  · rw [List.getElem?_append_right z] at e1
    rw [List.getElem?_append_right (by omega)] at e2
    rw [hl] at e1
    exact g.2 _ c y e1 e2
theorem At.take {H : Hp} {bs : List Addr} {xs : List α} (h : At R H bs xs) (k : Nat) : At R H (bs.take k) (xs.take k) := by
  refine ⟨by simp [h.1], fun i c y e1 e2 => ?_⟩
  rw [List.getElem?_take] at e1 e2
  split at e1
  · rename_i hk; rw [if_pos hk] at e2; exact h.2 i c y e1 e2
  · cases e1
theorem At.drop {H : Hp} {bs : List Addr} {xs : List α} (h : At R H bs xs) (k : Nat) : At R H (bs.drop k) (xs.drop k) := by
  refine ⟨by simp [h.1], fun i c y e1 e2 => ?_⟩
  rw [List.getElem?_drop] at e1 e2
  exact h.2 _ c y e1 e2
theorem At.set {H : Hp} {bs : List Addr} {xs : List α} {b : Addr} {x : α} (h : At R H bs xs) (k : Nat) (r : R H b x) : At R H (bs.set k b) (xs.set k x) := by
  refine ⟨by simp [h.1], fun i c y e1 e2 => ?_⟩
  rw [List.getElem?_set] at e1 e2
  by_cases hk : k = i
  · subst hk
    have hl := h.1
    by_cases hb : k < bs.length
    · rw [if_pos rfl, if_pos hb] at e1
      rw [if_pos rfl, if_pos (by omega)] at e2
      cases e1; cases e2; exact r
    · rw [if_pos rfl, if_neg hb] at e1; cases e1
  · rw [if_neg hk] at e1 e2
    exact h.2 _ c y e1 e2
theorem At.get {H : Hp} {bs : List Addr} {xs : List α} {i : Nat} {x : α} (h : At R H bs xs) (e : xs[i]? = some x) : ∃ b, bs[i]? = some b ∧ R H b x := by
  have hi : i < bs.length := by rw [h.1]; exact (List.getElem?_eq_some_iff.mp e).1
  exact ⟨bs[i], List.getElem?_eq_getElem hi, h.2 i _ x (List.getElem?_eq_getElem hi) e⟩
theorem At.ref {H : Hp} {bs : List Addr} {xs : List α} {i : Nat} {v : V} (h : At R H bs xs) (e : (bs.map V.ref)[i]? = some v) : ∃ b x, v = .ref b ∧ bs[i]? = some b ∧ xs[i]? = some x ∧ R H b x := by
  rw [List.getElem?_map] at e
  cases q : bs[i]? with
  | none => rw [q] at e; cases e
  | some b =>
    rw [q] at e
    have hi : i < xs.length := by rw [← h.1]; exact (List.getElem?_eq_some_iff.mp q).1
    exact ⟨b, xs[i], (Option.some.inj e).symm, rfl, List.getElem?_eq_getElem hi, h.2 i b _ q (List.getElem?_eq_getElem hi)⟩
theorem ref_at {bs : List Addr} {i : Nat} {b : Addr} (h : bs[i]? = some b) : (bs.map V.ref)[i]? = some (.ref b) := by rw [List.getElem?_map, h]; rfl
noncomputable def TupR (R : Hp → Addr → α → Prop) (H : Hp) (b : Addr) (xs : List α) : Prop := ∃ bs : List Addr, H b = some (.tup (bs.map V.ref)) ∧ At R H bs xs
noncomputable def LstR (R : Hp → Addr → α → Prop) (H : Hp) (b : Addr) (xs : List α) : Prop := ∃ bs : List Addr, H b = some (.lst (bs.map V.ref)) ∧ At R H bs xs
theorem mo_tup (m : Mo R) : Mo (TupR R) := fun s ⟨bs, e, h⟩ => ⟨bs, s _ _ e, h.keep m s⟩
theorem mo_lst (m : Mo R) : Mo (LstR R) := fun s ⟨bs, e, h⟩ => ⟨bs, s _ _ e, h.keep m s⟩
end
noncomputable def FrR (H : Hp) (b : Addr) (q : Rat) : Prop := H b = some (.tup [.int q.num, .int q.den])
theorem mo_fr : Mo FrR := fun s h => s _ _ h
theorem FrR.del {H : Hp} {a b : Addr} {q : Rat} {ys : List V} (h : FrR H b q) (e : H a = some (.lst ys)) : FrR (del H a) b q := del_at h fun z => by rw [z] at h; unfold FrR at h; rw [e] at h; cases h
theorem at_del {H : Hp} {a : Addr} {ys : List V} (e : H a = some (.lst ys)) {bs : List Addr} {qs : List Rat} (h : At FrR H bs qs) : At FrR (del H a) bs qs := ⟨h.1, fun i b x e1 e2 => (h.2 i b x e1 e2).del e⟩
structure Run (J : It) (H1 : Hp) (n : Nat) (f : Nat → Hp → V → Hp → Prop) : Prop where
  go : ∀ i H2, i < n → Same H1 H2 → J.go i H2
  yl : ∀ i H2 x H3, i < n → Same H1 H2 → J.yld i H2 x H3 → f i H2 x H3
  st : ∀ H2, Same H1 H2 → J.stop n H2
section
variable {K : PySem.W.Frag}
theorem run_tup {H : Hp} {a : Addr} {xs : List V} (h : H a = some (.tup xs)) : Run (Itt K a) H xs.length (fun i H2 x H3 => H3 = H2 ∧ xs[i]? = some x) :=
  ⟨fun i H2 hi s => ⟨xs, xs[i], SqT.of (s _ _ h), List.getElem?_eq_getElem hi⟩, fun i H2 x H3 _ s y => ⟨y.1, y.2 _ (SqT.of (s _ _ h))⟩, fun H2 s => ⟨xs, SqT.of (s _ _ h), Nat.le_refl _⟩⟩
theorem run_list {H : Hp} {a : Addr} {xs : List V} (h : H a = some (.lst xs)) : Run (Itl K a) H xs.length (fun i H2 x H3 => H3 = H2 ∧ xs[i]? = some x) :=
  ⟨fun i H2 hi s => ⟨xs, xs[i], SqL.of (s _ _ h), List.getElem?_eq_getElem hi⟩, fun i H2 x H3 _ s y => ⟨y.1, y.2 _ (SqL.of (s _ _ h))⟩, fun H2 s => ⟨xs, SqL.of (s _ _ h), Nat.le_refl _⟩⟩
theorem run_range {H : Hp} {lo : Int} {n : Nat} : Run (Itr lo n) H n (fun i H2 x H3 => H3 = H2 ∧ x = .int (lo + i)) := ⟨fun _ _ hi _ => hi, fun _ _ _ _ _ _ y => y, fun _ _ => Nat.le_refl _⟩
theorem comp_run {J : It} {n : Nat} {H1 : Hp} {f : Nat → Hp → V → Hp → Prop} {acc : Addr} {σ0 : St} {g : TG} {te : TE} {G : Hp → Prop} (r : Run J H1 n f) (hn : n ≤ 1000) (hacc : H1 acc = none) (Iv : Nat → List V → St → Hp → Prop) (h0 : Iv 0 [] σ0 H1)
    (hs : ∀ (i : Nat) (ys : List V) (σ : St) (H2 : Hp) (x : V) (H3 : Hp), i < n → Same H1 H2 → H2 acc = some (.lst ys) → Iv i ys σ (del H2 acc) → f i H2 x H3 → ∀ C : St → VK, (∀ (σ4 : St) (v : V) (H5 : Hp), Same H2 H5 → Iv (i + 1) (ys ++ [v]) σ4 (del H5 acc) → C σ4 v H5) →
      g x σ H3 fun σ4 H4 => te σ4 H4 (C σ4))
    (fin : ∀ (ys : List V) (σ : St) (H2 : Hp), Same H1 H2 → H2 acc = some (.lst ys) → ys.length = n → Iv n ys σ (del H2 acc) → G H2) :
    ∃ W : Nat → Nat → List V → St → Hp → Prop, (∃ m, W 0 m [] σ0 (upd H1 acc (.lst []))) ∧ ∀ i m ys σc H2, W i m ys σc H2 →
      (J.stop i H2 ∧ G H2) ∨ (J.go i H2 ∧ ∀ x H3, J.yld i H2 x H3 → g x σc H3 fun σ4 H4 => te σ4 H4 fun v H5 => H5 acc = some (.lst ys) ∧ ys.length < sizeLine ∧ ∃ m', m' < m ∧ W (i + 1) m' (ys ++ [v]) σ4 (upd H5 acc (.lst (ys ++ [v])))) := by
  refine ⟨fun i m ys σ H2 => m = n - i ∧ i ≤ n ∧ Same H1 H2 ∧ H2 acc = some (.lst ys) ∧ ys.length = i ∧ Iv i ys σ (del H2 acc), ⟨n, rfl, Nat.zero_le _, ?_, upd_same, rfl, ?_⟩, ?_⟩
  · intro b o e; rw [upd_ne (ne_of_none e hacc)]; exact e
  · rw [del_upd, del_new hacc]; exact h0
  · rintro i m ys σc H2 ⟨rfl, hi, sm, ha, hl, iv⟩
    rcases Nat.lt_or_ge i n with hlt | hge
    · refine .inr ⟨r.go i H2 hlt sm, fun x H3 yl => ?_⟩
      refine hs i ys σc H2 x H3 hlt sm ha iv (r.yl i H2 x H3 hlt sm yl) (fun σ4 v H5 => H5 acc = some (.lst ys) ∧ ys.length < sizeLine ∧ ∃ m', m' < n - i ∧ (m' = n - (i + 1) ∧ i + 1 ≤ n ∧ Same H1 (upd H5 acc (.lst (ys ++ [v]))) ∧ (upd H5 acc (.lst (ys ++ [v]))) acc = some (.lst (ys ++ [v])) ∧ (ys ++ [v]).length = i + 1 ∧ Iv (i + 1) (ys ++ [v]) σ4 (del (upd H5 acc (.lst (ys ++ [v]))) acc))) ?_
      intro σ4 v H5 s5 iv5
      refine ⟨s5 _ _ ha, by rw [sizeLine_eq]; omega, n - (i + 1), by omega, rfl, hlt, ?_, upd_same, by simp [hl], ?_⟩
      · intro b o e; rw [upd_ne (ne_of_none e hacc)]; exact s5 _ _ (sm _ _ e)
      · rw [del_upd]; exact iv5
    · obtain rfl : i = n := by omega
      exact .inl ⟨r.st H2 sm, fin ys σc H2 sm ha hl iv⟩
end
end My
namespace My
open PySem L2 PySem.Spec PyProof.Rows
noncomputable def frD (q : Rat) : PyData := .tuple [.int q.num, .int (q.den : Int)]
section
variable {X : Cx} {pins : List (Addr × Obj)} {σ : L2.St} {H : Hp} {s : Shared}
theorem eqv_fr (p q : Rat) : PyData.eqv (frD p) (frD q) = decide (p = q) := by
  have e : PyData.eqv (frD p) (frD q) = (p.num == q.num && (p.den : Int) == (q.den : Int)) := by
    simp [frD, PyData.eqv, PyData.eqvAll]
  rw [e, Bool.eq_iff_iff]
  simp only [Bool.and_eq_true, beq_iff_eq, decide_eq_true_eq]
  constructor
  · rintro ⟨h1, h2⟩; exact Rat.ext h1 (by omega)
  · rintro rfl; exact ⟨rfl, rfl⟩
end
end My
namespace L2
open PySem PySem.Spec PyProof.Rows
section
variable {X : Cx}
noncomputable def rIndex : V → List V → Hp → VK → Prop := fun x vs H Q => ∃ (l : Addr) (ns : List Int) (k : Int), x = .ref l ∧ vs = [.int k] ∧ H l = some (.lst (ns.map V.int)) ∧ k ∈ ns ∧ ns.length ≤ 1000000 ∧ Q (.int ((ns.idxOf k : Nat) : Int)) H
theorem mt_index : MtM X "list.index" rIndex := by
  intro pins s σ H x vs v us Q I rx rv h
  obtain ⟨l, ns, k, rfl, rfl, hH, hk, hz, q⟩ := h
  cases rx
  obtain ⟨u, rfl, ru⟩ := rv.one
  obtain ⟨t, rfl⟩ := ru
  obtain ⟨z, its, n, r, hl, e⟩ := I.lstM hH
  have hi := intsAre_of r
  have hlen := hi.length
  have hj : ns.idxOf k < ns.length := List.idxOf_lt_length_iff.mpr hk
  refine call_meets PySem.F.slot_list_index ⟨_, e, rfl⟩ PySem.F.entry_list_index (PySem.F.args_list_index_2 _ _)
    (MeetsSeq.list_index l its.toArray n (.int k t) (isInt k) (fun y hy => eq_isInt k t hi y (by simpa using hy)) (ns.idxOf k) (by simpa [hlen] using hj) (by omega) ?_ ?_) ⟨e, ⟨.int ((ns.idxOf k : Nat) : Int), H, I.tok _, ⟨_, rfl⟩, q⟩⟩
  · show isInt k its[ns.idxOf k] = true
    rw [isInt_at k hi _ (by omega) hj]
    simpa using List.getElem_idxOf hj
  · intro j hjs hlt
    show isInt k its[j] = false
    rw [isInt_at k hi j (by simpa using hjs) (by omega)]
    exact ne_of_lt_idxOf hlt _
end
end L2
namespace L2
open PySem PySem.Spec PyProof.Rows
section
variable {X : Cx} {K : PySem.W.Frag}
theorem ixT (h : X.K = K := by rfl) : IxR X (rIxT K) := h ▸ ix_tup
theorem ixL (h : X.K = K := by rfl) : IxR X (rIxL K) := h ▸ ix_list
theorem slL (h : X.K = K := by rfl) : SlR X (rSlL K) := h ▸ sl_list
theorem callLen (h : X.K = K := by rfl) : CallR X (.builtin "len") (LenR K) := h ▸ call_len_seq
theorem callTup (h : X.K = K := by rfl) : CallR X (.type "tuple") (fun xs H Q => ∃ p ys, xs = [.ref p] ∧ ((SqL K H p ys ∧ ∀ l, H l = none → Q (.ref l) (upd H l (.tup ys))) ∨ (SqT K H p ys ∧ Q (.ref p) H))) := h ▸ call_tuple_of
theorem pgTup {es : List PySem.Expr} {k : Nat} {t : TGs} {n : Nat} {pos : Pos} (hc : X.calm = true) (g : PGs X es t) (h : X.K = K := by rfl)
    (hn : (assignEach es X.env).length = n := by rfl) (hst : (assignEach es X.env).findIdx? (·.1) = none := by rfl) : PG X (.Tuple es k pos) (gTup K n t) := h ▸ pg_tup hc g hn hst
theorem piTup {tg l : PySem.Expr} {tl : TE} (hl : PE X l tl) (h : X.K = K := by rfl) : PI X tg l (iTup K tl) := h ▸ pi_tup hl
theorem piLst {tg l : PySem.Expr} {tl : TE} (hl : PE X l tl) (h : X.K = K := by rfl) : PI X tg l (iList K tl) := h ▸ pi_list hl
end
end L2
namespace L2
open PySem PySem.Spec PyProof.Rows
section
variable {prog : Program} {w : World} {A : Around} {E : Value → Shared → Prop} {s : Shared}
end
section
variable {X : Cx}
end
end L2
namespace L2
open PySem PySem.Spec PyProof.Rows PySem.SeqAt
section
variable {prog : Program} {w : World} {A : Around} {E : Value → Shared → Prop}
noncomputable abbrev srch (items : Array Value) (x : Value) : Nat → Option PySem.Fin × PUnit → Sem (ForInStep (Option PySem.Fin × PUnit)) := fun i _ => match items[i]? with
  | some y => do let b ← eqBool y x; if b = true then (do let r ← retInt (i : Int); pure (ForInStep.done (some r, ()))) else pure (ForInStep.yield (none, ()))
  | _ => pure (ForInStep.yield (none, ()))
end
section
variable {X : Cx}
noncomputable def rIndexT : V → List V → Hp → VK → Prop := fun x vs H Q => ∃ (l : Addr) (ns : List Int) (k : Int), x = .ref l ∧ vs = [.int k] ∧ H l = some (.tup (ns.map V.int)) ∧ k ∈ ns ∧ Q (.int ((ns.idxOf k : Nat) : Int)) H
end
end L2
namespace HT
open PySem PySem.Spec PyProof.Rows L2
section
variable {prog : Program} {w : World} {A : Around} {E : Value → Shared → Prop} {s : Shared}
end
end HT
namespace L2
open PySem PySem.Spec PyProof.Rows
section
variable {X : Cx} {K : PySem.W.Frag}
end
end L2
namespace L2
open PySem PySem.Spec PyProof.Rows
section
variable {X : Cx}
end
end L2
namespace L2
open PySem PySem.Spec PyProof.Rows
section
variable {X : Cx}
variable {o e : Expr} {es : List Expr} {to : TE} {t : TA} {name : Str} {apos cpos : Pos} {id : String} {r : V → List V → Hp → VK → Prop}
end
end L2
namespace L2
open PySem PySem.Spec PyProof.Rows
inductive RdD (H : Hp) : V → PyData → Prop
  | int (i : Int) : RdD H (.int i) (.int i)
  | bl (b : Bool) : RdD H (.bl b) (.bool b)
  | str (z : Str) : RdD H (.str z) (.str z)
  | tup {p : Addr} {xs : List V} {ds : List PyData} (h : H p = some (.tup xs)) (hl : xs.length = ds.length) (hd : ∀ (i : Nat) (x : V) (d : PyData), xs[i]? = some x → ds[i]? = some d → RdD H x d) : RdD H (.ref p) (.tuple ds)
theorem RdD.keep {H H' : Hp} (s : Same H H') {v : V} {d : PyData} (h : RdD H v d) : RdD H' v d := by
  induction h with
  | int i => exact .int i
  | bl b => exact .bl b
  | str z => exact .str z
  | tup h hl hd ih => exact .tup (s _ _ h) hl ih
section
variable {X : Cx} {pins : List (Addr × Obj)} {σ : L2.St} {H : Hp} {s : Shared}
theorem reads_all (h : Heap) : ∀ {xs : List V} {its : List Value} {ds : List PyData}, Vals xs its → xs.length = ds.length → (∀ (i : Nat) (x : V) (d : PyData), xs[i]? = some x → ds[i]? = some d → ∀ u, RelV x u → Reads h u d []) → ReadsAll h its ds []
  | [], _, ds, .nil, hl, _ => by
    have : ds = [] := List.length_eq_zero_iff.mp hl.symm
    subst this
    exact .nil
  | x :: xs, _, [], _, hl, _ => by simp at hl
  | x :: xs, _, d :: ds, .cons r rs, hl, hd =>
    .cons (as := []) (bs := []) (hd 0 x d rfl rfl _ r) (reads_all h rs (by simpa using hl) fun i x' d' e1 e2 => hd (i+1) x' d' (by simpa using e1) (by simpa using e2))
theorem rdD_of (I : Inv X pins σ H s) {v : V} {d : PyData} (h : RdD H v d) : ∀ u, RelV v u → Reads s.heap u d [] := by
  induction h with
  | int i =>
    intro u r
    obtain ⟨t, rfl⟩ := r
    exact .int _ _
  | bl b =>
    intro u r
    cases r
    exact .bool _
  | str z =>
    intro u r
    obtain ⟨t, rfl⟩ := r
    exact .str _ _
  | tup h hl hd ih =>
    intro u r
    cases r
    obtain ⟨its, rv, tp, _⟩ := I.tuple (SqT.of (K := X.K) h)
    obtain ⟨o, ho, hc, n, hd'⟩ := tp
    exact .tuple ho hc hd' (by simpa using reads_all s.heap rv hl ih)
inductive Shp : Nat → PyData → Prop
  | int {n : Nat} (i : Int) : Shp n (.int i)
  | bl {n : Nat} (b : Bool) : Shp n (.bool b)
  | tup {n : Nat} {ds : List PyData} (h : ∀ d ∈ ds, Shp n d) : Shp (n+1) (.tuple ds)
theorem lay_all : ∀ {ds : List PyData}, (∀ d ∈ ds, d.canLay0 = true) → PyData.canLayAll0 ds = true
  | [], _ => rfl
  | d :: ds, h => by
    simp only [PyData.canLayAll0, Bool.and_eq_true]
    exact ⟨h d (by simp), lay_all fun x hx => h x (by simp [hx])⟩
theorem deep_all {n : Nat} : ∀ {ds : List PyData}, (∀ d ∈ ds, d.depth ≤ n) → PyData.depthAll ds ≤ n
  | [], _ => Nat.zero_le _
  | d :: ds, h => by
    have := deep_all (ds := ds) fun x hx => h x (by simp [hx])
    have := h d (by simp)
    simp only [PyData.depthAll]
    omega
theorem Shp.ok {n : Nat} {d : PyData} (h : Shp n d) : d.canLay0 = true ∧ d.depth ≤ n + 1 := by
  induction h with
  | int i => exact ⟨rfl, by simp [PyData.depth]⟩
  | bl b => exact ⟨rfl, by simp [PyData.depth]⟩
  | @tup n ds h ih =>
    refine ⟨by simp only [PyData.canLay0]; exact lay_all fun d hd => (ih d hd).1, ?_⟩
    have := deep_all fun d hd => (ih d hd).2
    simp only [PyData.depth]
    omega
theorem Shp.shaped {n : Nat} {d : PyData} (h : Shp n d) (hn : n ≤ 60) : SeqAt.shaped d = true := by
  unfold SeqAt.shaped
  rw [Bool.and_eq_true]
  exact ⟨h.ok.1, decide_eq_true (by have := h.ok.2; omega)⟩
end
end L2
namespace L2
open PySem PySem.Spec PyProof.Rows
section
variable {X : Cx}
noncomputable def rEqG : R2 := fun x y H Q => ∃ (d e : PyData), RdD H x d ∧ RdD H y e ∧ (d.canLay0 = true ∧ d.depth ≤ 64) ∧ (e.canLay0 = true ∧ e.depth ≤ 64) ∧ Q (.bl (PyData.eqv d e)) H
noncomputable def rNeG : R2 := fun x y H Q => ∃ (d e : PyData), RdD H x d ∧ RdD H y e ∧ (d.canLay0 = true ∧ d.depth ≤ 64) ∧ (e.canLay0 = true ∧ e.depth ≤ 64) ∧ Q (.bl (!PyData.eqv d e)) H
theorem shp {d : PyData} (h : d.canLay0 = true ∧ d.depth ≤ 64) : SeqAt.shaped d = true := by
  unfold SeqAt.shaped
  rw [Bool.and_eq_true]
  exact ⟨h.1, decide_eq_true h.2⟩
theorem op_eqG (hu : X.A.units + 64 < cLine) : OpR X (compareOp .Eq) rEqG := by
  intro pins s σ H x y v u Q I rx ry h
  obtain ⟨d, e, hx, hy, sd, se, k⟩ := h
  exact eq_dataH (rdD_of I hx v rx) (rdD_of I hy u ry) (shp sd) (shp se) hu ⟨.bl _, H, I, rfl, k⟩
theorem op_neG (hu : X.A.units + 64 < cLine) : OpR X (compareOp .NotEq) rNeG := by
  intro pins s σ H x y v u Q I rx ry h
  obtain ⟨d, e, hx, hy, sd, se, k⟩ := h
  exact ne_dataH (rdD_of I hx v rx) (rdD_of I hy u ry) (shp sd) (shp se) hu ⟨.bl _, H, I, rfl, k⟩
end
end L2
namespace L2
open PySem PySem.Spec PyProof.Rows
section
variable {X : Cx}
end
section
variable {prog : Program} {w : World} {A : Around} {E : Value → Shared → Prop} {s : Shared}
end
section
variable {X : Cx}
end
end L2
namespace L2
open PySem PySem.Spec PyProof.Rows
theorem bt_list : bootBuiltins "list" = some (.type "list") := by decide +kernel
section
variable {X : Cx}
end
end L2
namespace L2
open PySem PySem.Spec PyProof.Rows
section
variable {X : Cx}
theorem call_maxL (hc : X.calm = true) : CallR X (.builtin "max") (fun xs H Q => ∃ (p : Addr) (ns : List Int), xs = [.ref p] ∧ H p = some (.lst (ns.map V.int)) ∧ 0 < ns.length ∧ ∀ m, m ∈ ns → (∀ a ∈ ns, a ≤ m) → Q (.int m) H) := by
  intro pins s σ H xs us Q I r h
  obtain ⟨p, ns, rfl, hp, hne, q⟩ := h
  obtain ⟨u, rfl, r1⟩ := vals1 r
  cases r1
  obtain ⟨_, its, n, rv, _, e⟩ := I.lstM hp
  have pa : s.heap.IsList p its.toArray := ⟨_, e, rfl, n, rfl⟩
  have hlen : its.length = ns.length := by rw [← rv.length, List.length_map]
  have hlt : p < s.heap.objs.size := Heap.lt_size e
  have num : ∀ i v, its.toArray[i]? = some v → ∃ t, v = .int (ns.getD i 0) t ∧ i < ns.length := fun i v hv => by
    rw [List.getElem?_toArray] at hv
    have hi : i < its.length := (List.getElem?_eq_some_iff.mp hv).1
    have hi2 : i < ns.length := by omega
    have hx : (ns.map V.int)[i]? = some (.int ns[i]) := by rw [List.getElem?_map, List.getElem?_eq_getElem hi2]; rfl
    obtain ⟨u, hu, ru⟩ := rv.get hx
    rw [hu] at hv
    obtain rfl : u = v := Option.some.inj hv
    obtain ⟨t, rfl⟩ := ru
    exact ⟨t, by rw [List.getD_eq_getElem?_getD, List.getElem?_eq_getElem hi2]; rfl, hi2⟩
  refine call_max_walk (wpAny_pyIter_list pa ?_)
  refine ⟨s.heap.objs.size, _, _, _, _, _, fun i j => decide (-(ns.getD i 0) < -(ns.getD j 0)), rfl, Walks.list (show X.A.in1.handled = none from I.ok.hd hc) _ p (Nat.ne_of_lt hlt) its.toArray, ⟨⟨_, Heap.get?_push_size _ rfl, rfl, rfl⟩, pa.push _⟩, fun b hb => ?_, by rw [List.size_toArray]; omega, fun i j vi vj s' Q' E' hi hj hQ' => ?_, fun v h' tk hv k => ?_⟩
  · simp only [List.mem_cons, List.not_mem_nil, or_false] at hb
    rw [Heap.size_push]
    rcases hb with rfl | rfl
    · exact Nat.lt_succ_self _
    · exact Nat.lt_succ_of_lt hlt
  · obtain ⟨t1, rfl, _⟩ := num i vi hi
    obtain ⟨t2, rfl, _⟩ := num j vj hj
    refine gt_int ?_
    have e : decide (ns.getD j 0 < ns.getD i 0) = decide (-(ns.getD i 0) < -(ns.getD j 0)) := by
      rw [Bool.eq_iff_iff, decide_eq_true_eq, decide_eq_true_eq]
      omega
    first
      | (rw [e]; exact hQ')
      | (rw [show decide (ns.getD i 0 > ns.getD j 0) = decide (-(ns.getD i 0) < -(ns.getD j 0)) from e]; exact hQ')
  · obtain ⟨t, rfl, hb⟩ := num _ v hv
    obtain ⟨h1, h2⟩ := argBest_lt (fun i => -(ns.getD i 0)) (its.toArray.size - 1)
    refine ⟨.int _, H, I.kept fun b o eb => ?_, ⟨t, rfl⟩, q _ (getD_mem hb) fun a ha => ?_⟩
    · exact k b o (fun z => by
        have : b = s.heap.objs.size := by simpa using z
        exact absurd (Heap.lt_size eb) (by rw [this]; exact Nat.lt_irrefl _)) (Heap.get?_push_of_some _ eb)
    · obtain ⟨j, hj, rfl⟩ := mem_getD ha
      have := h2 j (by rw [List.size_toArray]; omega)
      have h3 : -(ns.getD (argBest (fun i j => decide (-(ns.getD i 0) < -(ns.getD j 0))) (its.toArray.size - 1)) 0) ≤ -(ns.getD j 0) := this
      omega
noncomputable def rInD (neg : Bool) : R2 := fun x y H Q => ∃ (n : Nat) (d : PyData) (ds : List PyData), n ≤ 40 ∧ RdD H x d ∧ RdD H y (.tuple ds) ∧ Shp n d ∧ Shp (n + 1) (.tuple ds) ∧ Q (.bl (if neg then !(ds.any fun y => PyData.eqv y d) else ds.any fun y => PyData.eqv y d)) H
theorem lay_of : ∀ {ds : List PyData}, (PyData.tuple ds).canLay0 = true → PyData.canLayAll0 ds = true := fun {ds} h => h
theorem op_inD (hu : X.A.units + 64 < cLine) : OpR X (compareOp .In) (rInD false) := by
  intro pins s σ H x y v u Q I rx ry h
  obtain ⟨n, d, ds, hn, hx, hy, s1, s2, k⟩ := h
  refine SeqAt.in_tuple_reads (rdD_of I hy u ry) (rdD_of I hx v rx) (lay_of s2.ok.1) s1.ok.1 ?_ ⟨.bl _, H, I, rfl, k⟩
  have := s1.ok.2
  omega
end
end L2
namespace L2
open PySem PySem.Spec PyProof.Rows
section
variable {X : Cx}
end
end L2
namespace L2
open PySem PySem.Spec PyProof.Rows My
section
variable {X : Cx}
noncomputable def LsD (H : Hp) (p : Addr) (ds : List PyData) : Prop := ∃ xs : List V, H p = some (.lst xs) ∧ xs.length = ds.length ∧ ∀ (i : Nat) (x : V) (d : PyData), xs[i]? = some x → ds[i]? = some d → RdD H x d
theorem LsD.reads {pins : List (Addr × Obj)} {σ : L2.St} {H : Hp} {s : Shared} {p : Addr} {ds : List PyData} (I : Inv X pins σ H s) (h : LsD H p ds) : Reads s.heap (.ref p) (.list ds) [p] := by
  obtain ⟨xs, hp, l1, d1⟩ := h
  obtain ⟨its, rv, pl, _⟩ := I.list (SqL.of (K := X.K) hp)
  obtain ⟨o, ho, hc, m, hd'⟩ := pl.isList
  exact .list ho hc hd' (by simpa using reads_all s.heap rv l1 fun i x d e1 e2 => rdD_of I (d1 i x d e1 e2))
theorem shpL {n : Nat} {ds : List PyData} (hn : n ≤ 50) (sh : ∀ d ∈ ds, Shp n d) : SeqAt.shaped (PyData.list ds) = true := by
  unfold SeqAt.shaped
  rw [Bool.and_eq_true]
  refine ⟨by simp only [PyData.canLay0]; exact lay_all fun d hd => (sh d hd).ok.1, decide_eq_true ?_⟩
  have := deep_all (n := n + 1) fun d hd => (sh d hd).ok.2
  simp only [PyData.depth]
  omega
noncomputable def rEqLs (b : Bool) : R2 := fun x y H Q => ∃ (n : Nat) (p q : Addr) (ds es : List PyData), n ≤ 50 ∧ x = .ref p ∧ y = .ref q ∧ LsD H p ds ∧ LsD H q es ∧ (∀ d ∈ ds, Shp n d) ∧ (∀ d ∈ es, Shp n d) ∧ Q (.bl (if b then PyData.eqv (.list ds) (.list es) else !PyData.eqv (.list ds) (.list es))) H
theorem op_neLs (hu : X.A.units + 64 < cLine) : OpR X (compareOp .NotEq) (rEqLs false) := by
  intro pins s σ H x y v u Q I rx ry h
  obtain ⟨n, p, q, ds, es, hn, rfl, rfl, hp, hq, s1, s2, k⟩ := h
  cases rx
  cases ry
  exact ne_dataH (hp.reads I) (hq.reads I) (shpL hn s1) (shpL hn s2) hu ⟨.bl _, H, I, rfl, k⟩
noncomputable def rCount : V → List V → Hp → VK → Prop := fun x vs H Q => ∃ (l : Addr) (ns : List Int) (k : Int), x = .ref l ∧ vs = [.int k] ∧ H l = some (.lst (ns.map V.int)) ∧ Q (.int ((ns.countP (fun y => decide (y = k)) : Nat) : Int)) H
theorem cnt_ints (k : Int) : ∀ {ns : List Int} {its : List Value}, IntsAre its ns → its.countP (isInt k) = ns.countP fun y => decide (y = k)
  | _, _, .nil => rfl
  | _, _, .cons n t h => by
    rw [List.countP_cons, List.countP_cons, cnt_ints k h]
    congr 1
theorem mt_count : MtM X "list.count" rCount := by
  intro pins s σ H x vs v us Q I rx rv h
  obtain ⟨l, ns, k, rfl, rfl, hH, q⟩ := h
  cases rx
  obtain ⟨u, rfl, ru⟩ := rv.one
  obtain ⟨t, rfl⟩ := ru
  obtain ⟨z, its, n, r, hl, e⟩ := I.lstM hH
  have hi := intsAre_of r
  refine call_meets PySem.F.slot_list_count ⟨_, e, rfl⟩ PySem.F.entry_list_count (PySem.F.args_list_count_2 _ _)
    (MeetsSeq.list_count l its.toArray n (.int k t) (isInt k) (fun y hy => eq_isInt k t hi y (by simpa using hy))) ⟨e, ⟨.int _, H, I.tok _, ⟨_, rfl⟩, ?_⟩⟩
  rw [show its.toArray.toList = its from rfl, cnt_ints k hi]
  exact q
end
end L2
namespace L2
open PySem PySem.Spec PyProof.Rows My
section
variable {X : Cx}
noncomputable def rInG (neg : Bool) : R2 := fun x y H Q => ∃ (d : PyData) (ds : List PyData), RdD H x d ∧ RdD H y (.tuple ds) ∧ (d.canLay0 = true ∧ d.depth ≤ 40) ∧ (∀ e ∈ ds, e.canLay0 = true) ∧ Q (.bl (if neg then !(ds.any fun y => PyData.eqv y d) else ds.any fun y => PyData.eqv y d)) H
theorem op_ninG (hu : X.A.units + 64 < cLine) : OpR X (compareOp .NotIn) (rInG true) := by
  intro pins s σ H x y v u Q I rx ry h
  obtain ⟨d, ds, hx, hy, s1, s2, k⟩ := h
  refine SeqAt.notIn_tuple_reads (rdD_of I hy u ry) (rdD_of I hx v rx) (lay_all s2) s1.1 ?_ ⟨.bl _, H, I, rfl, k⟩
  have := s1.2
  omega
end
end L2
namespace L2
open PySem PySem.Spec PyProof.Rows PySem.W
section
variable {prog : Program} {w : World} {A : Around} {E : Value → Shared → Prop} {s : Shared}
theorem sort_one {a : Addr} {n : Nat} {P : PySem.Fin → Shared → Prop} {vs : List Value} (ho : s.heap.get? a = some (seqObj "list" vs.toArray n)) (hl : vs.length < 2) (h : P (.done (.ret .none)) { s with heap := sortedHeap s.heap a vs vs.toArray }) :
    wpAny (model prog w) A (Builtin.«list.sort» ⟨[.ref a], []⟩) P E s := by
  rw [list_sort_plain]
  have ha : a < s.heap.objs.size := Heap.lt_size ho
  refine wpAny_bind (listItems_at ho rfl ?_)
  refine wpAny_bind (listUpdate_at ho rfl ?_ (by rw [sizeLine_eq, List.size_toArray]; omega) (Nat.zero_le _))
  obtain ⟨e1, ho1⟩ : ∃ e1, (s.heap.update a (Obj.mapSeq fun _ => #[])).get? a = some (seqObj "list" #[] e1) := ⟨_, get?_update_seq ho (fun _ => #[])⟩
  refine wpAny_bind (seqEpoch_at ho1 rfl ?_)
  refine wpAny_bind (wpAny_newTuple ?_ (by rw [sizeLine_eq]; simp; omega))
  refine wpAny_bind (wpAny_newList ?_ (Nat.zero_le _))
  refine wpAny_holding ?_
  have ho6 : (((s.heap.update a (Obj.mapSeq fun _ => #[])).push (seqObj "tuple" vs.toArray 0)).push (seqObj "list" #[] 0)).get? a = some (seqObj "list" #[] e1) := Heap.get?_push_of_some _ (Heap.get?_push_of_some _ ho1)
  show wpAny (model prog w) A _ P E { s with heap := ((s.heap.update a (Obj.mapSeq fun _ => #[])).push (seqObj "tuple" vs.toArray 0)).push (seqObj "list" #[] 0) }
  dsimp only
  have h2 : vs.toArray.size < 2 := by simpa using hl
  rw [if_pos h2, if_pos h2]
  refine wpAny_bind (wpAny_pure ?_)
  rw [StateT.run_pure]
  refine wpAny_bind (wpAny_pure ?_)
  dsimp only
  have em : (arrOf (SortSt.mk' general' (vs.toArray.zip vs.toArray) #[] 7 none)).map (·.2) = vs.toArray := by
    show (vs.toArray.zip vs.toArray).map (·.2) = vs.toArray
    match vs, hl with
    | [], _ => simp
    | [v], _ => simp
  rw [em]
  refine wpAny_bind (seqEpoch_at ho6 rfl ?_)
  refine wpAny_bind (listUpdate_at ho6 rfl ?_ (Nat.zero_le _) (by rw [List.size_toArray, sizeLine_eq]; omega))
  simp only [bne_self_eq_false, Bool.false_eq_true, if_false]
  exact wpAny_pure h
theorem sorted_by {l : Addr} {vs : List Value} {Q : Value → Shared → Prop} (hl : s.heap.IsList l vs.toArray) (h64 : vs.length < 64)
    (h : ∀ s' : Shared, (∀ b o, s.heap.get? b = some o → s'.heap.get? b = some o) → s'.heap.objs.size = s.heap.objs.size + 2 → s'.heap.get? (s.heap.objs.size + 1) = some (seqObj "list" vs.toArray 0) → s' = { s with heap := s'.heap } →
      wpAny (model prog w) A.in1.in1 (Builtin.«list.sort» ⟨[.ref (s.heap.objs.size + 1)], []⟩) (fun f s'' => f = .done (.ret .none) ∧ Q (.ref (s.heap.objs.size + 1)) s'') E s') : wpAny (model prog w) A (call (.builtin "sorted") [.ref l]) Q E s := by
  refine Calls.call_function_entry kind_sorted plain_sorted entry_sorted (args_sorted1 _) ?_
  unfold Builtin.«sorted»
  refine wpAny_bind (m := checkCount "sorted" 1 1 _) (wpAny_pure ?_)
  refine wpAny_bind (collect_list hl ?_ (by rw [sizeLine_eq]; omega))
  refine wpAny_bind (wpAny_newList ?_ (by rw [sizeLine_eq]; omega))
  have sz : ((s.heap.push (seqObj "list" #[] 0)).update s.heap.objs.size (Obj.mapSeq (· ++ vs.toArray))).objs.size = s.heap.objs.size + 1 := by rw [Heap.size_update, size_push']
  have hL : (((s.heap.push (seqObj "list" #[] 0)).update s.heap.objs.size (Obj.mapSeq (· ++ vs.toArray))).push (seqObj "list" vs.toArray 0)).get? (s.heap.objs.size + 1) = some (seqObj "list" vs.toArray 0) := by rw [← sz]; exact Heap.get?_push_size _ rfl
  show wpAny _ _ _ _ _ { s with heap := ((s.heap.push (seqObj "list" #[] 0)).update s.heap.objs.size (Obj.mapSeq (· ++ vs.toArray))).push (seqObj "list" vs.toArray 0) }
  rw [sz]
  have keep : ∀ b o, s.heap.get? b = some o → (((s.heap.push (seqObj "list" #[] 0)).update s.heap.objs.size (Obj.mapSeq (· ++ vs.toArray))).push (seqObj "list" vs.toArray 0)).get? b = some o := fun b o q => by
    have hlt : b < s.heap.objs.size := Heap.lt_size q
    rw [Heap.get?_push_ne _ _ _ (by rw [sz]; exact Nat.ne_of_lt (Nat.lt_succ_of_lt hlt)), Heap.get?_update_ne _ _ _ _ (Nat.ne_of_lt hlt), Heap.get?_push_ne _ _ _ (Nat.ne_of_lt hlt)]
    exact q
  refine wpAny_bind (wpAny_holding (wpAny_call_entry slot_list_sort ⟨_, hL, rfl⟩ entry_list_sort (wpAny_mono (h _ keep (by rw [size_push', sz]) hL rfl) ?_ fun _ _ e => e) (args_list_sort _)))
  rintro f s'' ⟨rfl, hq⟩
  exact ⟨_, rfl, wpAny_pure ⟨_, rfl, hq⟩⟩
theorem sortedHeap_old {h : Heap} {a : Addr} {vs : List Value} {out : Array Value} {b : Addr} {o : Obj} (hb : b ≠ a) (e : h.get? b = some o) : (sortedHeap h a vs out).get? b = some o := by
  unfold sortedHeap
  rw [Heap.get?_update_ne _ _ _ _ hb]
  refine Heap.get?_push_of_some _ (Heap.get?_push_of_some _ ?_)
  rw [Heap.get?_update_ne _ _ _ _ hb]; exact e
theorem sortedHeap_at {h : Heap} {a : Addr} {vs : List Value} {out : Array Value} {n : Nat} (ho : h.get? a = some (seqObj "list" vs.toArray n)) : ∃ e, (sortedHeap h a vs out).get? a = some (seqObj "list" out e) := by
  obtain ⟨e1, ho1⟩ : ∃ e1, (h.update a (Obj.mapSeq fun _ => #[])).get? a = some (seqObj "list" #[] e1) := ⟨_, get?_update_seq ho (fun _ => #[])⟩
  exact ⟨_, get?_update_seq (Heap.get?_push_of_some _ (Heap.get?_push_of_some _ ho1)) (fun _ => out)⟩
end
section
variable {X : Cx}
theorem vals_ref : ∀ {bs : List Addr} {us : List Value}, Vals (bs.map V.ref) us → us = bs.map Value.ref
  | [], _, .nil => rfl
  | b :: r, _, .cons (b := u) h t => by
    have h' : u = Value.ref b := h
    rw [h', vals_ref t]
    rfl
theorem vals_refs : ∀ (bs : List Addr), Vals (bs.map V.ref) (bs.map Value.ref)
  | [] => .nil
  | b :: r => .cons rfl (vals_refs r)
end
end L2
namespace L2
open PySem PySem.Spec PyProof.Rows PySem.W
structure LtOk (n : Nat) (lt : Nat → Nat → Bool) : Prop where
  asym : ∀ i j, lt i j = true → lt j i = false
  trans : ∀ i j k, lt i j = true → lt j k = true → lt i k = true
  tot : ∀ i j, i < n → j < n → i ≠ j → lt i j = true ∨ lt j i = true
section
variable {n : Nat} {lt : Nat → Nat → Bool} {cmp : Nat → Nat → (Bool → Shared → Prop) → Shared → Prop} {s : Shared} {p : Array Nat}
structure GoodP (n : Nat) (p : Array Nat) : Prop where
  pm : p.toList.Perm (List.range n)
  sz : p.size = n
  below : ∀ k, k < n → p.getD k 0 < n
  inj : ∀ i j, i < n → j < n → p.getD i 0 = p.getD j 0 → i = j
noncomputable def UpP (lt : Nat → Nat → Bool) (p : Array Nat) (m : Nat) : Prop := ∀ i j, i < j → j < m → lt (p.getD i 0) (p.getD j 0) = true
noncomputable def DnP (lt : Nat → Nat → Bool) (p : Array Nat) (m : Nat) : Prop := ∀ i j, i < j → j < m → lt (p.getD j 0) (p.getD i 0) = true
theorem getD_of {k : Nat} (h : k < p.size) : p[k]? = some (p.getD k 0) := by
  rw [Array.getElem?_eq_getElem h]; simp [h]
theorem getD_at {q : Array Nat} {k j : Nat} (hj : j < p.size) (e : q[k]? = p[j]?) : q.getD k 0 = p.getD j 0 := by
  rw [getD_of hj] at e
  simp only [Array.getD_eq_getD_getElem?, e]
  rfl
theorem goodP_of_perm {q : Array Nat} (g : GoodP n p) (hq : q.Perm p) (hs : q.size = p.size) (f : Nat → Nat) (ff : ∀ k, k < n → f k < n) (fi : ∀ i j, i < n → j < n → f i = f j → i = j) (e : ∀ k, k < n → q.getD k 0 = p.getD (f k) 0) : GoodP n q :=
  ⟨(Array.perm_iff_toList_perm.mp hq).trans g.pm, by rw [hs, g.sz], fun k hk => by rw [e k hk]; exact g.below _ (ff k hk), fun i j hi hj h => by
    rw [e i hi, e j hj] at h
    exact fi i j hi hj (g.inj _ _ (ff i hi) (ff j hj) h)⟩
theorem rev_at (g : GoodP n p) {m : Nat} (hm : m ≤ n) {k : Nat} (hk : k < n) : (kas_rev p 0 m).getD k 0 = p.getD (if k < m then m - 1 - k else k) 0 := by
  have e := getElem?_mirror_all (xs := p) (i := 0) (j := m) (by rw [g.sz]; exact hm) k
  unfold kas_rev
  split
  · rename_i h
    rw [if_pos ⟨Nat.zero_le _, h⟩, Nat.zero_add] at e
    exact getD_at (by rw [g.sz]; omega) e
  · rename_i h
    rw [if_neg (fun z => h z.2)] at e
    exact getD_at (by rw [g.sz]; omega) e
theorem good_rev (g : GoodP n p) {m : Nat} (hm : m ≤ n) : GoodP n (kas_rev p 0 m) :=
  goodP_of_perm g (mirror_perm _ _ _ _) (mirror_size _ _ _ _) (fun k => if k < m then m - 1 - k else k) (fun k hk => by (try dsimp only); split <;> omega) (fun i j hi hj h => by
    try dsimp only at h
    split at h <;> split at h <;> omega) fun k hk => rev_at g hm hk
theorem up_rev (g : GoodP n p) {m : Nat} (hm : m ≤ n) (d : DnP lt p m) : UpP lt (kas_rev p 0 m) m := fun i j hij hj => by
  rw [rev_at g hm (by omega), rev_at g hm (by omega), if_pos (by omega), if_pos hj]
  exact d _ _ (by omega) (by omega)
theorem bub_at (g : GoodP n p) {k l : Nat} (hk : k < n) (hl : l ≤ k) {i : Nat} (hi : i < n) : (bubble p k (k - l)).getD i 0 = p.getD (if i = l then k else if l < i ∧ i ≤ k then i - 1 else i) 0 := by
  have e := getElem?_bubble (xs := p) (src := k) (by rw [g.sz]; exact hk) (k - l) (by omega) i
  rw [show k - (k - l) = l by omega] at e
  split
  · rename_i h
    rw [if_pos h] at e
    exact getD_at (by rw [g.sz]; omega) e
  · rename_i h
    rw [if_neg h] at e
    split
    · rename_i h2
      rw [if_pos h2] at e
      exact getD_at (by rw [g.sz]; omega) e
    · rename_i h2
      rw [if_neg h2] at e
      exact getD_at (by rw [g.sz]; omega) e
theorem good_bub (g : GoodP n p) {k l : Nat} (hk : k < n) (hl : l ≤ k) : GoodP n (bubble p k (k - l)) :=
  goodP_of_perm g (bubble_perm _ _ _) (bubble_size _ _ _) (fun i => if i = l then k else if l < i ∧ i ≤ k then i - 1 else i) (fun i hi => by (try dsimp only); split <;> (try split) <;> omega) (fun i j hi hj h => by
    try dsimp only at h
    split at h <;> split at h <;> (try split at h) <;> (try split at h) <;> omega) fun i hi => bub_at g hk hl hi
theorem asc_wp (hc : ∀ i j C, i < n → j < n → C (lt i j) s → cmp i j C s) (g : GoodP n p) (L : LtOk n lt) : ∀ (f a : Nat) {Q : Nat → Shared → Prop}, 1 ≤ a → a + f ≤ n → UpP lt p a →
    (∀ m, a ≤ m → m ≤ a + f → UpP lt p m → (m = a + f ∨ lt (p.getD m 0) (p.getD (m - 1) 0) = true) → Q m s) → (kas_asc p f a).kasWp cmp Q s
  | 0, a, Q, _, _, u, q => q a (Nat.le_refl _) (Nat.le_refl _) u (.inl rfl)
  | f + 1, a, Q, a1, af, u, q => by
    show cmp _ _ _ s
    refine hc _ _ _ (g.below _ (by omega)) (g.below _ (by omega)) ?_
    cases e : lt (p.getD a 0) (p.getD (a - 1) 0) with
    | true => exact q a (Nat.le_refl _) (by omega) u (.inr e)
    | false =>
      refine asc_wp hc g L f (a + 1) (by omega) (by omega) (fun i j hij hj => ?_) (fun m h1 h2 h3 h4 => q m (by omega) (by omega) h3 (by rcases h4 with z | z; exact .inl (by omega); exact .inr z))
      have st : lt (p.getD (a - 1) 0) (p.getD a 0) = true := by
        rcases L.tot _ _ (g.below a (by omega)) (g.below (a - 1) (by omega)) (fun z => by have := g.inj _ _ (by omega) (by omega) z; omega) with z | z
        · rw [z] at e; cases e
        · exact z
      rcases Nat.lt_or_ge j a with z | z
      · exact u i j hij z
      · obtain rfl : j = a := by omega
        rcases Nat.lt_or_ge i (j - 1) with y | y
        · exact L.trans _ _ _ (u i (j - 1) y (by omega)) st
        · obtain rfl : i = j - 1 := by omega
          exact st
theorem desc_wp (hc : ∀ i j C, i < n → j < n → C (lt i j) s → cmp i j C s) (g : GoodP n p) (L : LtOk n lt) : ∀ (f a : Nat) {Q : Array Nat × Nat × Nat → Shared → Prop}, 1 ≤ a → a + f ≤ n → DnP lt p a →
    (∀ m, a ≤ m → m ≤ a + f → DnP lt p m → Q (p, m, 0) s) → (kas_desc f p a 0).kasWp cmp Q s
  | 0, a, Q, _, _, u, q => q a (Nat.le_refl _) (Nat.le_refl _) u
  | f + 1, a, Q, a1, af, u, q => by
    show cmp _ _ _ s
    refine hc _ _ _ (g.below _ (by omega)) (g.below _ (by omega)) ?_
    cases e : lt (p.getD a 0) (p.getD (a - 1) 0) with
    | true =>
      show (kas_desc f p (a + 1) 0).kasWp cmp Q s
      refine desc_wp hc g L f (a + 1) (by omega) (by omega) (fun i j hij hj => ?_) (fun m h1 h2 h3 => q m (by omega) (by omega) h3)
      rcases Nat.lt_or_ge j a with z | z
      · exact u i j hij z
      · obtain rfl : j = a := by omega
        rcases Nat.lt_or_ge i (j - 1) with y | y
        · exact L.trans _ _ _ e (u i (j - 1) y (by omega))
        · obtain rfl : i = j - 1 := by omega
          exact e
    | false =>
      have st : lt (p.getD (a - 1) 0) (p.getD a 0) = true := by
        rcases L.tot _ _ (g.below a (by omega)) (g.below (a - 1) (by omega)) (fun z => by have := g.inj _ _ (by omega) (by omega) z; omega) with z | z
        · rw [z] at e; cases e
        · exact z
      show cmp _ _ _ s
      refine hc _ _ _ (g.below _ (by omega)) (g.below _ (by omega)) ?_
      rw [st]
      exact q a (Nat.le_refl _) (by omega) u
theorem count_wp (hc : ∀ i j C, i < n → j < n → C (lt i j) s → cmp i j C s) (g : GoodP n p) (L : LtOk n lt) (h2 : 2 ≤ n) {Q : Nat × Array Nat → Shared → Prop} (q : ∀ m p', 1 ≤ m → m ≤ n → GoodP n p' → UpP lt p' m → Q (m, p') s) : (kas_count n p).kasWp cmp Q s := by
  unfold kas_count
  rw [KasT.kasWp_bind]
  refine asc_wp hc g L (n - 1) 1 (Nat.le_refl _) (by omega) (fun i j h1 h2 => by omega) fun m m1 mn u st => ?_
  try dsimp only
  by_cases e : m = n
  · rw [if_pos (by rw [e]; exact beq_self_eq_true n)]
    exact q m p m1 (by omega) g u
  rw [if_neg (by intro z; exact e (by simpa using z))]
  by_cases e1 : m > 1
  · rw [if_pos e1]
    show cmp _ _ _ s
    refine hc _ _ _ (g.below _ (by omega)) (g.below _ (by omega)) ?_
    rw [u 0 (m - 1) (by omega) (by omega)]
    exact q m p m1 (by omega) g u
  rw [if_neg e1]
  obtain rfl : m = 1 := by omega
  have fall : lt (p.getD 1 0) (p.getD 0 0) = true := by
    rcases st with z | z
    · omega
    · exact z
  unfold kas_descPart
  rw [KasT.kasWp_bind]
  refine desc_wp hc g L (n - (1 + 1)) (1 + 1) (by omega) (by omega) (fun i j h1 h2 => ?_) fun m m1 mn d => ?_
  · obtain rfl : j = 1 := by omega
    obtain rfl : i = 0 := by omega
    exact fall
  try dsimp only
  rw [if_neg (Nat.lt_irrefl 0)]
  unfold kas_tail3
  rw [KasT.kasWp_bind]
  have gr := good_rev g (m := m) (by omega)
  refine asc_wp hc gr L (n - m) m (by omega) (by omega) (up_rev g (by omega) d) fun m' h1 h2 u' _ => ?_
  exact q m' _ (by omega) (by omega) gr u'
theorem place_wp (hc : ∀ i j C, i < n → j < n → C (lt i j) s → cmp i j C s) (g : GoodP n p) (L : LtOk n lt) {k : Nat} (hk : k < n) (u : UpP lt p k) : ∀ (f l r : Nat) {Q : Nat → Shared → Prop}, l ≤ r → r ≤ k → r - l ≤ f → (∀ i, i < l → lt (p.getD i 0) (p.getD k 0) = true) → (∀ i, r ≤ i → i < k → lt (p.getD k 0) (p.getD i 0) = true) →
    (∀ m, m ≤ k → (∀ i, i < m → lt (p.getD i 0) (p.getD k 0) = true) → (∀ i, m ≤ i → i < k → lt (p.getD k 0) (p.getD i 0) = true) → Q m s) → (kas_place p k f l r).kasWp cmp Q s
  | 0, l, r, Q, lr, rk, hf, a, b, q => by
    obtain rfl : l = r := by omega
    exact q l rk a b
  | f + 1, l, r, Q, lr, rk, hf, a, b, q => by
    unfold kas_place
    by_cases h : l ≥ r
    · rw [if_pos h]
      obtain rfl : l = r := by omega
      exact q l rk a b
    rw [if_neg h]
    show cmp _ _ _ s
    refine hc _ _ _ (g.below _ (by omega)) (g.below _ (by omega)) ?_
    cases e : lt (p.getD k 0) (p.getD ((l + r) / 2) 0) with
    | true =>
      refine place_wp hc g L hk u f l ((l + r) / 2) (by omega) (by omega) (by omega) a (fun i h1 h2 => ?_) q
      rcases Nat.lt_or_ge ((l + r) / 2) i with z | z
      · exact L.trans _ _ _ e (u _ _ z h2)
      · obtain rfl : i = (l + r) / 2 := by omega
        exact e
    | false =>
      have st : lt (p.getD ((l + r) / 2) 0) (p.getD k 0) = true := by
        rcases L.tot _ _ (g.below k hk) (g.below ((l + r) / 2) (by omega)) (fun z => by have := g.inj _ _ hk (by omega) z; omega) with z | z
        · rw [z] at e; cases e
        · exact z
      refine place_wp hc g L hk u f ((l + r) / 2 + 1) r (by omega) rk (by omega) (fun i hi => ?_) b q
      rcases Nat.lt_or_ge i ((l + r) / 2) with z | z
      · exact L.trans _ _ _ (u _ _ z (by omega)) st
      · obtain rfl : i = (l + r) / 2 := by omega
        exact st
theorem bin_wp (hc : ∀ i j C, i < n → j < n → C (lt i j) s → cmp i j C s) (L : LtOk n lt) : ∀ (f k : Nat) (p : Array Nat) {Q : Array Nat → Shared → Prop}, GoodP n p → k + f = n → UpP lt p k → (∀ p', GoodP n p' → UpP lt p' n → Q p' s) → (kas_bin f p k).kasWp cmp Q s
  | 0, k, p, Q, g, e, u, q => by
    obtain rfl : k = n := by omega
    exact q p g u
  | f + 1, k, p, Q, g, e, u, q => by
    unfold kas_bin
    rw [KasT.kasWp_bind]
    refine place_wp hc g L (show k < n by omega) u k 0 k (Nat.zero_le _) (Nat.le_refl _) (by omega) (fun i hi => by omega) (fun i h1 h2 => by omega) fun l lk ha hb => ?_
    refine bin_wp hc L f (k + 1) _ (good_bub g (by omega) lk) (by omega) (fun i j hij hj => ?_) q
    rw [bub_at g (by omega) lk (by omega), bub_at g (by omega) lk (by omega)]
    by_cases ei : i = l
    · rw [if_pos ei, if_neg (by omega), if_pos (by omega)]
      exact hb _ (by omega) (by omega)
    · rw [if_neg ei]
      by_cases ej : j = l
      · rw [if_neg (by omega), if_pos ej]
        exact ha _ (by omega)
      · rw [if_neg ej]
        by_cases z1 : l < i ∧ i ≤ k
        · rw [if_pos z1, if_pos (by omega)]
          exact u _ _ (by omega) (by omega)
        · rw [if_neg z1]
          by_cases z2 : l < j ∧ j ≤ k
          · rw [if_pos z2]
            exact u _ _ (by omega) (by omega)
          · rw [if_neg z2]
            exact u _ _ hij (by omega)
theorem sort_wp (hc : ∀ i j C, i < n → j < n → C (lt i j) s → cmp i j C s) (L : LtOk n lt) (h2 : 2 ≤ n) {Q : Array Nat → Shared → Prop} (q : ∀ p, GoodP n p → UpP lt p n → Q p s) : (kas_sort n).kasWp cmp Q s := by
  unfold kas_sort
  rw [KasT.kasWp_bind]
  have g0 : GoodP n (List.toArray (List.range n)) := by
    have e : ∀ k, k < n → (List.toArray (List.range n)).getD k 0 = k := fun k hk => by
      simp [Array.getD_eq_getD_getElem?, hk]
    exact ⟨List.Perm.refl _, by simp, fun k hk => by rw [e k hk]; exact hk, fun i j hi hj z => by rwa [e i hi, e j hj] at z⟩
  refine count_wp hc g0 L h2 fun m p' m1 mn g u => ?_
  try dsimp only
  by_cases h : m < n
  · rw [if_pos h, show max m 1 = m by omega]
    exact bin_wp hc L (n - m) m p' g (by omega) u q
  · rw [if_neg h]
    obtain rfl : m = n := by omega
    exact q p' g u
end
end L2
namespace L2
open PySem PySem.Spec PyProof.Rows PySem.W
noncomputable def lexI : List Int → List Int → Bool
  | [], [] => false
  | [], _ :: _ => true
  | _ :: _, [] => false
  | x :: xs, y :: ys => if x = y then lexI xs ys else decide (x < y)
theorem lexI_asym : ∀ {a b : List Int}, lexI a b = true → lexI b a = false
  | [], [], h => by cases h
  | [], _ :: _, _ => rfl
  | _ :: _, [], h => by cases h
  | x :: xs, y :: ys, h => by
    unfold lexI at h ⊢
    by_cases e : x = y
    · rw [if_pos e] at h; rw [if_pos e.symm]; exact lexI_asym h
    · rw [if_neg e] at h; rw [if_neg (fun z => e z.symm)]
      have := decide_eq_true_iff.mp h
      exact decide_eq_false (by omega)
theorem lexI_trans : ∀ {a b c : List Int}, lexI a b = true → lexI b c = true → lexI a c = true
  | [], [], _, h, _ => by cases h
  | [], _ :: _, [], _, h => by cases h
  | [], _ :: _, _ :: _, _, _ => rfl
  | _ :: _, [], _, h, _ => by cases h
  | _ :: _, _ :: _, [], _, h => by cases h
  | x :: xs, y :: ys, z :: zs, h, g => by
    unfold lexI at h g ⊢
    by_cases e : x = y
    · rw [if_pos e] at h
      by_cases e2 : y = z
      · rw [if_pos e2] at g; rw [if_pos (e.trans e2)]; exact lexI_trans h g
      · rw [if_neg e2] at g; rw [if_neg (fun q => e2 (e.symm.trans q)), e]; exact g
    · rw [if_neg e] at h
      have h' := decide_eq_true_iff.mp h
      by_cases e2 : y = z
      · rw [if_neg (fun q => e (q.trans e2.symm)), ← e2]; exact h
      · rw [if_neg e2] at g
        have g' := decide_eq_true_iff.mp g
        rw [if_neg (by omega)]; exact decide_eq_true (by omega)
theorem lexI_tot : ∀ {a b : List Int}, a ≠ b → lexI a b = true ∨ lexI b a = true
  | [], [], h => absurd rfl h
  | [], _ :: _, _ => .inl rfl
  | _ :: _, [], _ => .inr rfl
  | x :: xs, y :: ys, h => by
    unfold lexI
    by_cases e : x = y
    · rw [if_pos e, if_pos e.symm]; exact lexI_tot fun z => h (by rw [e, z])
    · rw [if_neg e, if_neg (fun z => e z.symm)]
      rcases Int.lt_trichotomy x y with z | z | z
      · exact .inl (decide_eq_true z)
      · exact absurd z e
      · exact .inr (decide_eq_true z)
theorem lt_ok {rows : List (List Int)} (nd : rows.Nodup) : LtOk rows.length fun i j => lexI (rows.getD i []) (rows.getD j []) := by
  have g : ∀ i (h : i < rows.length), rows.getD i [] = rows[i] := fun i h => by simp [h]
  refine ⟨fun i j h => lexI_asym h, fun i j k h1 h2 => lexI_trans h1 h2, fun i j hi hj ne => lexI_tot ?_⟩
  rw [g i hi, g j hj]
  intro z
  exact ne ((List.getElem_inj nd).mp z)
section
variable {prog : Program} {w : World} {A : Around} {E : Value → Shared → Prop} {s : Shared}
theorem kat_lexI {b : Bool} {Q : Bool → Shared → Prop} : ∀ {xs ys : List Value} {ns ms : List Int} (i : Nat), IntsAre xs ns → IntsAre ys ms → Q (lexI ns ms) s → KatLex prog w A b (decide (xs.length < ys.length)) Q (xs.zip ys) i s
  | [], [], _, _, i, hx, hy, h => by
    cases hx; cases hy
    exact kat_nil h
  | [], _ :: _, _, _, i, hx, hy, h => by
    cases hx
    cases hy with
    | cons => exact kat_nil h
  | _ :: _, [], _, _, i, hx, hy, h => by
    cases hy
    cases hx with
    | cons => exact kat_nil h
  | x :: xs, y :: ys, _, _, i, hx, hy, h => by
    cases hx with
    | @cons m t _ ns' hx' =>
    cases hy with
    | @cons m' t' _ ms' hy' =>
    refine kat_cons (wpAny_eqBool_int ?_)
    have el : decide ((Value.int m t :: xs).length < (Value.int m' t' :: ys).length) = decide (xs.length < ys.length) := by
      rw [decide_eq_decide]; simp
    rw [el]
    unfold lexI at h
    refine kat_go (fun e => kat_yes (kat_lexI (i + 1) hx' hy' ?_)) (fun e => kat_no ?_)
    · rw [if_pos (by simpa using e)] at h; exact h
    · rw [if_neg (by simpa using e)] at h
      cases e2 : (b && i == 0) with
      | true => exact oneLt_int h
      | false => exact kat_one _ _ (lt_int h)
noncomputable def RowsAt (h : Heap) (bs : List Addr) (rows : List (List Int)) : Prop := bs.length = rows.length ∧ ∀ (i : Nat) (b : Addr) (r : List Int), bs[i]? = some b → rows[i]? = some r → r ≠ [] ∧ ∃ xs : List Value, IsTup h b xs.toArray ∧ IntsAre xs r
theorem RowsAt.firsts {h : Heap} : ∀ {bs : List Addr} {rows : List (List Int)}, RowsAt h bs rows → ∃ fs : List Value, KatTups h (bs.map Value.ref) fs ∧ fs.length = bs.length ∧ ∀ v ∈ fs, ∃ i t, v = Value.int i t
  | [], rows, x => ⟨[], .nil, rfl, fun v hv => by cases hv⟩
  | b :: bs, [], x => by have := x.1; cases this
  | b :: bs, r :: rows, x => by
    obtain ⟨ne, xs, ⟨o, e1, e2, n, e3⟩, hi⟩ := x.2 0 b r rfl rfl
    obtain ⟨fs, k, l, t⟩ := RowsAt.firsts (bs := bs) (rows := rows) ⟨by have := x.1; simpa using this, fun i b' r' h1 h2 => x.2 (i + 1) b' r' (by simpa using h1) (by simpa using h2)⟩
    cases hi with
    | nil => exact absurd rfl ne
    | @cons m tk vs' ns' hr =>
      refine ⟨.int m tk :: fs, .cons e1 e2 e3 (by simp) k, by simp [l], fun v hv => ?_⟩
      rcases List.mem_cons.mp hv with rfl | hv
      · exact ⟨_, _, rfl⟩
      · exact t v hv
end
end L2
namespace L2
open PySem PySem.Spec PyProof.Rows PySem.W
structure WdOk (wd : Int → Str) (S : Int → Prop) : Prop where
  inj : ∀ x y, S x → S y → wd x = wd y → x = y
  lt : ∀ x y, S x → S y → x ≠ y → decide ((wd x).cps.toList < (wd y).cps.toList) = decide (x < y)
noncomputable def LeadAre (wd : Int → Str) (S : Int → Prop) (xs : List Value) (r : List Int) : Prop := ∃ c t ys rest, xs = Value.str (wd c) t :: ys ∧ r = c :: rest ∧ S c ∧ IntsAre ys rest
section
variable {prog : Program} {w : World} {A : Around} {E : Value → Shared → Prop} {s : Shared} {wd : Int → Str} {S : Int → Prop}
theorem kat_lexS (W : WdOk wd S) {Q : Bool → Shared → Prop} {xs ys : List Value} {ns ms : List Int} (hx : LeadAre wd S xs ns) (hy : LeadAre wd S ys ms) (h : Q (lexI ns ms) s) : KatLex prog w A true (decide (xs.length < ys.length)) Q (xs.zip ys) 0 s := by
  obtain ⟨c, t, xs, ns, rfl, rfl, sc, ix⟩ := hx
  obtain ⟨d, u, ys, ms, rfl, rfl, sd, iy⟩ := hy
  refine kat_cons (wpAny_eqBool_str ?_)
  have el : decide ((Value.str (wd c) t :: xs).length < (Value.str (wd d) u :: ys).length) = decide (xs.length < ys.length) := by
    rw [decide_eq_decide]; simp
  rw [el]
  unfold lexI at h
  refine kat_go (fun e => kat_yes (kat_lexI 1 ix iy ?_)) (fun e => kat_no ?_)
  · rw [if_pos (W.inj _ _ sc sd (by simpa using e))] at h; exact h
  · have ne : c ≠ d := fun z => by rw [z] at e; simp at e
    rw [if_neg ne, ← W.lt _ _ sc sd ne] at h
    exact oneLt_str h
noncomputable def LeadsAt (wd : Int → Str) (S : Int → Prop) (h : Heap) (bs : List Addr) (rows : List (List Int)) : Prop := bs.length = rows.length ∧ ∀ (i : Nat) (b : Addr) (r : List Int), bs[i]? = some b → rows[i]? = some r → ∃ xs : List Value, IsTup h b xs.toArray ∧ LeadAre wd S xs r
theorem LeadsAt.firsts {h : Heap} : ∀ {bs : List Addr} {rows : List (List Int)}, LeadsAt wd S h bs rows → ∃ fs : List Value, KatTups h (bs.map Value.ref) fs ∧ fs.length = bs.length ∧ ∀ v ∈ fs, ∃ i t, v = Value.str i t
  | [], rows, x => ⟨[], .nil, rfl, fun v hv => by cases hv⟩
  | b :: bs, [], x => by have := x.1; cases this
  | b :: bs, r :: rows, x => by
    obtain ⟨xs, ⟨o, e1, e2, n, e3⟩, c, t, ys, rest, rfl, _⟩ := x.2 0 b r rfl rfl
    obtain ⟨fs, k, l, tt⟩ := LeadsAt.firsts (bs := bs) (rows := rows) ⟨by have := x.1; simpa using this, fun i b' r' h1 h2 => x.2 (i + 1) b' r' (by simpa using h1) (by simpa using h2)⟩
    refine ⟨.str (wd c) t :: fs, .cons e1 e2 e3 (by simp) k, by simp [l], fun v hv => ?_⟩
    rcases List.mem_cons.mp hv with rfl | hv
    · exact ⟨_, _, rfl⟩
    · exact tt v hv
theorem sort_leads (W : WdOk wd S) {a : Addr} {n : Nat} {P : PySem.Fin → Shared → Prop} {bs : List Addr} {rows : List (List Int)} (ho : s.heap.get? a = some (seqObj "list" (bs.map Value.ref).toArray n)) (hR : LeadsAt wd S s.heap bs rows) (na : ∀ b ∈ bs, b ≠ a) (nd : rows.Nodup) (h2 : 2 ≤ bs.length) (h64 : bs.length < 64)
    (h : ∀ p : Array Nat, GoodP rows.length p → UpP (fun i j => lexI (rows.getD i []) (rows.getD j [])) p rows.length → P (.done (.ret .none)) { s with heap := sortedHeap s.heap a (bs.map Value.ref) (p.toList.map fun i => (bs.map Value.ref).getD i Value.none).toArray }) :
    wpAny (model prog w) A (Builtin.«list.sort» ⟨[.ref a], []⟩) P E s := by
  rw [list_sort_plain]
  have ha : a < s.heap.objs.size := Heap.lt_size ho
  have lb : (bs.map Value.ref).length = bs.length := List.length_map ..
  refine wpAny_bind (listItems_at ho rfl ?_)
  refine wpAny_bind (listUpdate_at ho rfl ?_ (by rw [sizeLine_eq, List.size_toArray]; omega) (Nat.zero_le _))
  obtain ⟨e1, ho1⟩ : ∃ e1, (s.heap.update a (Obj.mapSeq fun _ => #[])).get? a = some (seqObj "list" #[] e1) := ⟨_, get?_update_seq ho (fun _ => #[])⟩
  refine wpAny_bind (seqEpoch_at ho1 rfl ?_)
  refine wpAny_bind (wpAny_newTuple ?_ (by rw [sizeLine_eq]; simp; omega))
  refine wpAny_bind (wpAny_newList ?_ (Nat.zero_le _))
  refine wpAny_holding ?_
  have keepT : ∀ {c : Addr} {o : Obj}, c ≠ a → s.heap.get? c = some o → (((s.heap.update a (Obj.mapSeq fun _ => #[])).push (seqObj "tuple" (bs.map Value.ref).toArray 0)).push (seqObj "list" #[] 0)).get? c = some o := fun {c o} hc e => by
    refine Heap.get?_push_of_some _ (Heap.get?_push_of_some _ ?_)
    rw [Heap.get?_update_ne _ _ _ _ hc]; exact e
  have ho6 : (((s.heap.update a (Obj.mapSeq fun _ => #[])).push (seqObj "tuple" (bs.map Value.ref).toArray 0)).push (seqObj "list" #[] 0)).get? a = some (seqObj "list" #[] e1) := Heap.get?_push_of_some _ (Heap.get?_push_of_some _ ho1)
  show wpAny (model prog w) A _ P E { s with heap := ((s.heap.update a (Obj.mapSeq fun _ => #[])).push (seqObj "tuple" (bs.map Value.ref).toArray 0)).push (seqObj "list" #[] 0) }
  have eS : sortedHeap s.heap a (bs.map Value.ref) = fun out => (((s.heap.update a (Obj.mapSeq fun _ => #[])).push (seqObj "tuple" (bs.map Value.ref).toArray 0)).push (seqObj "list" #[] 0)).update a (Obj.mapSeq fun _ => out) := rfl
  rw [eS] at h
  have hR1 : LeadsAt wd S (((s.heap.update a (Obj.mapSeq fun _ => #[])).push (seqObj "tuple" (bs.map Value.ref).toArray 0)).push (seqObj "list" #[] 0)) bs rows := ⟨hR.1, fun i b r h1 h2 => by
    obtain ⟨xs, ⟨o, e1, e2⟩, hi⟩ := hR.2 i b r h1 h2
    exact ⟨xs, ⟨o, keepT (na b (List.mem_of_getElem? h1)) e1, e2⟩, hi⟩⟩
  generalize ((s.heap.update a (Obj.mapSeq fun _ => #[])).push (seqObj "tuple" (bs.map Value.ref).toArray 0)).push (seqObj "list" #[] 0) = h1 at ho6 h hR1
  dsimp only
  have hn2 : ¬ (bs.map Value.ref).toArray.size < 2 := by rw [List.size_toArray]; omega
  rw [if_neg hn2, if_neg hn2]
  obtain ⟨fs, kt, lf, tf⟩ := hR1.firsts
  refine wpAny_bind (kat_kind (T := .type "str") kt (by omega) (fun v hv => ?_) (by rfl) ?_)
  · obtain ⟨i, t, rfl⟩ := tf v hv
    exact .now
  have lr : rows.length = bs.length := hR.1.symm
  refine wpAny_bind (wpAny_mono (kat_run (ks := bs.map Value.ref) (vs := bs.map Value.ref) (Q := fun st' s' => s' = { s with heap := h1 } ∧ ∃ p : Array Nat, GoodP rows.length p ∧ UpP (fun i j => lexI (rows.getD i []) (rows.getD j [])) p rows.length ∧ arrOf st' = p.map (kas_item ((bs.map Value.ref).toArray.zip (bs.map Value.ref).toArray)) ∧ failedOf st' = none)
    (G := fun p s' => s' = { s with heap := h1 } ∧ GoodP rows.length p ∧ UpP (fun i j => lexI (rows.getD i []) (rows.getD j [])) p rows.length)
    rfl (by omega) (by omega) (fun p' st' s' a1 a2 a3 a4 => ⟨a4.1, p', a4.2.1, a4.2.2, a2, a3⟩) ?_) ?_ fun _ _ e => e)
  · rw [lb, ← lr]
    refine sort_wp (s := { s with heap := h1 }) (lt := fun i j => lexI (rows.getD i []) (rows.getD j [])) (fun i j C hi hj hC => ?_) (lt_ok nd) (by omega) fun p g u => ⟨rfl, g, u⟩
    have gb : ∀ i, i < rows.length → ∃ b, bs[i]? = some b ∧ (bs.map Value.ref).getD i Value.none = Value.ref b := fun i hi => ⟨bs[i]'(by omega), List.getElem?_eq_getElem (by omega), by simp [show i < bs.length by omega]⟩
    obtain ⟨bi, ebi, gbi⟩ := gb i hi
    obtain ⟨bj, ebj, gbj⟩ := gb j hj
    obtain ⟨xs, ⟨ox, x1, x2, nx, x3⟩, hxs⟩ := hR1.2 i bi rows[i] ebi (List.getElem?_eq_getElem hi)
    obtain ⟨ys, ⟨oy, y1, y2, ny, y3⟩, hys⟩ := hR1.2 j bj rows[j] ebj (List.getElem?_eq_getElem hj)
    unfold kas_ask
    rw [gbi, gbj]
    refine kat_lt (s := { s with heap := h1 }) x1 x3 y1 y3 ?_
    have := kat_lexS (prog := prog) (w := w) (A := A) (s := { s with heap := h1 }) (Q := C) W hxs hys (by simpa [hi, hj] using hC)
    rw [show (Value.type "str" != Value.type "tuple") = true by decide]
    simpa using this
  rintro ⟨⟨⟩, st'⟩ s' ⟨rfl, p, hp, hu, har, hf⟩
  dsimp only
  have hout := kat_snds (ks := bs.map Value.ref) (vs := bs.map Value.ref) rfl har
  rw [hout]
  refine wpAny_bind (seqEpoch_at ho6 rfl ?_)
  refine wpAny_bind (listUpdate_at ho6 rfl ?_ (Nat.zero_le _) (by rw [List.size_toArray, List.length_map, Array.length_toList, hp.sz, sizeLine_eq]; omega))
  rw [hf]
  simp only [bne_self_eq_false, Bool.false_eq_true, if_false]
  exact wpAny_pure (h p hp hu)
end
theorem map_getDs {α : Type} (l : List α) (d : α) : (List.range l.length).map (fun i => l.getD i d) = l := by
  refine List.ext_getElem (by simp) fun i h1 h2 => ?_
  simp at h1
  simp [h1]
theorem one_rowS {rows : List (List Int)} (h : rows.length < 2) : rows.Pairwise (fun a b => lexI a b = true) := by
  match rows, h with
  | [], _ => exact .nil
  | [x], _ => exact List.pairwise_singleton _ _
noncomputable def TupS (wd : Int → Str) (S : Int → Prop) (H : Hp) (b : Addr) (r : List Int) : Prop := ∃ c rest, r = c :: rest ∧ S c ∧ H b = some (.tup (.str (wd c) :: rest.map V.int))
theorem mo_tupS {wd : Int → Str} {S : Int → Prop} : My.Mo (TupS wd S) := fun s ⟨c, rest, e, sc, h⟩ => ⟨c, rest, e, sc, s _ _ h⟩
section
variable {X : Cx} {pins : List (Addr × Obj)} {σ : St} {H : Hp} {s : Shared} {wd : Int → Str} {S : Int → Prop}
theorem isTupS_of {b : Addr} {r : List Int} (I : Inv X pins σ H s) (h : TupS wd S H b r) : ∃ xs : List Value, IsTup s.heap b xs.toArray ∧ LeadAre wd S xs r := by
  obtain ⟨c, rest, rfl, sc, h⟩ := h
  obtain ⟨its, rv, tp, _⟩ := I.tuple (SqT.of (K := X.K) h)
  cases rv with
  | @cons _ u _ us r1 r2 =>
    obtain ⟨t, rfl⟩ := (show ∃ t, u = Value.str (wd c) t from r1)
    exact ⟨_, tp, c, t, us, rest, rfl, rfl, sc, intsAre_of r2⟩
theorem leads_out {R : Hp → Addr → List Int → Prop} {H : Hp} {bs : List Addr} {rows : List (List Int)} (hA : My.At R H bs rows) {p : Array Nat} (g : GoodP rows.length p) (u : UpP (fun i j => lexI (rows.getD i []) (rows.getD j [])) p rows.length) :
    My.At R H (p.toList.map fun i => bs.getD i 0) (p.toList.map fun i => rows.getD i []) ∧ (p.toList.map fun i => rows.getD i []).Perm rows ∧ (p.toList.map fun i => rows.getD i []).Pairwise (fun a b => lexI a b = true) ∧ (p.toList.map fun i => (bs.map Value.ref).getD i Value.none) = (p.toList.map fun i => bs.getD i 0).map Value.ref := by
  have lr : bs.length = rows.length := hA.1
  have lt : ∀ i ∈ p.toList, i < rows.length := fun i hi => List.mem_range.mp (g.pm.mem_iff.mp hi)
  refine ⟨⟨by simp, fun i b x e1 e2 => ?_⟩, ?_, ?_, ?_⟩
  · rw [List.getElem?_map] at e1 e2
    obtain ⟨k, ek, rfl⟩ := Option.map_eq_some_iff.mp e1
    rw [ek] at e2
    obtain rfl := Option.some.inj e2
    have hk := lt k (List.mem_of_getElem? ek)
    refine hA.2 k _ _ ?_ ?_
    · rw [List.getD_eq_getElem?_getD, List.getElem?_eq_getElem (by omega)]; rfl
    · show rows[k]? = some (rows.getD k [])
      rw [List.getD_eq_getElem?_getD, List.getElem?_eq_getElem hk]; rfl
  · refine (g.pm.map _).trans ?_
    rw [map_getDs]
  · rw [List.pairwise_map, List.pairwise_iff_getElem]
    intro i j hi hj hij
    have sz : p.toList.length = rows.length := by rw [Array.length_toList, g.sz]
    have := u i j hij (by omega)
    have e : ∀ k (hk : k < p.toList.length), p.getD k 0 = p.toList[k] := fun k hk => by
      have hk' : k < p.size := by rwa [Array.length_toList] at hk
      simp [hk']
    dsimp only at this
    rwa [e i hi, e j hj] at this
  · rw [List.map_map]
    refine List.map_congr_left fun i hi => ?_
    have := lt i hi
    simp [show i < bs.length by omega]
theorem call_sortS' (W : WdOk wd S) : CallR X (.builtin "sorted") (fun xs H Q => ∃ (p : Addr) (bs : List Addr) (rows : List (List Int)), xs = [.ref p] ∧ H p = some (.lst (bs.map V.ref)) ∧ My.At (TupS wd S) H bs rows ∧ rows.Nodup ∧ rows.length < 64 ∧
    ∀ (l : Addr) (cs : List Addr) (rs : List (List Int)), H l = none → My.At (TupS wd S) H cs rs → rs.Perm rows → rs.Pairwise (fun a b => lexI a b = true) → Q (.ref l) (upd H l (.lst (cs.map V.ref)))) := by
  intro pins s σ H xs us Q I r h
  obtain ⟨p, bs, rows, rfl, hp, hA, nd, h64, q⟩ := h
  obtain ⟨u, rfl, r1⟩ := vals1 r
  cases r1
  obtain ⟨its, rv, pl, _⟩ := I.list (SqL.of (K := X.K) hp)
  obtain rfl := vals_ref rv
  have lr : bs.length = rows.length := hA.1
  have hn : H (s.heap.objs.size + 1) = none := I.hok.fresh (Nat.le_succ _)
  refine sorted_by pl.isList (by rw [List.length_map]; omega) fun s' keep hsz hD es => ?_
  have fin : ∀ (cs : List Addr) (rs : List (List Int)), My.At (TupS wd S) H cs rs → rs.Perm rows → rs.Pairwise (fun a b => lexI a b = true) → EP X pins σ Q (.ref (s.heap.objs.size + 1)) { s' with heap := sortedHeap s'.heap (s.heap.objs.size + 1) (bs.map Value.ref) (cs.map Value.ref).toArray } := fun cs rs h1 h2 h3 => by
    obtain ⟨e, he⟩ := sortedHeap_at (out := (cs.map Value.ref).toArray) hD
    have lc : cs.length = rows.length := h1.1.trans h2.length_eq
    have hz : (cs.map V.ref).length ≤ sizeLine := by rw [List.length_map, sizeLine_eq]; omega
    refine ⟨.ref (s.heap.objs.size + 1), _, ?_, rfl, q _ cs rs hn h1 h2 h3⟩
    rw [es]
    exact I.laid (t' := s.toks) (fun b o e => sortedHeap_old (Nat.ne_of_lt (Nat.lt_succ_of_lt (Heap.lt_size e))) (keep b o e)) (Nat.le_succ _) (show ObjOk X.prog X.w _ _ _ (.lst (cs.map V.ref)) from ⟨hz, cs.map Value.ref, e, vals_refs cs, he⟩)
  rcases Nat.lt_or_ge rows.length 2 with z | z
  · exact sort_one hD (by rw [List.length_map]; omega) ⟨rfl, fin bs rows hA (List.Perm.refl _) (one_rowS z)⟩
  have low : ∀ (i : Nat) (b : Addr) (r : List Int), bs[i]? = some b → rows[i]? = some r → b < s.heap.objs.size := fun i b r h1 h2 => by
    obtain ⟨ys, ⟨o, e1, _⟩, _⟩ := isTupS_of I (hA.2 i b r h1 h2)
    exact Heap.lt_size e1
  refine sort_leads W hD ⟨lr, fun i b r h1 h2 => ?_⟩ (fun b hb => ?_) nd (by omega) (by omega) fun pp g u => ⟨rfl, ?_⟩
  · obtain ⟨ys, ⟨o, e1, e2⟩, hi⟩ := isTupS_of I (hA.2 i b r h1 h2)
    exact ⟨ys, ⟨o, keep _ _ e1, e2⟩, hi⟩
  · obtain ⟨i, hi, rfl⟩ := List.getElem_of_mem hb
    exact Nat.ne_of_lt (Nat.lt_succ_of_lt (low i _ _ (List.getElem?_eq_getElem hi) (List.getElem?_eq_getElem (by omega))))
  · obtain ⟨a1, a2, a3, a4⟩ := leads_out hA g u
    rw [a4]
    exact fin _ _ a1 a2 a3
end
end L2
namespace L2
open PySem PySem.Spec PyProof.Rows
noncomputable def tMeth2 (C1 C2 : Addr) (m : Str) (sp1 sp2 : Sp) (E : XK) (ta : TE) (t : TA) : TE := fun σ H Q => ta σ H fun x H1 => ∃ a dx fs, x = .ref a ∧ fs.lookup m = none ∧
  ((H1 a = some (.ins C1 dx fs) ∧ t σ H1 fun vs H2 => sp1 (x :: (vs ++ [])) H2 Q E) ∨ (H1 a = some (.ins C2 dx fs) ∧ t σ H1 fun vs H2 => sp2 (x :: (vs ++ [])) H2 Q E))
section
variable {X : Cx} {CX1 CX2 : CXT} {i1 i2 : Nat} {f1 f2 C1 C2 : Addr} {fd1 fd2 : FuncData} {ps1 ps2 : List Str} {sp1 sp2 : Sp} {E : XK} {m : Str} {pos apos : Pos} {e o : PySem.Expr} {es : List PySem.Expr} {ta : TE} {t : TA}
theorem pe_meth2 {pl : Sem Bool} (he : PE X o ta) (c1 : Cls X.K C1) (c2 : Cls X.K C2) (hm1 : Meth X.K C1 m f1) (hm2 : Meth X.K C2 m f2) (F1 : FnOk X.prog X.w X.K X.mg X.base CX1 i1 f1 fd1 ps1 sp1) (F2 : FnOk X.prog X.w X.K X.mg X.base CX2 i2 f2 fd2 ps2 sp2) (hr1 : Room i1 X.A) (hr2 : Room i2 X.A)
    (hb1 : Binds X.K fd1 ps1 []) (hb2 : Binds X.K fd2 ps2 []) (hx1 : Passes CX1 X E) (hx2 : Passes CX2 X E) (ha : PA X (e :: es) t)
    (hst : starEach (e :: es) X.env = (false, eval e X.env) :: starEach es X.env := by rfl) (hpl : (backTo pos (starEach es X.env)).any (·.1) = false := by rfl)
    (ht : eval (.Call (.Attribute o m apos) (e :: es) [] pos) X.env = (do
      let ov ← eval o X.env
      standAt apos.atName
      let (f, first) ← holding [ov] (getMethod ov m pl)
      callWith pos f first (backTo pos (starEach (e :: es) X.env)) (backToKw pos (keywordEach [] X.env))) := by rfl) :
    PE X (.Call (.Attribute o m apos) (e :: es) [] pos) (tMeth2 C1 C2 m sp1 sp2 E ta t) := by
  intro pins s σ H Q I h
  refine PySem.W.methodCall_KW (pl := pl) (thn (he pins s σ H _ I h) fun u s1 ⟨x, H1, I1, rx, a, dx, fs, ex, l, q⟩ => ?_) ht
  subst ex
  obtain rfl : u = Value.ref a := rx
  rcases q with ⟨ea, q⟩ | ⟨ea, q⟩
  · refine getmeth_ok I1 ea c1 hm1 l ?_
    refine PySem.W.callWith_K (first := [.ref a]) (h₀ := X.base) I.ok.mod.kin hm1.kp (thn (ha pos pins s1 σ H1 _ I1 q) fun us s2 ⟨vs, H2, I2, r, q2⟩ => ⟨I2.kIn, ?_⟩) hst hpl
    exact run_fn (us := .ref a :: us) (vs := .ref a :: vs) F1 hr1 hb1 .nil hx1 I2 (.cons rfl r) q2
  · refine getmeth_ok I1 ea c2 hm2 l ?_
    refine PySem.W.callWith_K (first := [.ref a]) (h₀ := X.base) I.ok.mod.kin hm2.kp (thn (ha pos pins s1 σ H1 _ I1 q) fun us s2 ⟨vs, H2, I2, r, q2⟩ => ⟨I2.kIn, ?_⟩) hst hpl
    exact run_fn (us := .ref a :: us) (vs := .ref a :: vs) F2 hr2 hb2 .nil hx2 I2 (.cons rfl r) q2
theorem pe_meth20 {pl : Sem Bool} (he : PE X o ta) (c1 : Cls X.K C1) (c2 : Cls X.K C2) (hm1 : Meth X.K C1 m f1) (hm2 : Meth X.K C2 m f2) (F1 : FnOk X.prog X.w X.K X.mg X.base CX1 i1 f1 fd1 ps1 sp1) (F2 : FnOk X.prog X.w X.K X.mg X.base CX2 i2 f2 fd2 ps2 sp2) (hr1 : Room i1 X.A) (hr2 : Room i2 X.A)
    (hb1 : Binds X.K fd1 ps1 []) (hb2 : Binds X.K fd2 ps2 []) (hx1 : Passes CX1 X E) (hx2 : Passes CX2 X E)
    (ht : eval (.Call (.Attribute o m apos) [] [] pos) X.env = (do
      let ov ← eval o X.env
      standAt apos.atName
      let (f, first) ← holding [ov] (getMethod ov m pl)
      callWith pos f first (backTo pos (starEach [] X.env)) (backToKw pos (keywordEach [] X.env))) := by rfl) :
    PE X (.Call (.Attribute o m apos) [] [] pos) (tMeth2 C1 C2 m sp1 sp2 E ta tNil) := by
  intro pins s σ H Q I h
  refine PySem.W.methodCall_KW (pl := pl) (thn (he pins s σ H _ I h) fun u s1 ⟨x, H1, I1, rx, a, dx, fs, ex, l, q⟩ => ?_) ht
  subst ex
  obtain rfl : u = Value.ref a := rx
  rcases q with ⟨ea, q⟩ | ⟨ea, q⟩
  · refine getmeth_ok I1 ea c1 hm1 l ?_
    exact PySem.W.callWith_K0 (first := [.ref a]) I1.kIn hm1.kp (run_fn (us := [.ref a]) (vs := [.ref a]) F1 hr1 hb1 .nil hx1 I1 (.cons rfl .nil) q)
  · refine getmeth_ok I1 ea c2 hm2 l ?_
    exact PySem.W.callWith_K0 (first := [.ref a]) I1.kIn hm2.kp (run_fn (us := [.ref a]) (vs := [.ref a]) F2 hr2 hb2 .nil hx2 I1 (.cons rfl .nil) q)
end
end L2
namespace L2
open PySem PySem.Spec PyProof.Rows
noncomputable def tChain3 (r r' r'' : R2) (ta tb tc td : TE) : TE := fun σ H Q => ta σ H fun x H1 => tb σ H1 fun y H2 => r x y H2 fun z H3 => ∃ k, z = .bl k ∧
  (if k = true then tc σ H3 fun w' H4 => r' y w' H4 fun z' H5 => ∃ k', z' = .bl k' ∧ (if k' = true then td σ H5 fun v' H6 => r'' w' v' H6 Q else Q (.bl false) H5) else Q (.bl false) H3)
section
variable {X : Cx} {a b c d : PySem.Expr} {ta tb tc td : TE} {pos : Pos}
theorem pt_chain3 {op op' op'' : CmpOp} {r r' r'' : R2} (ho : OpR X (compareOp op) r) (ho' : OpR X (compareOp op') r') (ho'' : OpR X (compareOp op'') r'') (ha : PE X a ta) (hb : PE X b tb) (hc : PE X c tc) (hd : PE X d td)
    (hm : lastMarks [op, op', op''] [b, c, d] = false := by with_unfolding_all rfl) : PT X (.Compare a [op, op', op''] [b, c, d] pos) (tTest (tChain3 r r' r'' ta tb tc td)) := by
  intro pins s σ H Q I h
  refine isTrue_chain (thn (ha pins s σ H _ I h) fun v s1 ⟨x, H1, I1, r1, q1⟩ => test_link (thn (hb pins s1 σ H1 _ I1 q1) fun u s2 ⟨y, H2, I2, r2, q2⟩ =>
    thn (ho pins s2 σ H2 x y v u _ I2 r1 r2 q2) fun d s3 ⟨z, H3, I3, r3, k, e, q3⟩ => ?_)) hm
  subst e
  cases r3
  refine wpAny_truthy_bool ?_
  cases k with
  | false =>
    obtain ⟨k', e', q'⟩ := q3
    cases e'
    exact ite_ff ⟨H3, I3, q'⟩
  | true =>
    refine ite_tt (test_link (thn (hc pins s3 σ H3 _ I3 q3) fun w' s4 ⟨z', H4, I4, r4, q4⟩ => thn (ho' pins s4 σ H4 y z' u w' _ I4 r2 r4 q4) fun d' s5 ⟨z2, H5, I5, r5, k2, e2, q5⟩ => ?_))
    subst e2
    cases r5
    refine wpAny_truthy_bool ?_
    cases k2 with
    | false =>
      obtain ⟨k', e', q'⟩ := q5
      cases e'
      exact ite_ff ⟨H5, I5, q'⟩
    | true =>
      refine ite_tt (test_last (thn (hd pins s5 σ H5 _ I5 q5) fun w6 s6 ⟨z6, H6, I6, r6, q6⟩ => thn (ho'' pins s6 σ H6 z' z6 w' w6 _ I6 r4 r6 q6) fun d7 s7 ⟨z7, H7, I7, r7, k7, e7, q7⟩ => ?_))
      subst e7
      cases r7
      exact wpAny_truthy_bool ⟨H7, I7, q7⟩
end
end L2
namespace Mth
theorem gcd_fmod (a b : Int) : Int.gcd b (a.fmod b) = Int.gcd a b := by
  rw [Int.fmod_def]
  have e : a - b * a.fdiv b = a + b * (-(a.fdiv b)) := by rw [Int.mul_neg, Int.sub_eq_add_neg]
  rw [e, Int.gcd_add_mul_left_right, Int.gcd_comm]
noncomputable def part (t b : Int) : Int := if b < 0 then -(Int.gcd t b : Int) else (Int.gcd t b : Int)
noncomputable def frac (t b : Int) : Int × Int := (t.fdiv (part t b), b.fdiv (part t b))
theorem gcd_pos (t b : Int) (h : b ≠ 0) : 0 < Int.gcd t b := Int.gcd_pos_of_ne_zero_right _ h
theorem part_ne (t b : Int) (h : b ≠ 0) : part t b ≠ 0 := by
  have := gcd_pos t b h
  unfold part; split <;> omega
theorem part_dvd_l (t b : Int) : part t b ∣ t := by
  unfold part; split
  · exact Int.neg_dvd.mpr (Int.gcd_dvd_left t b)
  · exact Int.gcd_dvd_left t b
theorem part_dvd_r (t b : Int) : part t b ∣ b := by
  unfold part; split
  · exact Int.neg_dvd.mpr (Int.gcd_dvd_right t b)
  · exact Int.gcd_dvd_right t b
theorem frac_l (t b : Int) : (frac t b).1 * part t b = t := by
  show t.fdiv (part t b) * part t b = t
  rw [Int.fdiv_eq_ediv_of_dvd (part_dvd_l t b), Int.ediv_mul_cancel (part_dvd_l t b)]
theorem frac_r (t b : Int) : (frac t b).2 * part t b = b := by
  show b.fdiv (part t b) * part t b = b
  rw [Int.fdiv_eq_ediv_of_dvd (part_dvd_r t b), Int.ediv_mul_cancel (part_dvd_r t b)]
theorem frac_pos (t b : Int) (h : b ≠ 0) : 0 < (frac t b).2 := by
  have e := frac_r t b
  have g := gcd_pos t b h
  rcases Int.lt_or_lt_of_ne h with h1 | h1
  · have hp : part t b < 0 := by unfold part; rw [if_pos h1]; omega
    rcases Int.lt_or_le 0 (frac t b).2 with q | q
    · exact q
    · have : 0 ≤ (frac t b).2 * part t b := Int.mul_nonneg_of_nonpos_of_nonpos q (Int.le_of_lt hp)
      omega
  · have hp : 0 < part t b := by unfold part; rw [if_neg (by omega)]; omega
    rcases Int.lt_or_le 0 (frac t b).2 with q | q
    · exact q
    · have : (frac t b).2 * part t b ≤ 0 := Int.mul_nonpos_of_nonpos_of_nonneg q (Int.le_of_lt hp)
      omega
theorem frac_cross (t b : Int) : (frac t b).1 * b = t * (frac t b).2 := by
  have e1 := frac_l t b
  have e2 := frac_r t b
  generalize (frac t b).1 = n at *
  generalize (frac t b).2 = d at *
  generalize part t b = p at *
  subst e1
  subst e2
  rw [Int.mul_comm d p, Int.mul_assoc]
theorem frac_gcd (t b : Int) (h : b ≠ 0) : Int.gcd (frac t b).1 (frac t b).2 = 1 := by
  have e1 := frac_l t b
  have e2 := frac_r t b
  have g := gcd_pos t b h
  have hp : (part t b).natAbs = Int.gcd t b := by unfold part; split <;> omega
  have k : Int.gcd ((frac t b).1 * part t b) ((frac t b).2 * part t b) = Int.gcd (frac t b).1 (frac t b).2 * (part t b).natAbs := Int.gcd_mul_right _ _ _
  rw [e1, e2, hp] at k
  have : 1 * Int.gcd t b = Int.gcd (frac t b).1 (frac t b).2 * Int.gcd t b := by rw [Nat.one_mul]; exact k
  exact (Nat.eq_of_mul_eq_mul_right g this).symm
theorem part_le (t b : Int) (h : b ≠ 0) : (part t b).natAbs ≤ b.natAbs := by
  have e : (part t b).natAbs = Int.gcd t b := by unfold part; split <;> omega
  rw [e]
  exact Nat.le_of_dvd (Int.natAbs_pos.mpr h) (by
    have := Int.gcd_dvd_right t b
    exact Int.ofNat_dvd_left.mp this)
theorem frac_le_l (t b : Int) (h : b ≠ 0) : (frac t b).1.natAbs ≤ t.natAbs := by
  have e := congrArg Int.natAbs (frac_l t b)
  rw [Int.natAbs_mul] at e
  have : 1 ≤ (part t b).natAbs := Int.natAbs_pos.mpr (part_ne t b h)
  calc (frac t b).1.natAbs = (frac t b).1.natAbs * 1 := (Nat.mul_one _).symm
    _ ≤ (frac t b).1.natAbs * (part t b).natAbs := Nat.mul_le_mul_left _ this
    _ = t.natAbs := e
theorem frac_le_r (t b : Int) (h : b ≠ 0) : (frac t b).2.natAbs ≤ b.natAbs := by
  have e := congrArg Int.natAbs (frac_r t b)
  rw [Int.natAbs_mul] at e
  have : 1 ≤ (part t b).natAbs := Int.natAbs_pos.mpr (part_ne t b h)
  calc (frac t b).2.natAbs = (frac t b).2.natAbs * 1 := (Nat.mul_one _).symm
    _ ≤ (frac t b).2.natAbs * (part t b).natAbs := Nat.mul_le_mul_left _ this
    _ = b.natAbs := e
end Mth
namespace Wd
end Wd
namespace Mth
theorem frac_rat (t b : Int) (h : b ≠ 0) : frac t b = (((t : Rat) / (b : Rat)).num, (((t : Rat) / (b : Rat)).den : Int)) := by
  have g := frac_gcd t b h
  have p := frac_pos t b h
  have c := frac_cross t b
  generalize (frac t b) = x at *
  obtain ⟨n, d⟩ := x
  simp only at g p c
  have hd : d = (d.toNat : Int) := by omega
  have hn : d.toNat ≠ 0 := by omega
  have hc : n.natAbs.Coprime d.toNat := by
    have : Int.gcd n d = n.natAbs.gcd d.toNat := by rw [Int.gcd]; congr 1; omega
    unfold Nat.Coprime; rw [← this]; exact g
  let r : Rat := ⟨n, d.toNat, hn, hc⟩
  have hr : r * (d : Rat) = n := by
    have h1 : r = (n : Rat) / ((d.toNat : Nat) : Rat) := by
      have := Rat.num_divInt_den r
      rw [← this, Rat.divInt_eq_div]; rfl
    have h2 : ((d.toNat : Nat) : Rat) = (d : Rat) := by
      have : ((d.toNat : Nat) : Rat) = (((d.toNat : Nat) : Int) : Rat) := rfl
      rw [this, ← hd]
    have h3 : (d : Rat) ≠ 0 := by have : d ≠ 0 := by omega
                                  exact_mod_cast this
    rw [h1, h2]; grind
  have hb : (b : Rat) ≠ 0 := by exact_mod_cast h
  have hd0 : (d : Rat) ≠ 0 := by have : d ≠ 0 := by omega
                                 exact_mod_cast this
  have cr : (n : Rat) * b = t * d := by exact_mod_cast c
  have e : (t : Rat) / (b : Rat) = r := by grind
  rw [e]
  show (n, d) = (n, ((d.toNat : Nat) : Int))
  rw [← hd]
noncomputable def fr (q : Rat) : Int × Int := (q.num, q.den)
theorem rat_num (q : Rat) : q * ((q.den : Nat) : Rat) = q.num := by
  have h1 := Rat.num_divInt_den q
  rw [Rat.divInt_eq_div] at h1
  have : ((q.den : Nat) : Rat) ≠ 0 := by exact_mod_cast q.den_nz
  have h2 : (((q.den : Nat) : Int) : Rat) = ((q.den : Nat) : Rat) := rfl
  rw [h2] at h1
  grind
theorem rat_den_ne (q : Rat) : ((q.den : Nat) : Rat) ≠ 0 := by exact_mod_cast q.den_nz
theorem rat_of (q : Rat) : ((q.num : Int) : Rat) / ((((q.den : Nat) : Int)) : Rat) = q := by
  have := rat_num q
  have h2 : (((q.den : Nat) : Int) : Rat) = ((q.den : Nat) : Rat) := rfl
  have := rat_den_ne q
  rw [h2]; grind
theorem ic (n : Nat) : (((n : Nat) : Int) : Rat) = ((n : Nat) : Rat) := rfl
theorem fr_sub (p q : Rat) : frac (p.num * q.den - q.num * p.den) (p.den * q.den) = fr (p - q) := by
  have hp := p.den_nz
  have hq := q.den_nz
  have h : ((p.den : Int) * (q.den : Int)) ≠ 0 := Int.mul_ne_zero (by omega) (by omega)
  rw [frac_rat _ _ h]
  have e : (((p.num * q.den - q.num * p.den : Int)) : Rat) / (((p.den : Int) * (q.den : Int) : Int) : Rat) = p - q := by
    have := rat_num p; have := rat_num q; have := rat_den_ne p; have := rat_den_ne q
    simp only [Rat.intCast_sub, Rat.intCast_mul, ic]
    grind
  rw [e]; rfl
noncomputable def Sb (n d : Nat) (q : Rat) : Prop := q.num.natAbs ≤ 2 ^ n ∧ q.den ≤ 2 ^ d
theorem frac_le {t b : Int} (h : b ≠ 0) : (frac t b).1.natAbs ≤ t.natAbs ∧ (frac t b).2.natAbs ≤ b.natAbs := by
  have h1 := frac_l t b
  have h2 := frac_r t b
  have h3 := part_ne t b h
  have a1 : t.natAbs = (frac t b).1.natAbs * (part t b).natAbs := by rw [← Int.natAbs_mul, h1]
  have a2 : b.natAbs = (frac t b).2.natAbs * (part t b).natAbs := by rw [← Int.natAbs_mul, h2]
  have a3 : 1 ≤ (part t b).natAbs := by omega
  rw [a1, a2]
  exact ⟨Nat.le_mul_of_pos_right _ a3, Nat.le_mul_of_pos_right _ a3⟩
theorem sb_of {t b : Int} {n d : Nat} (h : b ≠ 0) (h1 : t.natAbs ≤ 2 ^ n) (h2 : b.natAbs ≤ 2 ^ d) {q : Rat} (e : frac t b = fr q) : Sb n d q := by
  have := frac_le (t := t) h
  rw [e] at this
  simp only [fr, Int.natAbs_natCast] at this
  exact ⟨by omega, by omega⟩
theorem pmul {a b m n : Nat} (h : a ≤ 2 ^ m) (g : b ≤ 2 ^ n) : a * b ≤ 2 ^ (m + n) := by rw [Nat.pow_add]; exact Nat.mul_le_mul h g
theorem dnz (p q : Rat) : ((p.den : Int) * (q.den : Int)) ≠ 0 := by
  have hp := p.den_nz
  have hq := q.den_nz
  exact Int.mul_ne_zero (by omega) (by omega)
theorem Sb.sub {n d n' d' N : Nat} {p q : Rat} (h : Sb n d p) (g : Sb n' d' q) (h1 : n + d' ≤ N) (h2 : n' + d ≤ N) : Sb (N + 1) (d + d') (p - q) := by
  refine sb_of (dnz p q) ?_ ?_ (fr_sub p q)
  · have a1 : (p.num * q.den).natAbs ≤ 2 ^ N := by
      rw [Int.natAbs_mul, Int.natAbs_natCast]
      exact Nat.le_trans (pmul h.1 g.2) (Nat.pow_le_pow_right (by decide) h1)
    have a2 : (q.num * p.den).natAbs ≤ 2 ^ N := by
      rw [Int.natAbs_mul, Int.natAbs_natCast]
      exact Nat.le_trans (pmul g.1 h.2) (Nat.pow_le_pow_right (by decide) h2)
    have := Int.natAbs_sub_le (p.num * q.den) (q.num * p.den)
    rw [Nat.pow_succ]; omega
  · rw [Int.natAbs_mul, Int.natAbs_natCast, Int.natAbs_natCast]; exact pmul h.2 g.2
theorem Sb.mono {n d n' d' : Nat} {p : Rat} (h : Sb n d p) (h1 : n ≤ n') (h2 : d ≤ d') : Sb n' d' p :=
  ⟨Nat.le_trans h.1 (Nat.pow_le_pow_right (by decide) h1), Nat.le_trans h.2 (Nat.pow_le_pow_right (by decide) h2)⟩
theorem Sb.one : Sb 0 0 1 := by constructor <;> decide
noncomputable def cb1 (c : Int) (q : Rat) : Int := c.fdiv (Int.gcd c q.den : Int) * q.den
noncomputable def cb (r : List Rat) : Int := r.foldl cb1 1
noncomputable def wh (b : Int) (q : Rat) : Int := q.num * b.fdiv q.den
end Mth
namespace Fl
noncomputable abbrev Box := Int × Int × Int × Int
noncomputable abbrev Box.l (b : Box) : Int := b.1
noncomputable abbrev Box.d (b : Box) : Int := b.2.1
noncomputable abbrev Box.r (b : Box) : Int := b.2.2.1
noncomputable abbrev Box.u (b : Box) : Int := b.2.2.2
noncomputable def okB (b : Box) : Prop := (b.l < b.r ∧ b.d < b.u) ∨ (b.l = b.r ∧ b.d = b.u)
noncomputable def inB (w h : Int) (b : Box) : Prop := 0 ≤ b.l ∧ 0 ≤ b.d ∧ b.r ≤ w ∧ b.u ≤ h
noncomputable def ovB (a b : Box) : Bool := decide (max a.l b.l < min a.r b.r) && decide (max a.d b.d < min a.u b.u)
noncomputable def hits (x y : Int) (b : Box) : Bool := decide (b.l ≤ x ∧ x < b.r ∧ b.d ≤ y ∧ y < b.u)
theorem hits_iff {x y : Int} {b : Box} : hits x y b = true ↔ b.l ≤ x ∧ x < b.r ∧ b.d ≤ y ∧ y < b.u := decide_eq_true_iff
structure Tile (w h : Int) (bs : List Box) : Prop where
  ok : ∀ b ∈ bs, okB b
  inn : ∀ b ∈ bs, inB w h b
  one : ∀ x y, 0 ≤ x → x < w → 0 ≤ y → y < h → bs.countP (hits x y) = 1
theorem ov_iff {a b : Box} : ovB a b = true ↔ a.l < a.r ∧ a.l < b.r ∧ b.l < a.r ∧ b.l < b.r ∧ a.d < a.u ∧ a.d < b.u ∧ b.d < a.u ∧ b.d < b.u := by
  unfold ovB
  rw [Bool.and_eq_true, decide_eq_true_iff, decide_eq_true_iff, Int.max_lt, Int.lt_min, Int.lt_min, Int.max_lt, Int.lt_min, Int.lt_min]
  exact ⟨fun ⟨⟨⟨h1, h2⟩, h3, h4⟩, ⟨h5, h6⟩, h7, h8⟩ => ⟨h1, h2, h3, h4, h5, h6, h7, h8⟩, fun ⟨h1, h2, h3, h4, h5, h6, h7, h8⟩ => ⟨⟨⟨h1, h2⟩, h3, h4⟩, ⟨h5, h6⟩, h7, h8⟩⟩
theorem ov_hits {a b : Box} : ovB a b = true ↔ ∃ x y, hits x y a = true ∧ hits x y b = true := by
  rw [ov_iff]
  constructor
  · intro h
    refine ⟨max a.l b.l, max a.d b.d, hits_iff.mpr ?_, hits_iff.mpr ?_⟩ <;> omega
  · rintro ⟨x, y, h1, h2⟩
    rw [hits_iff] at h1 h2
    omega
theorem first_tile {w h : Int} (hw : 0 < w) (hh : 0 < h) : Tile w h [(0, 0, w, h)] := by
  refine ⟨fun b hb => ?_, fun b hb => ?_, fun x y x0 x1 y0 y1 => ?_⟩
  · rw [List.mem_singleton.mp hb]; exact .inl ⟨hw, hh⟩
  · rw [List.mem_singleton.mp hb]; exact ⟨Int.le_refl _, Int.le_refl _, Int.le_refl _, Int.le_refl _⟩
  · have : hits x y (0, 0, w, h) = true := hits_iff.mpr ⟨x0, x1, y0, y1⟩
    simp [List.countP_cons, this]
structure Parts (b : Box) (ps : List Box) : Prop where
  ok : ∀ p ∈ ps, p.l < p.r ∧ p.d < p.u
  inn : ∀ p ∈ ps, b.l ≤ p.l ∧ b.d ≤ p.d ∧ p.r ≤ b.r ∧ p.u ≤ b.u
  one : ∀ x y, ps.countP (hits x y) = if hits x y b = true then 1 else 0
theorem Tile.cut {w h : Int} {A B ps : List Box} {b : Box} (t : Tile w h (A ++ b :: B)) (p : Parts b ps) : Tile w h (A ++ ps ++ B) := by
  have ib := t.inn b (by simp)
  refine ⟨fun q hq => ?_, fun q hq => ?_, fun x y x0 x1 y0 y1 => ?_⟩
  · rcases List.mem_append.mp hq with z | z
    · rcases List.mem_append.mp z with z | z
      · exact t.ok q (by simp [z])
      · exact .inl (p.ok q z)
    · exact t.ok q (by simp [z])
  · rcases List.mem_append.mp hq with z | z
    · rcases List.mem_append.mp z with z | z
      · exact t.inn q (by simp [z])
      · have := p.inn q z
        unfold inB at ib ⊢
        omega
    · exact t.inn q (by simp [z])
  · have := t.one x y x0 x1 y0 y1
    rw [List.countP_append, List.countP_cons] at this
    rw [List.countP_append, List.countP_append, p.one]
    omega
theorem cnt_if {x y : Int} {b : Box} {l : List Box} : (b :: l).countP (hits x y) = l.countP (hits x y) + if hits x y b = true then 1 else 0 := List.countP_cons ..
theorem cnt_nil {x y : Int} : ([] : List Box).countP (hits x y) = 0 := rfl
theorem cut_x {b : Box} {x : Int} (h1 : b.l < x) (h2 : x < b.r) (h3 : b.d < b.u) : Parts b [(b.l, b.d, x, b.u), (x, b.d, b.r, b.u)] := by
  refine ⟨fun p hp => ?_, fun p hp => ?_, fun u v => ?_⟩
  · simp only [List.mem_cons, List.not_mem_nil, or_false] at hp
    rcases hp with rfl | rfl <;> exact ⟨by dsimp only [Box.l, Box.d, Box.r, Box.u] at *; omega, by dsimp only [Box.l, Box.d, Box.r, Box.u] at *; omega⟩
  · simp only [List.mem_cons, List.not_mem_nil, or_false] at hp
    rcases hp with rfl | rfl <;> exact ⟨by dsimp only [Box.l, Box.d, Box.r, Box.u] at *; omega, by dsimp only [Box.l, Box.d, Box.r, Box.u] at *; omega, by dsimp only [Box.l, Box.d, Box.r, Box.u] at *; omega, by dsimp only [Box.l, Box.d, Box.r, Box.u] at *; omega⟩
  · rw [cnt_if, cnt_if, cnt_nil]
    simp only [hits_iff, Box.l, Box.d, Box.r, Box.u] at *
    split <;> split <;> split <;> omega
theorem cut_y {b : Box} {y : Int} (h1 : b.d < y) (h2 : y < b.u) (h3 : b.l < b.r) : Parts b [(b.l, b.d, b.r, y), (b.l, y, b.r, b.u)] := by
  refine ⟨fun p hp => ?_, fun p hp => ?_, fun u v => ?_⟩
  · simp only [List.mem_cons, List.not_mem_nil, or_false] at hp
    rcases hp with rfl | rfl <;> exact ⟨by dsimp only [Box.l, Box.d, Box.r, Box.u] at *; omega, by dsimp only [Box.l, Box.d, Box.r, Box.u] at *; omega⟩
  · simp only [List.mem_cons, List.not_mem_nil, or_false] at hp
    rcases hp with rfl | rfl <;> exact ⟨by dsimp only [Box.l, Box.d, Box.r, Box.u] at *; omega, by dsimp only [Box.l, Box.d, Box.r, Box.u] at *; omega, by dsimp only [Box.l, Box.d, Box.r, Box.u] at *; omega, by dsimp only [Box.l, Box.d, Box.r, Box.u] at *; omega⟩
  · rw [cnt_if, cnt_if, cnt_nil]
    simp only [hits_iff, Box.l, Box.d, Box.r, Box.u] at *
    split <;> split <;> split <;> omega
theorem cut_5 {b : Box} {x f y u : Int} (h1 : b.l < x) (h2 : x < f) (h3 : f < b.r) (h4 : b.d < y) (h5 : y < u) (h6 : u < b.u) :
    Parts b [(b.l, b.d, f, y), (f, b.d, b.r, u), (x, u, b.r, b.u), (b.l, y, x, b.u), (x, y, f, u)] := by
  refine ⟨fun p hp => ?_, fun p hp => ?_, fun s t => ?_⟩
  · simp only [List.mem_cons, List.not_mem_nil, or_false] at hp
    rcases hp with rfl | rfl | rfl | rfl | rfl <;> exact ⟨by dsimp only [Box.l, Box.d, Box.r, Box.u] at *; omega, by dsimp only [Box.l, Box.d, Box.r, Box.u] at *; omega⟩
  · simp only [List.mem_cons, List.not_mem_nil, or_false] at hp
    rcases hp with rfl | rfl | rfl | rfl | rfl <;> exact ⟨by dsimp only [Box.l, Box.d, Box.r, Box.u] at *; omega, by dsimp only [Box.l, Box.d, Box.r, Box.u] at *; omega, by dsimp only [Box.l, Box.d, Box.r, Box.u] at *; omega, by dsimp only [Box.l, Box.d, Box.r, Box.u] at *; omega⟩
  · rw [cnt_if, cnt_if, cnt_if, cnt_if, cnt_if, cnt_nil]
    simp only [hits_iff, Box.l, Box.d, Box.r, Box.u] at *
    by_cases c1 : s < b.1 <;> by_cases c2 : s < x <;> by_cases c3 : s < f <;> by_cases c4 : s < b.2.2.1 <;> by_cases d1 : t < b.2.1 <;> by_cases d2 : t < y <;> by_cases d3 : t < u <;> by_cases d4 : t < b.2.2.2 <;> (try omega) <;> (repeat (first | rw [if_pos (by omega)] | rw [if_neg (by omega)]))
end Fl
namespace Fl
theorem count_two {α : Type} {p : α → Bool} {l : List α} {i j : Nat} (hij : i < j) (hj : j < l.length) (pi : p (l[i]'(by omega)) = true) (pj : p l[j] = true) : 2 ≤ l.countP p := by
  have e : l = l.take (i+1) ++ l.drop (i+1) := (List.take_append_drop _ _).symm
  rw [e, List.countP_append]
  have a : 0 < (l.take (i+1)).countP p := List.countP_pos_iff.mpr ⟨l[i], List.mem_take_iff_getElem.mpr ⟨i, by omega, rfl⟩, pi⟩
  have b : 0 < (l.drop (i+1)).countP p := List.countP_pos_iff.mpr ⟨l[j], List.mem_drop_iff_getElem.mpr ⟨j - (i+1), by omega, by congr 1; omega⟩, pj⟩
  omega
noncomputable abbrev NoOv (bs : List Box) : Prop := bs.Pairwise fun a b => ovB a b = false
theorem hits_in {w h x y : Int} {b : Box} (i : inB w h b) (z : hits x y b = true) : 0 ≤ x ∧ x < w ∧ 0 ≤ y ∧ y < h := by
  rw [hits_iff] at z
  obtain ⟨a, b', c, d⟩ := i
  omega
theorem Tile.noOv {w h : Int} {bs : List Box} (t : Tile w h bs) : NoOv bs := by
  rw [NoOv, List.pairwise_iff_getElem]
  intro i j hi hj hij
  rw [Bool.eq_false_iff]
  intro z
  obtain ⟨x, y, h1, h2⟩ := ov_hits.mp z
  obtain ⟨a, b, c, d⟩ := hits_in (t.inn _ (List.getElem_mem hi)) h1
  have := count_two (p := hits x y) hij hj h1 h2
  rw [t.one x y a b c d] at this
  omega
theorem Tile.perm {w h : Int} {bs cs : List Box} (t : Tile w h bs) (p : cs.Perm bs) : Tile w h cs :=
  ⟨fun b hb => t.ok b (p.mem_iff.mp hb), fun b hb => t.inn b (p.mem_iff.mp hb), fun x y a b c d => by rw [p.countP_eq]; exact t.one x y a b c d⟩
theorem Tile.bare {w h : Int} {bs : List Box} (t : Tile w h bs) (p : Box → Bool) (hp : ∀ b ∈ bs, p b = false → b.l = b.r) : Tile w h (bs.filter p) := by
  refine ⟨fun b hb => t.ok b (List.mem_filter.mp hb).1, fun b hb => t.inn b (List.mem_filter.mp hb).1, fun x y a b c d => ?_⟩
  rw [← t.one x y a b c d, List.countP_filter]
  refine List.countP_congr fun q hq => ?_
  rw [Bool.and_eq_true]
  constructor
  · exact fun z => z.1
  · intro z
    refine ⟨z, ?_⟩
    cases e : p q with
    | true => rfl
    | false =>
      have := hp q hq e
      rw [hits_iff] at z
      omega
structure Bd (m : Int) (vs xs : List Int) : Prop where
  up : xs.Pairwise (· < ·)
  mem : ∀ v, v ∈ xs ↔ v = 0 ∨ v = m ∨ v ∈ vs
theorem rise_uniq : ∀ {xs ys : List Int}, xs.Pairwise (· < ·) → ys.Pairwise (· < ·) → (∀ v, v ∈ xs ↔ v ∈ ys) → xs = ys
  | [], [], _, _, _ => rfl
  | [], y :: ys, _, _, h => absurd ((h y).mpr (by simp)) (by simp)
  | x :: xs, [], _, _, h => absurd ((h x).mp (by simp)) (by simp)
  | x :: xs, y :: ys, hx, hy, h => by
    rw [List.pairwise_cons] at hx hy
    have e : x = y := by
      rcases List.mem_cons.mp ((h x).mp (by simp)) with z | z
      · exact z
      · rcases List.mem_cons.mp ((h y).mpr (by simp)) with z' | z'
        · exact z'.symm
        · have := hx.1 y z'; have := hy.1 x z; omega
    subst e
    congr 1
    refine rise_uniq hx.2 hy.2 fun v => ?_
    constructor
    · intro z
      rcases List.mem_cons.mp ((h v).mp (by simp [z])) with q | q
      · have := hx.1 v z; omega
      · exact q
    · intro z
      rcases List.mem_cons.mp ((h v).mpr (by simp [z])) with q | q
      · have := hy.1 v z; omega
      · exact q
theorem Bd.uniq {m : Int} {vs xs ys : List Int} (a : Bd m vs xs) (b : Bd m vs ys) : xs = ys := rise_uniq a.up b.up fun v => by rw [a.mem, b.mem]
noncomputable def cov (bs : List Box) (x0 y0 x1 y1 : Int) : Bool := bs.any fun b => decide (b.l ≤ x0) && decide (x1 ≤ b.r) && (decide (b.d ≤ y0) && decide (y1 ≤ b.u))
noncomputable def cellB (xs ys : List Int) (j k : Nat) : Box := (xs.getD j 0, ys.getD k 0, xs.getD (j+1) 0, ys.getD (k+1) 0)
noncomputable abbrev covC (bs : List Box) (xs ys : List Int) (j k : Nat) : Bool := cov bs (cellB xs ys j k).l (cellB xs ys j k).d (cellB xs ys j k).r (cellB xs ys j k).u
noncomputable def rowGap (bs : List Box) (xs ys : List Int) (k : Nat) : Option Nat := (List.range (xs.length - 1)).find? fun j => !covC bs xs ys j k
noncomputable def gapF (bs : List Box) (xs ys : List Int) : Option Box := (List.range (ys.length - 1)).findSome? fun k => (rowGap bs xs ys k).map fun j => cellB xs ys j k
theorem up_next {xs : List Int} (h : xs.Pairwise (· < ·)) {j : Nat} (hj : j + 1 < xs.length) {v : Int} (hv : v ∈ xs) (hl : xs.getD j 0 < v) : xs.getD (j+1) 0 ≤ v := by
  obtain ⟨i, hi, rfl⟩ := List.getElem_of_mem hv
  have g : ∀ k (hk : k < xs.length), xs.getD k 0 = xs[k] := fun k hk => by rw [List.getD_eq_getElem?_getD, List.getElem?_eq_getElem hk]; rfl
  rw [g j (by omega)] at hl
  rw [g (j+1) hj]
  have p := List.pairwise_iff_getElem.mp h
  rcases Nat.lt_trichotomy i (j+1) with z | z | z
  · rcases Nat.lt_or_ge i j with y | y
    · have := p i j hi (by omega) y; omega
    · have : i = j := by omega
      subst this; omega
  · subst z; exact Int.le_refl _
  · have := p (j+1) i hj hi z; omega
theorem up_lt {xs : List Int} (h : xs.Pairwise (· < ·)) {j : Nat} (hj : j + 1 < xs.length) : xs.getD j 0 < xs.getD (j+1) 0 ∧ xs.getD j 0 ∈ xs ∧ xs.getD (j+1) 0 ∈ xs := by
  have g : ∀ k (hk : k < xs.length), xs.getD k 0 = xs[k] := fun k hk => by rw [List.getD_eq_getElem?_getD, List.getElem?_eq_getElem hk]; rfl
  rw [g j (by omega), g (j+1) hj]
  exact ⟨List.pairwise_iff_getElem.mp h j (j+1) (by omega) hj (by omega), List.getElem_mem _, List.getElem_mem _⟩
noncomputable abbrev xsOf (bs : List Box) : List Int := bs.map (·.1) ++ bs.map (·.2.2.1)
noncomputable abbrev ysOf (bs : List Box) : List Int := bs.map (·.2.1) ++ bs.map (·.2.2.2)
end Fl
namespace Fl
structure Sc (f : Int → Int) (D : Int → Prop) : Prop where
  lt : ∀ a b, D a → D b → (a < b ↔ f a < f b)
  z : D 0
  f0 : f 0 = 0
section
variable {f : Int → Int} {D : Int → Prop}
theorem Sc.le (s : Sc f D) {a b : Int} (ha : D a) (hb : D b) : a ≤ b ↔ f a ≤ f b := by have := s.lt b a hb ha; omega
theorem Sc.eq (s : Sc f D) {a b : Int} (ha : D a) (hb : D b) : a = b ↔ f a = f b := by have := s.lt a b ha hb; have := s.lt b a hb ha; omega
noncomputable abbrev mapB (f : Int → Int) (b : Box) : Box := (f b.l, f b.d, f b.r, f b.u)
noncomputable abbrev DB (D : Int → Prop) (b : Box) : Prop := D b.l ∧ D b.d ∧ D b.r ∧ D b.u
theorem Sc.ok (s : Sc f D) {b : Box} (h : DB D b) : okB (mapB f b) ↔ okB b := by
  obtain ⟨h1, h2, h3, h4⟩ := h
  unfold okB
  have a := s.lt _ _ h1 h3; have c := s.lt _ _ h2 h4; have d := s.eq h1 h3; have e := s.eq h2 h4
  show (f b.l < f b.r ∧ f b.d < f b.u) ∨ (f b.l = f b.r ∧ f b.d = f b.u) ↔ _
  rw [← a, ← c, ← d, ← e]
theorem Sc.inn (s : Sc f D) {w h : Int} {b : Box} (hw : D w) (hh : D h) (hb : DB D b) : inB (f w) (f h) (mapB f b) ↔ inB w h b := by
  obtain ⟨h1, h2, h3, h4⟩ := hb
  unfold inB
  show 0 ≤ f b.l ∧ 0 ≤ f b.d ∧ f b.r ≤ f w ∧ f b.u ≤ f h ↔ _
  have a := s.le s.z h1; have c := s.le s.z h2
  rw [s.f0] at a c
  rw [← a, ← c, ← s.le h3 hw, ← s.le h4 hh]
theorem Sc.bd (s : Sc f D) {m : Int} {vs xs : List Int} (b : Bd m vs xs) (h : ∀ v ∈ xs, D v) : Bd (f m) (vs.map f) (xs.map f) := by
  refine ⟨?_, fun v => ?_⟩
  · rw [List.pairwise_map]
    exact b.up.imp_of_mem fun {x y} hx hy z => (s.lt x y (h x hx) (h y hy)).mp z
  · rw [List.mem_map]
    constructor
    · rintro ⟨x, hx, rfl⟩
      rcases (b.mem x).mp hx with z | z | z
      · exact .inl (by rw [z, s.f0])
      · exact .inr (.inl (by rw [z]))
      · exact .inr (.inr (List.mem_map.mpr ⟨x, z, rfl⟩))
    · rintro (z | z | z)
      · exact ⟨0, (b.mem 0).mpr (.inl rfl), by rw [z, s.f0]⟩
      · exact ⟨m, (b.mem m).mpr (.inr (.inl rfl)), z.symm⟩
      · obtain ⟨x, hx, rfl⟩ := List.mem_map.mp z
        exact ⟨x, (b.mem x).mpr (.inr (.inr hx)), rfl⟩
theorem map_get (s : Sc f D) (xs : List Int) (j : Nat) : (xs.map f).getD j 0 = f (xs.getD j 0) := by
  rw [List.getD_eq_getElem?_getD, List.getElem?_map, List.getD_eq_getElem?_getD]
  cases xs[j]? with
  | none => exact s.f0.symm
  | some x => rfl
theorem Sc.cell (s : Sc f D) (xs ys : List Int) (j k : Nat) : cellB (xs.map f) (ys.map f) j k = mapB f (cellB xs ys j k) := by
  unfold cellB
  rw [map_get s, map_get s, map_get s, map_get s]
end
theorem Tile.index {w h : Int} {bs : List Box} (t : Tile w h bs) {i j : Nat} {c : Box} (hi : bs[i]? = some c) (hj : bs[j]? = some c) (hc : c.l < c.r) (hd : c.d < c.u) : i = j := by
  obtain ⟨hil, ei⟩ := List.getElem?_eq_some_iff.mp hi
  obtain ⟨hjl, ej⟩ := List.getElem?_eq_some_iff.mp hj
  have no := List.pairwise_iff_getElem.mp t.noOv
  have o : ovB c c = true := by rw [ov_iff]; omega
  rcases Nat.lt_trichotomy i j with z | z | z
  · have := no i j hil hjl z; rw [ei, ej, o] at this; cases this
  · exact z
  · have := no j i hjl hil z; rw [ei, ej, o] at this; cases this
end Fl
namespace Fl
noncomputable def Full (w h : Int) (bs : List Box) : Prop := ∀ x y, 0 ≤ x → x < w → 0 ≤ y → y < h → ∃ b ∈ bs, hits x y b = true
structure Clean (w h : Int) (bs : List Box) : Prop where
  ok : ∀ b ∈ bs, okB b
  inn : ∀ b ∈ bs, inB w h b
  nov : NoOv bs
theorem Clean.sub {w h : Int} {bs cs : List Box} (c : Clean w h bs) (s : cs.Sublist bs) : Clean w h cs := ⟨fun b hb => c.ok b (s.subset hb), fun b hb => c.inn b (s.subset hb), List.Pairwise.sublist s c.nov⟩
theorem up_find {xs : List Int} (h : xs.Pairwise (· < ·)) {lo hi x : Int} (h0 : lo ∈ xs) (h1 : hi ∈ xs) (a : lo ≤ x) (b : x < hi) : ∃ j, j + 1 < xs.length ∧ xs.getD j 0 ≤ x ∧ x < xs.getD (j+1) 0 := by
  have g : ∀ k (hk : k < xs.length), xs.getD k 0 = xs[k] := fun k hk => by rw [List.getD_eq_getElem?_getD, List.getElem?_eq_getElem hk]; rfl
  have il : xs.findIdx (fun v => decide (x < v)) < xs.length := List.findIdx_lt_length_of_exists ⟨hi, h1, decide_eq_true b⟩
  have ip : x < xs[xs.findIdx (fun v => decide (x < v))] := by simpa using List.findIdx_getElem (w := il)
  have im : ∀ m (hm : m < xs.findIdx (fun v => decide (x < v))), xs[m]'(by omega) ≤ x := fun m hm => by
    have := List.not_of_lt_findIdx hm
    simpa using this
  obtain ⟨i, il, ip, im⟩ : ∃ i, ∃ il : i < xs.length, x < xs[i] ∧ ∀ m (hm : m < i), xs[m]'(by omega) ≤ x := ⟨_, il, ip, im⟩
  have i0 : i ≠ 0 := fun z => by
    subst z
    obtain ⟨m, hm, rfl⟩ := List.getElem_of_mem h0
    rcases Nat.eq_zero_or_pos m with y | y
    · subst y; omega
    · have := List.pairwise_iff_getElem.mp h 0 m il hm y; omega
  refine ⟨i - 1, by omega, ?_, ?_⟩
  · rw [g (i - 1) (by omega)]; exact im (i - 1) (by omega)
  · rw [g (i - 1 + 1) (by omega)]
    have : i - 1 + 1 = i := by omega
    simp only [this]; exact ip
theorem Clean.full {w h : Int} {bs : List Box} (t : Clean w h bs) (hw : 0 < w) (hh : 0 < h) {xs ys : List Int} (bx : Bd w (xsOf bs) xs) (by' : Bd h (ysOf bs) ys) : gapF bs xs ys = none ↔ Full w h bs := by
  constructor
  · intro e x y x0 x1 y0 y1
    obtain ⟨j, jl, j1, j2⟩ := up_find bx.up ((bx.mem 0).mpr (.inl rfl)) ((bx.mem w).mpr (.inr (.inl rfl))) x0 x1
    obtain ⟨k, kl, k1, k2⟩ := up_find by'.up ((by'.mem 0).mpr (.inl rfl)) ((by'.mem h).mpr (.inr (.inl rfl))) y0 y1
    unfold gapF at e
    rw [List.findSome?_eq_none_iff] at e
    have e1 := e k (List.mem_range.mpr (by omega))
    rw [Option.map_eq_none_iff] at e1
    unfold rowGap at e1
    rw [List.find?_eq_none] at e1
    have e2 := e1 j (List.mem_range.mpr (by omega))
    have e3 : covC bs xs ys j k = true := by simpa using e2
    obtain ⟨b, hb, c⟩ := List.any_eq_true.mp e3
    simp only [Bool.and_eq_true, decide_eq_true_eq] at c
    have c1 : b.1 ≤ xs.getD j 0 := c.1.1
    have c2 : xs.getD (j+1) 0 ≤ b.2.2.1 := c.1.2
    have c3 : b.2.1 ≤ ys.getD k 0 := c.2.1
    have c4 : ys.getD (k+1) 0 ≤ b.2.2.2 := c.2.2
    exact ⟨b, hb, hits_iff.mpr ⟨by show b.1 ≤ x; omega, by show x < b.2.2.1; omega, by show b.2.1 ≤ y; omega, by show y < b.2.2.2; omega⟩⟩
  · intro f
    unfold gapF
    rw [List.findSome?_eq_none_iff]
    intro k hk
    rw [Option.map_eq_none_iff]
    unfold rowGap
    rw [List.find?_eq_none]
    intro j hj
    have hk := List.mem_range.mp hk
    have hj := List.mem_range.mp hj
    obtain ⟨x1, x2, x3⟩ := up_lt bx.up (j := j) (by omega)
    obtain ⟨y1, y2, y3⟩ := up_lt by'.up (j := k) (by omega)
    have rx : ∀ v ∈ xs, 0 ≤ v ∧ v ≤ w := fun v hv => by
      rcases (bx.mem v).mp hv with z | z | z
      · omega
      · omega
      · rcases List.mem_append.mp z with z | z
        · obtain ⟨b, hb, rfl⟩ := List.mem_map.mp z
          have := t.inn b hb; have := t.ok b hb; unfold inB okB at *; dsimp only [Box.l, Box.d, Box.r, Box.u] at *; omega
        · obtain ⟨b, hb, rfl⟩ := List.mem_map.mp z
          have := t.inn b hb; have := t.ok b hb; unfold inB okB at *; dsimp only [Box.l, Box.d, Box.r, Box.u] at *; omega
    have ry : ∀ v ∈ ys, 0 ≤ v ∧ v ≤ h := fun v hv => by
      rcases (by'.mem v).mp hv with z | z | z
      · omega
      · omega
      · rcases List.mem_append.mp z with z | z
        · obtain ⟨b, hb, rfl⟩ := List.mem_map.mp z
          have := t.inn b hb; have := t.ok b hb; unfold inB okB at *; dsimp only [Box.l, Box.d, Box.r, Box.u] at *; omega
        · obtain ⟨b, hb, rfl⟩ := List.mem_map.mp z
          have := t.inn b hb; have := t.ok b hb; unfold inB okB at *; dsimp only [Box.l, Box.d, Box.r, Box.u] at *; omega
    obtain ⟨b, hb, hit⟩ := f (xs.getD j 0) (ys.getD k 0) (rx _ x2).1 (by have := (rx _ x3).2; omega) (ry _ y2).1 (by have := (ry _ y3).2; omega)
    rw [hits_iff] at hit
    have n1 := up_next bx.up (j := j) (by omega) ((bx.mem _).mpr (.inr (.inr (List.mem_append_right _ (List.mem_map.mpr ⟨b, hb, rfl⟩))))) hit.2.1
    have n2 := up_next by'.up (j := k) (by omega) ((by'.mem _).mpr (.inr (.inr (List.mem_append_right _ (List.mem_map.mpr ⟨b, hb, rfl⟩))))) hit.2.2.2
    have : covC bs xs ys j k = true := List.any_eq_true.mpr ⟨b, hb, by
      simp only [Bool.and_eq_true, decide_eq_true_eq]
      exact ⟨⟨hit.1, n1⟩, hit.2.2.1, n2⟩⟩
    simp [this]
end Fl
namespace Fl
theorem cut_5' {b : Box} {x f y u : Int} (h1 : b.l < x) (h2 : x < f) (h3 : f < b.r) (h4 : b.d < y) (h5 : y < u) (h6 : u < b.u) :
    Parts b [(x, b.d, b.r, y), (f, y, b.r, b.u), (b.l, u, f, b.u), (b.l, b.d, x, u), (x, y, f, u)] := by
  refine ⟨fun p hp => ?_, fun p hp => ?_, fun s t => ?_⟩
  · simp only [List.mem_cons, List.not_mem_nil, or_false] at hp
    rcases hp with rfl | rfl | rfl | rfl | rfl <;> exact ⟨by dsimp only [Box.l, Box.d, Box.r, Box.u] at *; omega, by dsimp only [Box.l, Box.d, Box.r, Box.u] at *; omega⟩
  · simp only [List.mem_cons, List.not_mem_nil, or_false] at hp
    rcases hp with rfl | rfl | rfl | rfl | rfl <;> exact ⟨by dsimp only [Box.l, Box.d, Box.r, Box.u] at *; omega, by dsimp only [Box.l, Box.d, Box.r, Box.u] at *; omega, by dsimp only [Box.l, Box.d, Box.r, Box.u] at *; omega, by dsimp only [Box.l, Box.d, Box.r, Box.u] at *; omega⟩
  · rw [cnt_if, cnt_if, cnt_if, cnt_if, cnt_if, cnt_nil]
    simp only [hits_iff, Box.l, Box.d, Box.r, Box.u] at *
    by_cases c1 : s < b.1 <;> by_cases c2 : s < x <;> by_cases c3 : s < f <;> by_cases c4 : s < b.2.2.1 <;> by_cases d1 : t < b.2.1 <;> by_cases d2 : t < y <;> by_cases d3 : t < u <;> by_cases d4 : t < b.2.2.2 <;> (try omega) <;> (repeat (first | rw [if_pos (by omega)] | rw [if_neg (by omega)]))
theorem parts_one {b : Box} (h1 : b.l < b.r) (h2 : b.d < b.u) : Parts b [b] := by
  refine ⟨fun p hp => ?_, fun p hp => ?_, fun s t => ?_⟩
  · rw [List.mem_singleton.mp hp]; exact ⟨h1, h2⟩
  · rw [List.mem_singleton.mp hp]; exact ⟨Int.le_refl _, Int.le_refl _, Int.le_refl _, Int.le_refl _⟩
  · rw [cnt_if, cnt_nil]; omega
section
variable {w h k : Int} {bs A B : List Box} {b : Box}
theorem cnt_out {x y : Int} (hn : ∀ b ∈ bs, hits x y b = false) : bs.countP (hits x y) = 0 := by
  rw [List.countP_eq_zero]
  intro b hb
  rw [hn b hb]; decide
theorem Tile.right (t : Tile w h bs) (w0 : 0 ≤ w) (hk : 0 < k) (hh : 0 < h) : Tile (w + k) h (bs ++ [(w, 0, w + k, h)]) := by
  refine ⟨fun b hb => ?_, fun b hb => ?_, fun x y x0 x1 y0 y1 => ?_⟩
  · rcases List.mem_append.mp hb with z | z
    · exact t.ok b z
    · rw [List.mem_singleton.mp z]; exact .inl ⟨by show w < w + k; omega, hh⟩
  · rcases List.mem_append.mp hb with z | z
    · have := t.inn b z
      unfold inB at this ⊢
      omega
    · rw [List.mem_singleton.mp z]; exact ⟨w0, Int.le_refl _, Int.le_refl _, Int.le_refl _⟩
  · rw [List.countP_append, cnt_if, cnt_nil]
    simp only [hits_iff, Box.l, Box.d, Box.r, Box.u]
    rcases Int.lt_or_le x w with c | c
    · rw [t.one x y x0 c y0 y1, if_neg (by omega)]
    · rw [cnt_out fun b hb => ?_, if_pos (by omega)]
      rw [Bool.eq_false_iff]
      intro z
      rw [hits_iff] at z
      have := t.inn b hb
      unfold inB at this
      omega
theorem Tile.hole (t : Tile w h (A ++ b :: B)) {x y : Int} (hb : hits x y b = true) {cs : List Box} (hc : ∀ c ∈ cs, hits x y c = false) : ¬ Full w h (A ++ cs ++ B) := by
  intro f
  have ib := t.inn b (by simp)
  have hb' := hits_iff.mp hb
  have hx := hits_in ib hb
  have one := t.one x y hx.1 hx.2.1 hx.2.2.1 hx.2.2.2
  rw [List.countP_append, cnt_if, if_pos hb] at one
  obtain ⟨c, hc1, hc2⟩ := f x y hx.1 hx.2.1 hx.2.2.1 hx.2.2.2
  have pos : ∀ {l : List Box}, c ∈ l → 0 < l.countP (hits x y) := fun hl => List.countP_pos_iff.mpr ⟨c, hl, hc2⟩
  rcases List.mem_append.mp hc1 with z | z
  · rcases List.mem_append.mp z with z | z
    · have := pos z; omega
    · rw [hc c z] at hc2; cases hc2
  · have := pos z; omega
theorem corner (h1 : b.l < b.r) (h2 : b.d < b.u) : hits b.l b.d b = true := hits_iff.mpr ⟨Int.le_refl _, h1, Int.le_refl _, h2⟩
theorem Tile.out (t : Tile w h (A ++ b :: B)) (h1 : b.l < b.r) (h2 : b.d < b.u) : ¬ Full w h (A ++ B) := by
  have := t.hole (corner h1 h2) (cs := []) (fun c hc => by cases hc)
  rwa [List.append_nil] at this
end
end Fl
namespace Fl
structure TlR (R : Box) (S : Box → Prop) : Prop where
  tru : ∀ b, S b → b.l < b.r ∧ b.d < b.u
  inn : ∀ b, S b → R.l ≤ b.l ∧ R.d ≤ b.d ∧ b.r ≤ R.r ∧ b.u ≤ R.u
  uniq : ∀ a b, S a → S b → a.l < b.r → b.l < a.r → a.d < b.u → b.d < a.u → a = b
  full : ∀ x y, R.l ≤ x → x < R.r → R.d ≤ y → y < R.u → ∃ b, S b ∧ b.l ≤ x ∧ x < b.r ∧ b.d ≤ y ∧ y < b.u
theorem box_eq {a b : Box} (h1 : a.l = b.l) (h2 : a.d = b.d) (h3 : a.r = b.r) (h4 : a.u = b.u) : a = b := by
  obtain ⟨a1, a2, a3, a4⟩ := a
  obtain ⟨b1, b2, b3, b4⟩ := b
  dsimp only [Box.l, Box.d, Box.r, Box.u] at *
  rw [h1, h2, h3, h4]
noncomputable def tp (b : Box) : Box := (b.d, b.l, b.u, b.r)
theorem tp_tp (b : Box) : tp (tp b) = b := rfl
theorem tp_inj {a b : Box} (h : tp a = tp b) : a = b := by rw [← tp_tp a, h, tp_tp]
noncomputable abbrev tpS (S : Box → Prop) : Box → Prop := fun b => S (tp b)
theorem TlR.tp {R : Box} {S : Box → Prop} (t : TlR R S) : TlR (tp R) (tpS S) :=
  ⟨fun b h => ⟨(t.tru _ h).2, (t.tru _ h).1⟩, fun b h => ⟨(t.inn _ h).2.1, (t.inn _ h).1, (t.inn _ h).2.2.2, (t.inn _ h).2.2.1⟩,
   fun a b ha hb h1 h2 h3 h4 => tp_inj (t.uniq _ _ ha hb h3 h4 h1 h2), fun x y h1 h2 h3 h4 => by
    obtain ⟨b, hb, a1, a2, a3, a4⟩ := t.full y x h3 h4 h1 h2
    exact ⟨Fl.tp b, hb, a3, a4, a1, a2⟩⟩
noncomputable def Gen4 (S : Box → Prop) : Prop := ∀ e a b f, S e → S a → S b → S f → ¬ (a.r = e.r ∧ a.d = e.u ∧ b.l = e.r ∧ b.d = e.u ∧ f.l = e.r ∧ f.u = e.u)
theorem Gen4.tp {S : Box → Prop} (g : Gen4 S) : Gen4 (tpS S) := fun e a b f he ha hb hf ⟨h1, h2, h3, h4, h5, h6⟩ =>
  g _ _ _ _ he hf hb ha ⟨h6, h5, h4, h3, h2, h1⟩
inductive Slc : Box → (Box → Prop) → Prop
  | one {R : Box} {S : Box → Prop} : (∀ b, S b ↔ b = R) → Slc R S
  | vert {R : Box} {S : Box → Prop} (x : Int) : R.l < x → x < R.r → (∀ b, S b → b.r ≤ x ∨ x ≤ b.l) → Slc (R.l, R.d, x, R.u) (fun b => S b ∧ b.r ≤ x) → Slc (x, R.d, R.r, R.u) (fun b => S b ∧ x ≤ b.l) → Slc R S
  | horz {R : Box} {S : Box → Prop} (y : Int) : R.d < y → y < R.u → (∀ b, S b → b.u ≤ y ∨ y ≤ b.d) → Slc (R.l, R.d, R.r, y) (fun b => S b ∧ b.u ≤ y) → Slc (R.l, y, R.r, R.u) (fun b => S b ∧ y ≤ b.d) → Slc R S
theorem Slc.congr {R : Box} {S T : Box → Prop} (h : Slc R S) (e : ∀ b, S b ↔ T b) : Slc R T := by
  rw [← show S = T from funext fun b => propext (e b)]
  exact h
theorem Slc.tp {R : Box} {S : Box → Prop} (h : Slc R S) : Slc (tp R) (tpS S) := by
  induction h with
  | one h => exact .one fun b => (h _).trans ⟨fun z => by rw [← z, tp_tp], fun z => by rw [z, tp_tp]⟩
  | vert x h1 h2 h3 _ _ i1 i2 => exact .horz x h1 h2 (fun b hb => h3 _ hb) i1 i2
  | horz y h1 h2 h3 _ _ i1 i2 => exact .vert y h1 h2 (fun b hb => h3 _ hb) i1 i2
theorem TlR.left {R : Box} {S : Box → Prop} (t : TlR R S) {x : Int} (hx : x < R.r) (h : ∀ b, S b → b.r ≤ x ∨ x ≤ b.l) : TlR (R.l, R.d, x, R.u) (fun b => S b ∧ b.r ≤ x) :=
  ⟨fun b hb => t.tru b hb.1, fun b hb => ⟨(t.inn b hb.1).1, (t.inn b hb.1).2.1, hb.2, (t.inn b hb.1).2.2.2⟩, fun a b ha hb => t.uniq a b ha.1 hb.1, fun p q h1 h2 h3 h4 => by
    dsimp only [Box.l, Box.d, Box.r, Box.u] at h1 h2 h3 h4
    obtain ⟨b, hb, a1, a2, a3, a4⟩ := t.full p q h1 (by dsimp only [Box.r] at hx ⊢; omega) h3 h4
    exact ⟨b, ⟨hb, by rcases h b hb with z | z <;> omega⟩, a1, a2, a3, a4⟩⟩
theorem TlR.right {R : Box} {S : Box → Prop} (t : TlR R S) {x : Int} (hx : R.l < x) (h : ∀ b, S b → b.r ≤ x ∨ x ≤ b.l) : TlR (x, R.d, R.r, R.u) (fun b => S b ∧ x ≤ b.l) :=
  ⟨fun b hb => t.tru b hb.1, fun b hb => ⟨hb.2, (t.inn b hb.1).2.1, (t.inn b hb.1).2.2.1, (t.inn b hb.1).2.2.2⟩, fun a b ha hb => t.uniq a b ha.1 hb.1, fun p q h1 h2 h3 h4 => by
    dsimp only [Box.l, Box.d, Box.r, Box.u] at h1 h2 h3 h4
    obtain ⟨b, hb, a1, a2, a3, a4⟩ := t.full p q (by dsimp only [Box.l] at hx ⊢; omega) h2 h3 h4
    exact ⟨b, ⟨hb, by rcases h b hb with z | z <;> omega⟩, a1, a2, a3, a4⟩⟩
theorem TlR.low {R : Box} {S : Box → Prop} (t : TlR R S) {y : Int} (hy : y < R.u) (h : ∀ b, S b → b.u ≤ y ∨ y ≤ b.d) : TlR (R.l, R.d, R.r, y) (fun b => S b ∧ b.u ≤ y) :=
  (t.tp.left hy (fun b hb => h _ hb)).tp
theorem TlR.high {R : Box} {S : Box → Prop} (t : TlR R S) {y : Int} (hy : R.d < y) (h : ∀ b, S b → b.u ≤ y ∨ y ≤ b.d) : TlR (R.l, y, R.r, R.u) (fun b => S b ∧ y ≤ b.d) :=
  (t.tp.right hy (fun b hb => h _ hb)).tp
noncomputable abbrev cutS (S : Box → Prop) (c a b : Box) : Box → Prop := fun e => (S e ∧ e ≠ c) ∨ e = a ∨ e = b
theorem Slc.cutV {R : Box} {S : Box → Prop} (h : Slc R S) : ∀ (c : Box) (x : Int), S c → c.l < x → x < c.r → c.d < c.u → Slc R (cutS S c (c.l, c.d, x, c.u) (x, c.d, c.r, c.u)) := by
  induction h with
  | @one R S h =>
    intro c x hc h1 h2 h3
    obtain rfl := (h c).mp hc
    refine .vert x h1 h2 ?_ (.one fun b => ?_) (.one fun b => ?_)
    · rintro b (⟨z1, z2⟩ | rfl | rfl)
      · exact absurd ((h b).mp z1) z2
      · exact .inl (Int.le_refl _)
      · exact .inr (Int.le_refl _)
    · constructor
      · rintro ⟨⟨z1, z2⟩ | rfl | rfl, z3⟩
        · exact absurd ((h b).mp z1) z2
        · rfl
        · dsimp only [Box.r] at *; omega
      · rintro rfl; exact ⟨.inr (.inl rfl), Int.le_refl _⟩
    · constructor
      · rintro ⟨⟨z1, z2⟩ | rfl | rfl, z3⟩
        · exact absurd ((h b).mp z1) z2
        · dsimp only [Box.l] at *; omega
        · rfl
      · rintro rfl; exact ⟨.inr (.inr rfl), Int.le_refl _⟩
  | @vert R S x' h1 h2 h3 s1 s2 i1 i2 =>
    intro c x hc g1 g2 g3
    refine .vert x' h1 h2 ?_ ?_ ?_
    · rintro b (⟨z1, z2⟩ | rfl | rfl)
      · exact h3 b z1
      · have := h3 c hc; dsimp only [Box.l, Box.d, Box.r, Box.u] at *; omega
      · have := h3 c hc; dsimp only [Box.l, Box.d, Box.r, Box.u] at *; omega
    · by_cases z : c.r ≤ x'
      · refine (i1 c x ⟨hc, z⟩ g1 g2 g3).congr fun b => ?_
        constructor
        · rintro (⟨⟨a1, a2⟩, a3⟩ | rfl | rfl)
          · exact ⟨.inl ⟨a1, a3⟩, a2⟩
          · exact ⟨.inr (.inl rfl), by dsimp only [Box.l, Box.d, Box.r, Box.u] at *; omega⟩
          · exact ⟨.inr (.inr rfl), z⟩
        · rintro ⟨⟨a1, a3⟩ | rfl | rfl, a2⟩
          · exact .inl ⟨⟨a1, a2⟩, a3⟩
          · exact .inr (.inl rfl)
          · exact .inr (.inr rfl)
      · refine s1.congr fun b => ?_
        have := h3 c hc
        constructor
        · rintro ⟨a1, a2⟩
          exact ⟨.inl ⟨a1, fun e => z (e ▸ a2)⟩, a2⟩
        · rintro ⟨⟨a1, a3⟩ | rfl | rfl, a2⟩
          · exact ⟨a1, a2⟩
          · dsimp only [Box.l, Box.d, Box.r, Box.u] at *; omega
          · dsimp only [Box.l, Box.d, Box.r, Box.u] at *; omega
    · by_cases z : x' ≤ c.l
      · refine (i2 c x ⟨hc, z⟩ g1 g2 g3).congr fun b => ?_
        constructor
        · rintro (⟨⟨a1, a2⟩, a3⟩ | rfl | rfl)
          · exact ⟨.inl ⟨a1, a3⟩, a2⟩
          · exact ⟨.inr (.inl rfl), z⟩
          · exact ⟨.inr (.inr rfl), by dsimp only [Box.l, Box.d, Box.r, Box.u] at *; omega⟩
        · rintro ⟨⟨a1, a3⟩ | rfl | rfl, a2⟩
          · exact .inl ⟨⟨a1, a2⟩, a3⟩
          · exact .inr (.inl rfl)
          · exact .inr (.inr rfl)
      · refine s2.congr fun b => ?_
        have := h3 c hc
        constructor
        · rintro ⟨a1, a2⟩
          exact ⟨.inl ⟨a1, fun e => z (e ▸ a2)⟩, a2⟩
        · rintro ⟨⟨a1, a3⟩ | rfl | rfl, a2⟩
          · exact ⟨a1, a2⟩
          · dsimp only [Box.l, Box.d, Box.r, Box.u] at *; omega
          · dsimp only [Box.l, Box.d, Box.r, Box.u] at *; omega
  | @horz R S y h1 h2 h3 s1 s2 i1 i2 =>
    intro c x hc g1 g2 g3
    refine .horz y h1 h2 ?_ ?_ ?_
    · rintro b (⟨z1, z2⟩ | rfl | rfl)
      · exact h3 b z1
      · exact h3 c hc
      · exact h3 c hc
    · by_cases z : c.u ≤ y
      · refine (i1 c x ⟨hc, z⟩ g1 g2 g3).congr fun b => ?_
        constructor
        · rintro (⟨⟨a1, a2⟩, a3⟩ | rfl | rfl)
          · exact ⟨.inl ⟨a1, a3⟩, a2⟩
          · exact ⟨.inr (.inl rfl), z⟩
          · exact ⟨.inr (.inr rfl), z⟩
        · rintro ⟨⟨a1, a3⟩ | rfl | rfl, a2⟩
          · exact .inl ⟨⟨a1, a2⟩, a3⟩
          · exact .inr (.inl rfl)
          · exact .inr (.inr rfl)
      · refine s1.congr fun b => ?_
        constructor
        · rintro ⟨a1, a2⟩
          exact ⟨.inl ⟨a1, fun e => z (e ▸ a2)⟩, a2⟩
        · rintro ⟨⟨a1, a3⟩ | rfl | rfl, a2⟩
          · exact ⟨a1, a2⟩
          · exact absurd a2 z
          · exact absurd a2 z
    · by_cases z : y ≤ c.d
      · refine (i2 c x ⟨hc, z⟩ g1 g2 g3).congr fun b => ?_
        constructor
        · rintro (⟨⟨a1, a2⟩, a3⟩ | rfl | rfl)
          · exact ⟨.inl ⟨a1, a3⟩, a2⟩
          · exact ⟨.inr (.inl rfl), z⟩
          · exact ⟨.inr (.inr rfl), z⟩
        · rintro ⟨⟨a1, a3⟩ | rfl | rfl, a2⟩
          · exact .inl ⟨⟨a1, a2⟩, a3⟩
          · exact .inr (.inl rfl)
          · exact .inr (.inr rfl)
      · refine s2.congr fun b => ?_
        constructor
        · rintro ⟨a1, a2⟩
          exact ⟨.inl ⟨a1, fun e => z (e ▸ a2)⟩, a2⟩
        · rintro ⟨⟨a1, a3⟩ | rfl | rfl, a2⟩
          · exact ⟨a1, a2⟩
          · exact absurd a2 z
          · exact absurd a2 z
theorem Slc.cutH {R : Box} {S : Box → Prop} (h : Slc R S) (c : Box) (y : Int) (hc : S c) (h1 : c.d < y) (h2 : y < c.u) (h3 : c.l < c.r) : Slc R (cutS S c (c.l, c.d, c.r, y) (c.l, y, c.r, c.u)) := by
  have k := (h.tp.cutV (Fl.tp c) y hc h1 h2 h3).tp
  refine k.congr fun b => ?_
  constructor
  · rintro (⟨a1, a2⟩ | a | a)
    · exact .inl ⟨a1, fun z => a2 (by rw [z])⟩
    · exact .inr (.inl (tp_inj a))
    · exact .inr (.inr (tp_inj a))
  · rintro (⟨a1, a2⟩ | rfl | rfl)
    · exact .inl ⟨a1, fun z => a2 (tp_inj z)⟩
    · exact .inr (.inl rfl)
    · exact .inr (.inr rfl)
end Fl
namespace Fl
theorem Slc.edgeR {R : Box} {S : Box → Prop} (h : Slc R S) : TlR R S → ∀ a, S a → a.d = R.d → a.u = R.u → a.r = R.r → a = R ∨ (R.l < a.l ∧ Slc (R.l, R.d, a.l, R.u) (fun e => S e ∧ e ≠ a)) := by
  induction h with
  | @one R S h => exact fun _ a ha _ _ _ => .inl ((h a).mp ha)
  | @vert R S x h1 h2 h3 s1 s2 i1 i2 =>
    intro t a ha e1 e2 e3
    have ta := t.tru a ha
    have xa : x ≤ a.l := by rcases h3 a ha with z | z <;> omega
    have off : ∀ e, S e → e ≠ a → e.r ≤ a.l := fun e he ne => by
      have ie := t.inn e he
      have te := t.tru e he
      by_cases z : e.r ≤ a.l
      · exact z
      · exact absurd (t.uniq e a he ha (by omega) (by omega) (by omega) (by omega)) ne
    rcases i2 (t.right h1 h3) a ⟨ha, xa⟩ e1 e2 e3 with z | ⟨z1, z2⟩
    · have al : a.l = x := by rw [z]
      rw [al] at off
      refine .inr ⟨by omega, ?_⟩
      rw [al]
      refine s1.congr fun b => ⟨fun ⟨g1, g2⟩ => ⟨g1, fun z => ?_⟩, fun ⟨g1, g2⟩ => ⟨g1, off b g1 g2⟩⟩
      rw [z] at g2; omega
    · refine .inr ⟨by dsimp only [Box.l] at *; omega, .vert x h1 z1 (fun b hb => h3 b hb.1) ?_ ?_⟩
      · refine s1.congr fun b => ⟨fun ⟨g1, g2⟩ => ⟨⟨g1, fun z => ?_⟩, g2⟩, fun ⟨⟨g1, g2⟩, g3⟩ => ⟨g1, g3⟩⟩
        rw [z] at g2; omega
      · exact z2.congr fun b => ⟨fun ⟨⟨g1, g2⟩, g3⟩ => ⟨⟨g1, g3⟩, g2⟩, fun ⟨⟨g1, g2⟩, g3⟩ => ⟨⟨g1, g3⟩, g2⟩⟩
  | @horz R S y h1 h2 h3 s1 s2 i1 i2 =>
    intro t a ha e1 e2 e3
    rcases h3 a ha with z | z <;> omega
theorem Slc.edgeL {R : Box} {S : Box → Prop} (h : Slc R S) : TlR R S → ∀ a, S a → a.d = R.d → a.u = R.u → a.l = R.l → a = R ∨ (a.r < R.r ∧ Slc (a.r, R.d, R.r, R.u) (fun e => S e ∧ e ≠ a)) := by
  induction h with
  | @one R S h => exact fun _ a ha _ _ _ => .inl ((h a).mp ha)
  | @vert R S x h1 h2 h3 s1 s2 i1 i2 =>
    intro t a ha e1 e2 e3
    have ta := t.tru a ha
    have xa : a.r ≤ x := by rcases h3 a ha with z | z <;> omega
    have off : ∀ e, S e → e ≠ a → a.r ≤ e.l := fun e he ne => by
      have ie := t.inn e he
      have te := t.tru e he
      by_cases z : a.r ≤ e.l
      · exact z
      · exact absurd (t.uniq e a he ha (by omega) (by omega) (by omega) (by omega)) ne
    rcases i1 (t.left h2 h3) a ⟨ha, xa⟩ e1 e2 e3 with z | ⟨z1, z2⟩
    · have al : a.r = x := by rw [z]
      rw [al] at off
      refine .inr ⟨by omega, ?_⟩
      rw [al]
      refine s2.congr fun b => ⟨fun ⟨g1, g2⟩ => ⟨g1, fun z => ?_⟩, fun ⟨g1, g2⟩ => ⟨g1, off b g1 g2⟩⟩
      rw [z] at g2; omega
    · refine .inr ⟨by dsimp only [Box.r] at *; omega, .vert x z1 h2 (fun b hb => h3 b hb.1) ?_ ?_⟩
      · exact z2.congr fun b => ⟨fun ⟨⟨g1, g2⟩, g3⟩ => ⟨⟨g1, g3⟩, g2⟩, fun ⟨⟨g1, g2⟩, g3⟩ => ⟨⟨g1, g3⟩, g2⟩⟩
      · refine s2.congr fun b => ⟨fun ⟨g1, g2⟩ => ⟨⟨g1, fun z => ?_⟩, g2⟩, fun ⟨⟨g1, g2⟩, g3⟩ => ⟨g1, g3⟩⟩
        rw [z] at g2; omega
  | @horz R S y h1 h2 h3 s1 s2 i1 i2 =>
    intro t a ha e1 e2 e3
    rcases h3 a ha with z | z <;> omega
theorem Gen4.sub {S T : Box → Prop} (g : Gen4 S) (h : ∀ b, T b → S b) : Gen4 T := fun e a b f he ha hb hf => g e a b f (h e he) (h a ha) (h b hb) (h f hf)
noncomputable abbrev joinS (S : Box → Prop) (a b c : Box) : Box → Prop := fun e => (S e ∧ e ≠ a ∧ e ≠ b) ∨ e = c
theorem Slc.joinV {R : Box} {S : Box → Prop} (h : Slc R S) : TlR R S → Gen4 S → ∀ a b, S a → S b → a.r = b.l → a.d = b.d → a.u = b.u → Slc R (joinS S a b (a.l, a.d, b.r, a.u)) := by
  induction h with
  | @one R S h =>
    intro t g a b ha hb e1 e2 e3
    have ta := t.tru a ha
    have tb := t.tru b hb
    have := (h a).mp ha
    have := (h b).mp hb
    subst this
    subst a
    omega
  | @horz R S y h1 h2 h3 s1 s2 i1 i2 =>
    intro t g a b ha hb e1 e2 e3
    have ta := t.tru a ha
    refine .horz y h1 h2 ?_ ?_ ?_
    · rintro e (⟨z1, z2⟩ | rfl)
      · exact h3 e z1
      · exact h3 a ha
    · by_cases z : a.u ≤ y
      · refine (i1 (t.low h2 h3) (g.sub fun b hb => hb.1) a b ⟨ha, z⟩ ⟨hb, by omega⟩ e1 e2 e3).congr fun e => ?_
        constructor
        · rintro (⟨⟨a1, a2⟩, a3⟩ | rfl)
          · exact ⟨.inl ⟨a1, a3⟩, a2⟩
          · exact ⟨.inr rfl, z⟩
        · rintro ⟨⟨a1, a3⟩ | rfl, a2⟩
          · exact .inl ⟨⟨a1, a2⟩, a3⟩
          · exact .inr rfl
      · refine s1.congr fun e => ?_
        constructor
        · rintro ⟨a1, a2⟩
          exact ⟨.inl ⟨a1, fun z' => z (z' ▸ a2), fun z' => by rw [z'] at a2; omega⟩, a2⟩
        · rintro ⟨⟨a1, a3⟩ | rfl, a2⟩
          · exact ⟨a1, a2⟩
          · exact absurd a2 z
    · by_cases z : y ≤ a.d
      · refine (i2 (t.high h1 h3) (g.sub fun b hb => hb.1) a b ⟨ha, z⟩ ⟨hb, by omega⟩ e1 e2 e3).congr fun e => ?_
        constructor
        · rintro (⟨⟨a1, a2⟩, a3⟩ | rfl)
          · exact ⟨.inl ⟨a1, a3⟩, a2⟩
          · exact ⟨.inr rfl, z⟩
        · rintro ⟨⟨a1, a3⟩ | rfl, a2⟩
          · exact .inl ⟨⟨a1, a2⟩, a3⟩
          · exact .inr rfl
      · refine s2.congr fun e => ?_
        constructor
        · rintro ⟨a1, a2⟩
          exact ⟨.inl ⟨a1, fun z' => z (z' ▸ a2), fun z' => by rw [z'] at a2; omega⟩, a2⟩
        · rintro ⟨⟨a1, a3⟩ | rfl, a2⟩
          · exact ⟨a1, a2⟩
          · exact absurd a2 z
  | @vert R S x h1 h2 h3 s1 s2 i1 i2 =>
    intro t g a b ha hb e1 e2 e3
    have ta := t.tru a ha
    have tb := t.tru b hb
    have na := t.inn a ha
    have nb := t.inn b hb
    by_cases zl : b.r ≤ x
    · refine .vert x h1 h2 ?_ ?_ ?_
      · rintro e (⟨z1, z2⟩ | rfl)
        · exact h3 e z1
        · exact .inl zl
      · refine (i1 (t.left h2 h3) (g.sub fun b hb => hb.1) a b ⟨ha, by omega⟩ ⟨hb, zl⟩ e1 e2 e3).congr fun e => ?_
        constructor
        · rintro (⟨⟨a1, a2⟩, a3⟩ | rfl)
          · exact ⟨.inl ⟨a1, a3⟩, a2⟩
          · exact ⟨.inr rfl, zl⟩
        · rintro ⟨⟨a1, a3⟩ | rfl, a2⟩
          · exact .inl ⟨⟨a1, a2⟩, a3⟩
          · exact .inr rfl
      · refine s2.congr fun e => ?_
        constructor
        · rintro ⟨a1, a2⟩
          exact ⟨.inl ⟨a1, fun z' => by rw [z'] at a2; omega, fun z' => by rw [z'] at a2; omega⟩, a2⟩
        · rintro ⟨⟨a1, a3⟩ | rfl, a2⟩
          · exact ⟨a1, a2⟩
          · dsimp only [Box.l, Box.d, Box.r, Box.u] at *; omega
    by_cases zr : x ≤ a.l
    · refine .vert x h1 h2 ?_ ?_ ?_
      · rintro e (⟨z1, z2⟩ | rfl)
        · exact h3 e z1
        · exact .inr zr
      · refine s1.congr fun e => ?_
        constructor
        · rintro ⟨a1, a2⟩
          exact ⟨.inl ⟨a1, fun z' => by rw [z'] at a2; omega, fun z' => by rw [z'] at a2; omega⟩, a2⟩
        · rintro ⟨⟨a1, a3⟩ | rfl, a2⟩
          · exact ⟨a1, a2⟩
          · dsimp only [Box.l, Box.d, Box.r, Box.u] at *; omega
      · refine (i2 (t.right h1 h3) (g.sub fun b hb => hb.1) a b ⟨ha, zr⟩ ⟨hb, by omega⟩ e1 e2 e3).congr fun e => ?_
        constructor
        · rintro (⟨⟨a1, a2⟩, a3⟩ | rfl)
          · exact ⟨.inl ⟨a1, a3⟩, a2⟩
          · exact ⟨.inr rfl, zr⟩
        · rintro ⟨⟨a1, a3⟩ | rfl, a2⟩
          · exact .inl ⟨⟨a1, a2⟩, a3⟩
          · exact .inr rfl
    have ax : a.r = x := by rcases h3 a ha with z | z <;> rcases h3 b hb with z' | z' <;> omega
    -- the side between both goes from bottom to top
    have ad : a.d = R.d := by
      by_cases z : R.d < a.d
      · obtain ⟨e, he, p1, p2, p3, p4⟩ := t.full (x - 1) (a.d - 1) (by omega) (by omega) (by omega) (by omega)
        obtain ⟨f, hf, q1, q2, q3, q4⟩ := t.full x (a.d - 1) (by omega) (by omega) (by omega) (by omega)
        have er : e.r = x := by rcases h3 e he with z | z <;> omega
        have fl : f.l = x := by rcases h3 f hf with z | z <;> omega
        have eu : e.u = a.d := by
          by_cases z' : a.d < e.u
          · have := t.uniq e a he ha (by omega) (by omega) (by omega) (by omega)
            rw [this] at p3; omega
          · omega
        have fu : f.u = a.d := by
          by_cases z' : a.d < f.u
          · have := t.uniq f b hf hb (by omega) (by omega) (by omega) (by omega)
            rw [this] at q3; omega
          · omega
        exact absurd ⟨by omega, by omega, by omega, by omega, by omega, by omega⟩ (g e a b f he ha hb hf)
      · omega
    have au : a.u = R.u := by
      by_cases z : a.u < R.u
      · obtain ⟨e, he, p1, p2, p3, p4⟩ := t.full (x - 1) a.u (by omega) (by omega) (by omega) (by omega)
        obtain ⟨f, hf, q1, q2, q3, q4⟩ := t.full x a.u (by omega) (by omega) (by omega) (by omega)
        have er : e.r = x := by rcases h3 e he with z | z <;> omega
        have fl : f.l = x := by rcases h3 f hf with z | z <;> omega
        have eu : e.d = a.u := by
          by_cases z' : e.d < a.u
          · have := t.uniq e a he ha (by omega) (by omega) (by omega) (by omega)
            rw [this] at p4; omega
          · omega
        have fu : f.d = a.u := by
          by_cases z' : f.d < a.u
          · have := t.uniq f b hf hb (by omega) (by omega) (by omega) (by omega)
            rw [this] at q4; omega
          · omega
        exact absurd ⟨by omega, by omega, by omega, by omega, by omega, by omega⟩ (g a e f b ha he hf hb)
      · omega
    have tl := t.left h2 h3
    have tr := t.right h1 h3
    have offR : ∀ e, S e → x ≤ e.l → e ≠ b → b.r ≤ e.l := fun e he hx ne => by
      have ie := t.inn e he
      have te := t.tru e he
      by_cases z : b.r ≤ e.l
      · exact z
      · exact absurd (t.uniq e b he hb (by omega) (by omega) (by omega) (by omega)) ne
    have offL : ∀ e, S e → e.r ≤ x → e ≠ a → e.r ≤ a.l := fun e he hx ne => by
      have ie := t.inn e he
      have te := t.tru e he
      by_cases z : e.r ≤ a.l
      · exact z
      · exact absurd (t.uniq e a he ha (by omega) (by omega) (by omega) (by omega)) ne
    have inner : Slc (a.l, R.d, R.r, R.u) (fun e => (S e ∧ x ≤ e.l ∧ e ≠ b) ∨ e = (a.l, a.d, b.r, a.u)) := by
      rcases s2.edgeL tr b ⟨hb, by omega⟩ (by dsimp only [Box.d] at *; omega) (by dsimp only [Box.u] at *; omega) (by dsimp only [Box.l] at *; omega) with z | ⟨z1, z2⟩
      · have br : b.r = R.r := by rw [z]
        refine .one fun e => ⟨?_, fun z => .inr ?_⟩
        · rintro (⟨g1, g2, g3⟩ | rfl)
          · have := offR e g1 g2 g3
            have := t.inn e g1
            have := t.tru e g1
            omega
          · rw [br, ad, au]
        · rw [z, br, ad, au]
      · refine .vert b.r (by dsimp only [Box.l, Box.r] at *; omega) z1 ?_ (.one fun e => ⟨?_, ?_⟩) ?_
        · rintro e (⟨g1, g2, g3⟩ | rfl)
          · exact .inr (offR e g1 g2 g3)
          · exact .inl (Int.le_refl _)
        · rintro ⟨⟨g1, g2, g3⟩ | rfl, g4⟩
          · have := offR e g1 g2 g3
            have := t.tru e g1
            omega
          · rw [ad, au]
        · rintro rfl
          exact ⟨.inr (by rw [ad, au]), Int.le_refl _⟩
        · refine z2.congr fun e => ⟨fun ⟨⟨g1, g2⟩, g3⟩ => ⟨.inl ⟨g1, g2, g3⟩, offR e g1 g2 g3⟩, ?_⟩
          rintro ⟨⟨g1, g2, g3⟩ | rfl, g4⟩
          · exact ⟨⟨g1, g2⟩, g3⟩
          · dsimp only [Box.l, Box.d, Box.r, Box.u] at *; omega
    rcases s1.edgeR tl a ⟨ha, by omega⟩ ad au (by dsimp only [Box.r] at *; omega) with z | ⟨z1, z2⟩
    · have al : a.l = R.l := by rw [z]
      rw [al] at inner
      refine inner.congr fun e => ⟨?_, ?_⟩
      · rintro (⟨g1, g2, g3⟩ | rfl)
        · exact .inl ⟨g1, fun z => by rw [z] at g2; omega, g3⟩
        · exact .inr (by rw [al])
      · rintro (⟨g1, g2, g3⟩ | rfl)
        · refine .inl ⟨g1, ?_, g3⟩
          rcases h3 e g1 with w | w
          · have := offL e g1 w g2
            have := t.inn e g1
            have := t.tru e g1
            omega
          · exact w
        · exact .inr (by rw [al])
    · refine .vert a.l z1 (by omega) ?_ ?_ ?_
      · rintro e (⟨g1, g2, g3⟩ | rfl)
        · rcases h3 e g1 with w | w
          · exact .inl (offL e g1 w g2)
          · exact .inr (by omega)
        · exact .inr (Int.le_refl _)
      · refine z2.congr fun e => ⟨fun ⟨⟨g1, g2⟩, g3⟩ => ⟨.inl ⟨g1, g3, fun z => by rw [z] at g2; omega⟩, offL e g1 g2 g3⟩, ?_⟩
        rintro ⟨⟨g1, g2, g3⟩ | rfl, g4⟩
        · exact ⟨⟨g1, by omega⟩, g2⟩
        · dsimp only [Box.l, Box.d, Box.r, Box.u] at *; omega
      · refine inner.congr fun e => ⟨?_, ?_⟩
        · rintro (⟨g1, g2, g3⟩ | rfl)
          · exact ⟨.inl ⟨g1, fun z => by rw [z] at g2; omega, g3⟩, by omega⟩
          · exact ⟨.inr rfl, Int.le_refl _⟩
        · rintro ⟨⟨g1, g2, g3⟩ | rfl, g4⟩
          · refine .inl ⟨g1, ?_, g3⟩
            rcases h3 e g1 with w | w
            · have := offL e g1 w g2
              have := t.tru e g1
              omega
            · exact w
          · exact .inr rfl
theorem Slc.joinH {R : Box} {S : Box → Prop} (h : Slc R S) (t : TlR R S) (g : Gen4 S) (a b : Box) (ha : S a) (hb : S b) (e1 : a.u = b.d) (e2 : a.l = b.l) (e3 : a.r = b.r) : Slc R (joinS S a b (a.l, a.d, a.r, b.u)) := by
  have k := (h.tp.joinV t.tp g.tp (Fl.tp a) (Fl.tp b) ha hb e1 e2 e3).tp
  refine k.congr fun b => ?_
  constructor
  · rintro (⟨a1, a2, a3⟩ | a)
    · exact .inl ⟨a1, fun z => a2 (by rw [z]), fun z => a3 (by rw [z])⟩
    · exact .inr (tp_inj a)
  · rintro (⟨a1, a2, a3⟩ | rfl)
    · exact .inl ⟨a1, fun z => a2 (tp_inj z), fun z => a3 (tp_inj z)⟩
    · exact .inr rfl
theorem Slc.some {R : Box} {S : Box → Prop} (h : Slc R S) : (∀ b, S b ↔ b = R) ∨ ∃ a b, S a ∧ S b ∧ ((a.r = b.l ∧ a.d = b.d ∧ a.u = b.u) ∨ (a.u = b.d ∧ a.l = b.l ∧ a.r = b.r)) := by
  induction h with
  | one h => exact .inl h
  | @vert R S x h1 h2 h3 s1 s2 i1 i2 =>
    rcases i1 with z1 | ⟨a, b, ha, hb, k⟩
    · rcases i2 with z2 | ⟨a, b, ha, hb, k⟩
      · exact .inr ⟨_, _, ((z1 _).mpr rfl).1, ((z2 _).mpr rfl).1, .inl ⟨rfl, rfl, rfl⟩⟩
      · exact .inr ⟨a, b, ha.1, hb.1, k⟩
    · exact .inr ⟨a, b, ha.1, hb.1, k⟩
  | @horz R S y h1 h2 h3 s1 s2 i1 i2 =>
    rcases i1 with z1 | ⟨a, b, ha, hb, k⟩
    · rcases i2 with z2 | ⟨a, b, ha, hb, k⟩
      · exact .inr ⟨_, _, ((z1 _).mpr rfl).1, ((z2 _).mpr rfl).1, .inr ⟨rfl, rfl, rfl⟩⟩
      · exact .inr ⟨a, b, ha.1, hb.1, k⟩
    · exact .inr ⟨a, b, ha.1, hb.1, k⟩
end Fl
namespace Fl
theorem Tile.tlr {w h : Int} {bs : List Box} (t : Tile w h bs) (tru : ∀ b ∈ bs, b.l < b.r ∧ b.d < b.u) : TlR (0, 0, w, h) (· ∈ bs) := by
  refine ⟨tru, fun b hb => t.inn b hb, fun a b ha hb h1 h2 h3 h4 => ?_, fun x y h1 h2 h3 h4 => ?_⟩
  · obtain ⟨i, hi, rfl⟩ := List.mem_iff_getElem.mp ha
    obtain ⟨j, hj, rfl⟩ := List.mem_iff_getElem.mp hb
    have ti := tru _ (List.getElem_mem hi)
    have tj := tru _ (List.getElem_mem hj)
    have pw := List.pairwise_iff_getElem.mp t.noOv
    rcases Nat.lt_trichotomy i j with z | z | z
    · have := pw i j hi hj z
      rw [ov_iff.mpr ⟨by omega, by omega, by omega, by omega, by omega, by omega, by omega, by omega⟩] at this
      cases this
    · subst z; rfl
    · have := pw j i hj hi z
      rw [ov_iff.mpr ⟨by omega, by omega, by omega, by omega, by omega, by omega, by omega, by omega⟩] at this
      cases this
  · have := t.one x y h1 h2 h3 h4
    obtain ⟨b, hb, k⟩ := List.countP_pos_iff.mp (show 0 < bs.countP (hits x y) by omega)
    exact ⟨b, hb, hits_iff.mp k⟩
theorem in_four {α : Type} [DecidableEq α] {l m : List α} (h1 : l.Nodup) (h2 : ∀ r ∈ l, r ∈ m) (h3 : m.length ≤ l.length) : ∀ r ∈ m, r ∈ l := by
  have key : ∀ (l m : List α), l.Nodup → (∀ r ∈ l, r ∈ m) → ∃ k, m.Perm (l ++ k) := by
    intro l
    induction l with
    | nil => exact fun m _ _ => ⟨m, .refl _⟩
    | cons x l ih =>
      intro m h1 h2
      obtain ⟨n1, n2⟩ := List.nodup_cons.mp h1
      obtain ⟨k, p⟩ := ih (m.erase x) n2 fun r hr => by
        have ne : r ≠ x := fun z => n1 (z ▸ hr)
        exact (List.mem_erase_of_ne ne).mpr (h2 r (List.mem_cons_of_mem _ hr))
      exact ⟨k, (List.perm_cons_erase (h2 x List.mem_cons_self)).trans (p.cons x)⟩
  obtain ⟨k, p⟩ := key l m h1 h2
  have := p.length_eq
  rw [List.length_append] at this
  obtain rfl : k = [] := List.eq_nil_of_length_eq_zero (by omega)
  rw [List.append_nil] at p
  exact fun r hr => p.mem_iff.mp hr
theorem TlR.four {R : Box} {bs : List Box} (t : TlR R (· ∈ bs)) (hR : R.l < R.r ∧ R.d < R.u) (n : bs.length ≤ 4) :
    (∀ b, b ∈ bs ↔ b = R) ∨ (∃ x, R.l < x ∧ x < R.r ∧ ∀ b ∈ bs, b.r ≤ x ∨ x ≤ b.l) ∨ (∃ y, R.d < y ∧ y < R.u ∧ ∀ b ∈ bs, b.u ≤ y ∨ y ≤ b.d) := by
  obtain ⟨A, hA, a1, a2, a3, a4⟩ := t.full R.l R.d (by omega) (by omega) (by omega) (by omega)
  obtain ⟨B, hB, b1, b2, b3, b4⟩ := t.full (R.r - 1) R.d (by omega) (by omega) (by omega) (by omega)
  obtain ⟨C, hC, c1, c2, c3, c4⟩ := t.full (R.r - 1) (R.u - 1) (by omega) (by omega) (by omega) (by omega)
  obtain ⟨D, hD, d1, d2, d3, d4⟩ := t.full R.l (R.u - 1) (by omega) (by omega) (by omega) (by omega)
  have iA := t.inn A hA
  have iB := t.inn B hB
  have iC := t.inn C hC
  have iD := t.inn D hD
  have all : ∀ X, X ∈ bs → X.l = R.l → X.r = R.r → X.d = R.d → X.u = R.u → (∀ b, b ∈ bs ↔ b = R) := fun X hX e1 e2 e3 e4 b => by
    have eX : X = R := box_eq e1 e3 e2 e4
    subst eX
    refine ⟨fun hb => ?_, fun z => by rw [z]; exact hX⟩
    have := t.tru b hb
    have := t.inn b hb
    exact t.uniq b X hb hX (by omega) (by omega) (by omega) (by omega)
  have tall : ∀ X, X ∈ bs → X.d = R.d → X.u = R.u → (∀ b ∈ bs, b.r ≤ X.r ∨ X.r ≤ b.l) ∧ (∀ b ∈ bs, b.r ≤ X.l ∨ X.l ≤ b.l) := fun X hX e1 e2 => by
    have tX := t.tru X hX
    refine ⟨fun b hb => ?_, fun b hb => ?_⟩
    · have := t.tru b hb
      have := t.inn b hb
      by_cases z : b.r ≤ X.r ∨ X.r ≤ b.l
      · exact z
      · have := t.uniq b X hb hX (by omega) (by omega) (by omega) (by omega)
        subst this; omega
    · have := t.tru b hb
      have := t.inn b hb
      by_cases z : b.r ≤ X.l ∨ X.l ≤ b.l
      · exact z
      · have := t.uniq b X hb hX (by omega) (by omega) (by omega) (by omega)
        subst this; omega
  have flat : ∀ X, X ∈ bs → X.l = R.l → X.r = R.r → (∀ b ∈ bs, b.u ≤ X.u ∨ X.u ≤ b.d) ∧ (∀ b ∈ bs, b.u ≤ X.d ∨ X.d ≤ b.d) := fun X hX e1 e2 => by
    have tX := t.tru X hX
    refine ⟨fun b hb => ?_, fun b hb => ?_⟩
    · have := t.tru b hb
      have := t.inn b hb
      by_cases z : b.u ≤ X.u ∨ X.u ≤ b.d
      · exact z
      · have := t.uniq b X hb hX (by omega) (by omega) (by omega) (by omega)
        subst this; omega
    · have := t.tru b hb
      have := t.inn b hb
      by_cases z : b.u ≤ X.d ∨ X.d ≤ b.d
      · exact z
      · have := t.uniq b X hb hX (by omega) (by omega) (by omega) (by omega)
        subst this; omega
  by_cases AB : A = B
  · subst AB
    by_cases z : A.u = R.u
    · exact .inl (all A hA (by omega) (by omega) (by omega) z)
    · exact .inr (.inr ⟨A.u, by omega, by omega, (flat A hA (by omega) (by omega)).1⟩)
  by_cases AD : A = D
  · subst AD
    by_cases z : A.r = R.r
    · exact .inl (all A hA (by omega) (by omega) (by omega) (by omega))
    · exact .inr (.inl ⟨A.r, by omega, by omega, (tall A hA (by omega) (by omega)).1⟩)
  by_cases BC : B = C
  · subst BC
    by_cases z : B.l = R.l
    · exact .inl (all B hB (by omega) (by omega) (by omega) (by omega))
    · exact .inr (.inl ⟨B.l, by omega, by omega, (tall B hB (by omega) (by omega)).2⟩)
  by_cases CD : C = D
  · subst CD
    by_cases z : C.d = R.d
    · exact .inl (all C hC (by omega) (by omega) (by omega) (by omega))
    · exact .inr (.inr ⟨C.d, by omega, by omega, (flat C hC (by omega) (by omega)).2⟩)
  by_cases AC : A = C
  · subst AC
    exact .inl (all A hA (by omega) (by omega) (by omega) (by omega))
  by_cases BD : B = D
  · subst BD
    exact .inl (all B hB (by omega) (by omega) (by omega) (by omega))
  have mem := in_four (l := [A, B, C, D]) (m := bs) (by simp [AB, AC, AD, BC, BD, CD]) (fun r hr => by
    simp only [List.mem_cons, List.not_mem_nil, or_false] at hr
    rcases hr with rfl | rfl | rfl | rfl <;> assumption) n
  have four : ∀ x y, R.l ≤ x → x < R.r → R.d ≤ y → y < R.u → (A.l ≤ x ∧ x < A.r ∧ A.d ≤ y ∧ y < A.u) ∨ (B.l ≤ x ∧ x < B.r ∧ B.d ≤ y ∧ y < B.u) ∨ (C.l ≤ x ∧ x < C.r ∧ C.d ≤ y ∧ y < C.u) ∨ (D.l ≤ x ∧ x < D.r ∧ D.d ≤ y ∧ y < D.u) := fun x y h1 h2 h3 h4 => by
    obtain ⟨b, hb, k⟩ := t.full x y h1 h2 h3 h4
    have := mem b hb
    simp only [List.mem_cons, List.not_mem_nil, or_false] at this
    rcases this with rfl | rfl | rfl | rfl
    · exact .inl k
    · exact .inr (.inl k)
    · exact .inr (.inr (.inl k))
    · exact .inr (.inr (.inr k))
  have nAB : ¬ (A.l < B.r ∧ B.l < A.r ∧ A.d < B.u ∧ B.d < A.u) := fun ⟨z1, z2, z3, z4⟩ => AB (t.uniq _ _ hA hB z1 z2 z3 z4)
  have nAC : ¬ (A.l < C.r ∧ C.l < A.r ∧ A.d < C.u ∧ C.d < A.u) := fun ⟨z1, z2, z3, z4⟩ => AC (t.uniq _ _ hA hC z1 z2 z3 z4)
  have nAD : ¬ (A.l < D.r ∧ D.l < A.r ∧ A.d < D.u ∧ D.d < A.u) := fun ⟨z1, z2, z3, z4⟩ => AD (t.uniq _ _ hA hD z1 z2 z3 z4)
  have nBC : ¬ (B.l < C.r ∧ C.l < B.r ∧ B.d < C.u ∧ C.d < B.u) := fun ⟨z1, z2, z3, z4⟩ => BC (t.uniq _ _ hB hC z1 z2 z3 z4)
  have nBD : ¬ (B.l < D.r ∧ D.l < B.r ∧ B.d < D.u ∧ D.d < B.u) := fun ⟨z1, z2, z3, z4⟩ => BD (t.uniq _ _ hB hD z1 z2 z3 z4)
  have nCD : ¬ (C.l < D.r ∧ D.l < C.r ∧ C.d < D.u ∧ D.d < C.u) := fun ⟨z1, z2, z3, z4⟩ => CD (t.uniq _ _ hC hD z1 z2 z3 z4)
  have tA := t.tru A hA
  have tB := t.tru B hB
  have tC := t.tru C hC
  have tD := t.tru D hD
  have eAB : B.l = A.r := by
    have := four A.r R.d (by omega) (by omega) (by omega) (by omega)
    omega
  have eDC : C.l = D.r := by
    have := four D.r (R.u - 1) (by omega) (by omega) (by omega) (by omega)
    omega
  have eAD : D.d = A.u := by
    have := four R.l A.u (by omega) (by omega) (by omega) (by omega)
    omega
  have eBC : C.d = B.u := by
    have := four (R.r - 1) B.u (by omega) (by omega) (by omega) (by omega)
    omega
  by_cases z1 : A.r = D.r
  · refine .inr (.inl ⟨A.r, by omega, by omega, fun b hb => ?_⟩)
    have := mem b hb
    simp only [List.mem_cons, List.not_mem_nil, or_false] at this
    rcases this with rfl | rfl | rfl | rfl <;> omega
  by_cases z2 : A.u = B.u
  · refine .inr (.inr ⟨A.u, by omega, by omega, fun b hb => ?_⟩)
    have := mem b hb
    simp only [List.mem_cons, List.not_mem_nil, or_false] at this
    rcases this with rfl | rfl | rfl | rfl <;> omega
  exfalso
  rcases Int.lt_or_gt_of_ne z1 with z1 | z1 <;> rcases Int.lt_or_gt_of_ne z2 with z2 | z2
  · exact nBD (by omega)
  · have := four A.r B.u (by omega) (by omega) (by omega) (by omega)
    omega
  · have := four D.r A.u (by omega) (by omega) (by omega) (by omega)
    omega
  · exact nAC (by omega)
end Fl
namespace Fl
noncomputable def uniB (a b : Box) : Box := (min a.l b.l, min a.d b.d, max a.r b.r, max a.u b.u)
theorem uniB_comm (a b : Box) : uniB a b = uniB b a := by
  unfold uniB
  rw [Int.min_comm, Int.min_comm a.d, Int.max_comm, Int.max_comm a.u]
noncomputable def Nbr (a b : Box) : Prop := (a.r = b.l ∧ a.d = b.d ∧ a.u = b.u) ∨ (a.u = b.d ∧ a.l = b.l ∧ a.r = b.r)
theorem Nbr.parts {a b : Box} (h : Nbr a b) (ta : a.l < a.r ∧ a.d < a.u) (tb : b.l < b.r ∧ b.d < b.u) : Parts (uniB a b) [a, b] := by
  obtain ⟨a1, a2, a3, a4⟩ := a
  obtain ⟨b1, b2, b3, b4⟩ := b
  dsimp only [Box.l, Box.d, Box.r, Box.u] at ta tb
  unfold uniB
  rcases h with ⟨h1, h2, h3⟩ | ⟨h1, h2, h3⟩ <;> dsimp only [Box.l, Box.d, Box.r, Box.u] at h1 h2 h3 ⊢ <;> subst h1 <;> subst h2 <;> subst h3
  · rw [Int.min_eq_left (by omega), Int.min_eq_left (by omega), Int.max_eq_right (by omega), Int.max_eq_left (by omega)]
    exact cut_x (b := (a1, a2, b3, a4)) (x := a3) ta.1 tb.1 ta.2
  · rw [Int.min_eq_left (by omega), Int.min_eq_left (by omega), Int.max_eq_left (by omega), Int.max_eq_right (by omega)]
    exact cut_y (b := (a1, a2, a3, b4)) (y := a4) ta.2 tb.2 ta.1
theorem Nbr.uni {a b : Box} (h : Nbr a b) (ta : a.l < a.r ∧ a.d < a.u) (tb : b.l < b.r ∧ b.d < b.u) : ((a.r = b.l ∧ a.d = b.d ∧ a.u = b.u) ∧ uniB a b = (a.l, a.d, b.r, a.u)) ∨ ((a.u = b.d ∧ a.l = b.l ∧ a.r = b.r) ∧ uniB a b = (a.l, a.d, a.r, b.u)) := by
  rcases h with h | h
  · refine .inl ⟨h, box_eq ?_ ?_ ?_ ?_⟩ <;> unfold uniB <;> dsimp only [Box.l, Box.d, Box.r, Box.u] at * <;> omega
  · refine .inr ⟨h, box_eq ?_ ?_ ?_ ?_⟩ <;> unfold uniB <;> dsimp only [Box.l, Box.d, Box.r, Box.u] at * <;> omega
theorem Tile.join {w h : Int} {ps B : List Box} {b : Box} (t : Tile w h (ps ++ B)) (p : Parts b ps) (hb : b.l < b.r ∧ b.d < b.u) (ib : inB w h b) : Tile w h (b :: B) := by
  refine ⟨fun q hq => ?_, fun q hq => ?_, fun x y x0 x1 y0 y1 => ?_⟩
  · rcases List.mem_cons.mp hq with rfl | z
    · exact .inl hb
    · exact t.ok q (by simp [z])
  · rcases List.mem_cons.mp hq with rfl | z
    · exact ib
    · exact t.inn q (by simp [z])
  · have := t.one x y x0 x1 y0 y1
    rw [List.countP_append, p.one] at this
    rw [List.countP_cons]
    omega
structure FlB (w h : Int) (bs : List Box) : Prop where
  tile : Tile w h bs
  tru : ∀ b ∈ bs, b.l < b.r ∧ b.d < b.u
theorem FlB.perm {w h : Int} {bs cs : List Box} (t : FlB w h bs) (p : cs.Perm bs) : FlB w h cs := ⟨t.tile.perm p, fun b hb => t.tru b (p.mem_iff.mp hb)⟩
theorem FlB.tlr {w h : Int} {bs : List Box} (t : FlB w h bs) : TlR (0, 0, w, h) (· ∈ bs) := t.tile.tlr t.tru
theorem FlB.nd {w h : Int} {bs : List Box} (t : FlB w h bs) : bs.Nodup := by
  refine List.Pairwise.imp_of_mem (fun {a b} ha hb k e => ?_) t.tile.noOv
  subst e
  have := t.tru a ha
  rw [ov_iff.mpr ⟨by omega, by omega, by omega, by omega, by omega, by omega, by omega, by omega⟩] at k
  cases k
structure Jnd (w h : Int) (bs cs : List Box) : Prop where
  fl : FlB w h cs
  gen : Gen4 (· ∈ bs) → Gen4 (· ∈ cs)
  slc : Gen4 (· ∈ bs) → (Slc (0, 0, w, h) (· ∈ bs) ↔ Slc (0, 0, w, h) (· ∈ cs))
theorem FlB.join {w h : Int} {bs cs rest : List Box} {a b : Box} (t : FlB w h bs) (n : Nbr a b) (p : bs.Perm (a :: b :: rest)) (q : cs.Perm (uniB a b :: rest)) : Jnd w h bs cs := by
  have ta := t.tru a (p.mem_iff.mpr (by simp))
  have tb := t.tru b (p.mem_iff.mpr (by simp))
  have ia := t.tile.inn a (p.mem_iff.mpr (by simp))
  have ib := t.tile.inn b (p.mem_iff.mpr (by simp))
  have pp := n.parts ta tb
  have hc : (uniB a b).l < (uniB a b).r ∧ (uniB a b).d < (uniB a b).u := by
    unfold uniB; dsimp only [Box.l, Box.d, Box.r, Box.u] at *; omega
  have ic : inB w h (uniB a b) := by
    unfold inB uniB at *; dsimp only [Box.l, Box.d, Box.r, Box.u] at *; omega
  have fl : FlB w h (uniB a b :: rest) := ⟨(t.tile.perm p.symm : Tile w h ([a, b] ++ rest)).join pp hc ic, fun e he => by
    rcases List.mem_cons.mp he with rfl | z
    · exact hc
    · exact t.tru e (p.mem_iff.mpr (by simp [z]))⟩
  have fc := fl.perm q
  have nd1 := (p.nodup_iff.mp t.nd)
  have nd2 := fl.nd
  simp only [List.nodup_cons, List.mem_cons, not_or] at nd1 nd2
  obtain ⟨⟨nab, nar⟩, nbr, _⟩ := nd1
  have mem1 : ∀ e, e ∈ cs ↔ joinS (· ∈ bs) a b (uniB a b) e := fun e => by
    rw [q.mem_iff, List.mem_cons]
    show _ ↔ (e ∈ bs ∧ e ≠ a ∧ e ≠ b) ∨ e = uniB a b
    rw [p.mem_iff, List.mem_cons, List.mem_cons]
    constructor
    · rintro (z | z)
      · exact .inr z
      · exact .inl ⟨.inr (.inr z), fun w => nar (w ▸ z), fun w => nbr (w ▸ z)⟩
    · rintro (⟨z1 | z1 | z1, z2, z3⟩ | z)
      · exact absurd z1 z2
      · exact absurd z1 z3
      · exact .inr z1
      · exact .inl z
  have mem2 : ∀ e, e ∈ bs ↔ cutS (· ∈ cs) (uniB a b) a b e := fun e => by
    rw [p.mem_iff, List.mem_cons, List.mem_cons]
    show _ ↔ (e ∈ cs ∧ e ≠ uniB a b) ∨ e = a ∨ e = b
    rw [q.mem_iff, List.mem_cons]
    constructor
    · rintro (z | z | z)
      · exact .inr (.inl z)
      · exact .inr (.inr z)
      · exact .inl ⟨.inr z, fun w => nd2.1 (w ▸ z)⟩
    · rintro (⟨z1 | z1, z2⟩ | z | z)
      · exact absurd z1 z2
      · exact .inr (.inr z1)
      · exact .inl z
      · exact .inr (.inl z)
  have hma : a ∈ bs := p.mem_iff.mpr (by simp)
  have hmb : b ∈ bs := p.mem_iff.mpr (by simp)
  have hmc : uniB a b ∈ cs := q.mem_iff.mpr (by simp)
  refine ⟨fc, fun g => ?_, fun g => ⟨fun s => ?_, fun s => ?_⟩⟩
  · -- a corner of the new one is one of a or b
    have old : ∀ e, e ∈ cs → e ∈ bs ∨ e = uniB a b := fun e he => by
      rcases (mem1 e).mp he with z | z
      · exact .inl z.1
      · exact .inr z
    have cor : ∀ e, e ∈ cs → (∃ e', e' ∈ bs ∧ e'.r = e.r ∧ e'.u = e.u) ∧ (∃ e', e' ∈ bs ∧ e'.r = e.r ∧ e'.d = e.d) ∧ (∃ e', e' ∈ bs ∧ e'.l = e.l ∧ e'.d = e.d) ∧ (∃ e', e' ∈ bs ∧ e'.l = e.l ∧ e'.u = e.u) := fun e he => by
      rcases old e he with z | rfl
      · exact ⟨⟨e, z, rfl, rfl⟩, ⟨e, z, rfl, rfl⟩, ⟨e, z, rfl, rfl⟩, ⟨e, z, rfl, rfl⟩⟩
      · rcases n.uni ta tb with ⟨⟨h1, h2, h3⟩, k⟩ | ⟨⟨h1, h2, h3⟩, k⟩
        · rw [k]
          exact ⟨⟨b, hmb, rfl, h3.symm⟩, ⟨b, hmb, rfl, h2.symm⟩, ⟨a, hma, rfl, rfl⟩, ⟨a, hma, rfl, rfl⟩⟩
        · rw [k]
          exact ⟨⟨b, hmb, h3.symm, rfl⟩, ⟨a, hma, rfl, rfl⟩, ⟨a, hma, rfl, rfl⟩, ⟨b, hmb, h2.symm, rfl⟩⟩
    rintro e1 e2 e3 e4 m1 m2 m3 m4 ⟨z1, z2, z3, z4, z5, z6⟩
    obtain ⟨f1, k1, p1, p2⟩ := (cor e1 m1).1
    obtain ⟨f2, k2, p3, p4⟩ := (cor e2 m2).2.1
    obtain ⟨f3, k3, p5, p6⟩ := (cor e3 m3).2.2.1
    obtain ⟨f4, k4, p7, p8⟩ := (cor e4 m4).2.2.2
    exact g f1 f2 f3 f4 k1 k2 k3 k4 ⟨by omega, by omega, by omega, by omega, by omega, by omega⟩
  · refine Slc.congr ?_ fun e => (mem1 e).symm
    rcases n.uni ta tb with ⟨⟨h1, h2, h3⟩, k⟩ | ⟨⟨h1, h2, h3⟩, k⟩
    · rw [k]; exact s.joinV t.tlr g a b hma hmb h1 h2 h3
    · rw [k]; exact s.joinH t.tlr g a b hma hmb h1 h2 h3
  · refine Slc.congr ?_ fun e => (mem2 e).symm
    rcases n.uni ta tb with ⟨⟨h1, h2, h3⟩, k⟩ | ⟨⟨h1, h2, h3⟩, k⟩
    · have := s.cutV _ a.r hmc (by rw [k]; exact ta.1) (by rw [k]; show a.r < b.r; omega) (by rw [k]; exact ta.2)
      refine this.congr fun e => ?_
      rw [k]
      show cutS _ _ (a.l, a.d, a.r, a.u) (a.r, a.d, b.r, a.u) e ↔ _
      rw [show (a.r, a.d, b.r, a.u) = b from box_eq h1 h2 rfl h3]
    · have := s.cutH _ a.u hmc (by rw [k]; exact ta.2) (by rw [k]; show a.u < b.u; omega) (by rw [k]; exact ta.1)
      refine this.congr fun e => ?_
      rw [k]
      show cutS _ _ (a.l, a.d, a.r, a.u) (a.l, a.u, a.r, b.u) e ↔ _
      rw [show (a.l, a.u, a.r, b.u) = b from box_eq h2 h1 h3 rfl]
noncomputable def dnL {α : Type} (f : α → α → α) (d : α) (l : List α) (j k : Nat) : List α := (l.set j (f (l.getD j d) (l.getD k d))).eraseIdx k
theorem dn_split {α : Type} {f : α → α → α} {d : α} {l : List α} {j k : Nat} (jk : j < k) (hk : k < l.length) : ∃ A B C a b, l = A ++ a :: (B ++ b :: C) ∧ l.getD j d = a ∧ l.getD k d = b ∧ dnL f d l j k = A ++ f a b :: (B ++ C) := by
  refine ⟨l.take j, (l.drop (j+1)).take (k - (j+1)), l.drop (k+1), l[j], l[k], ?_, ?_, ?_, ?_⟩
  · have e1 : l = l.take j ++ l.drop j := (List.take_append_drop ..).symm
    have e2 : l.drop j = l[j] :: l.drop (j+1) := List.drop_eq_getElem_cons (by omega)
    have e3 : l.drop (j+1) = (l.drop (j+1)).take (k - (j+1)) ++ (l.drop (j+1)).drop (k - (j+1)) := (List.take_append_drop ..).symm
    have e4 : (l.drop (j+1)).drop (k - (j+1)) = l[k] :: l.drop (k+1) := by
      rw [List.drop_drop, show j + 1 + (k - (j+1)) = k by omega]
      exact List.drop_eq_getElem_cons hk
    rw [← e4, ← e3, ← e2, ← e1]
  · simp [show j < l.length by omega]
  · simp [hk]
  · unfold dnL
    have e : l.getD j d = l[j] := by simp [show j < l.length by omega]
    have e' : l.getD k d = l[k] := by simp [hk]
    rw [e, e', List.eraseIdx_eq_take_drop_succ, List.set_eq_take_append_cons_drop, if_pos (by omega)]
    rw [List.take_append, List.drop_append]
    simp only [List.length_take, Nat.min_eq_left (show j ≤ l.length by omega)]
    rw [List.take_of_length_le (l := l.take j) (i := k) (by rw [List.length_take]; omega), List.drop_of_length_le (l := l.take j) (i := k + 1) (by rw [List.length_take]; omega), List.nil_append]
    rw [show k - j = (k - (j + 1)) + 1 by omega, List.take_succ_cons, show k + 1 - j = (k + 1 - (j + 1)) + 1 by omega, List.drop_succ_cons, List.drop_drop, show j + 1 + (k + 1 - (j + 1)) = k + 1 by omega]
    simp
theorem dn_len {α : Type} {f : α → α → α} {d : α} {l : List α} {j k : Nat} (jk : j < k) (hk : k < l.length) : (dnL f d l j k).length + 1 = l.length := by
  obtain ⟨A, B, C, a, b, e1, _, _, e2⟩ := dn_split (f := f) (d := d) jk hk
  rw [e2, e1]; simp; omega
end Fl
namespace Mth
theorem len_le : ∀ (n : Nat) (l : List Int), l.Nodup → (∀ x ∈ l, 0 ≤ x ∧ x < n) → l.length ≤ n
  | 0, l, _, h => by
    cases l with
    | nil => exact Nat.le_refl _
    | cons a r =>
      have := h a (List.mem_cons_self ..)
      omega
  | n + 1, l, hn, h => by
    by_cases hm : (n : Int) ∈ l
    · have h1 := len_le n (l.erase (n : Int)) (hn.erase _) (fun x hx => by
        have hx1 := List.mem_of_mem_erase hx
        have hx2 : x ≠ (n : Int) := fun z => by
          rw [z] at hx
          exact (List.Nodup.not_mem_erase hn) hx
        have := h x hx1
        omega)
      have h2 := List.length_erase_of_mem hm
      have : 0 < l.length := List.length_pos_of_mem hm
      omega
    · have h1 := len_le n l hn (fun x hx => by
        have hx2 : x ≠ (n : Int) := fun z => hm (z ▸ hx)
        have := h x hx
        omega)
      omega

theorem sub_len : ∀ (l l' : List Int), l.Nodup → (∀ x ∈ l, x ∈ l') → l.length ≤ l'.length
  | [], _, _, _ => Nat.zero_le _
  | a :: r, l', hn, h => by
    have h1 := List.nodup_cons.mp hn
    have h2 := sub_len r (l'.erase a) h1.2 fun x hx => (List.mem_erase_of_ne (fun z : x = a => h1.1 (z ▸ hx))).mpr (h x (List.mem_cons_of_mem _ hx))
    have hm := h a (List.mem_cons_self ..)
    have h3 := List.length_erase_of_mem hm
    have := List.length_pos_of_mem hm
    rw [List.length_cons]
    omega
noncomputable abbrev InR (n : Nat) (e : Int) : Prop := 0 ≤ e ∧ e < n
noncomputable def itn (φ : Int → Int) : Nat → Int → Int
  | 0, s => s
  | k + 1, s => φ (itn φ k s)
structure Perm1 (φ : Int → Int) (n : Nat) : Prop where
  into : ∀ e, InR n e → InR n (φ e)
  inj : ∀ a b, InR n a → InR n b → φ a = φ b → a = b
section
variable {φ : Int → Int} {n : Nat} (P : Perm1 φ n)
include P
noncomputable def Per (φ : Int → Int) (s : Int) (m : Nat) : Prop := 1 ≤ m ∧ itn φ m s = s ∧ ∀ k, 1 ≤ k → k < m → itn φ k s ≠ s
omit P in
theorem Per.uniq {s : Int} {m m' : Nat} (h : Per φ s m) (h' : Per φ s m') : m = m' := by
  rcases Nat.lt_trichotomy m m' with z | z | z
  · exact absurd h.2.1 (h'.2.2 m h.1 z)
  · exact z
  · exact absurd h'.2.1 (h.2.2 m' h'.1 z)
end
end Mth
namespace Mth
noncomputable def prevAt (row : List Int) (k : Nat) : Int := row.getD (if k = 0 then row.length - 1 else k - 1) 0
noncomputable def rowP (row : List Int) : List (Int × Int) := (List.range row.length).map fun k => (row.getD k 0, prevAt row k)
noncomputable def aheadL (ts : List (List Int)) : List (Int × Int) := (ts.map rowP).flatten
theorem range_getD (row : List Int) : (List.range row.length).map (fun k => row.getD k 0) = row := by
  refine List.ext_getElem (by simp) fun i h1 h2 => ?_
  simp [List.getD, h2]
theorem rowP_fst (row : List Int) : (rowP row).map (·.1) = row := by
  unfold rowP
  rw [List.map_map]
  exact range_getD row
theorem rowP_snoc (r : List Int) (l : Int) : (rowP (r ++ [l])).map (·.2) = l :: r := by
  unfold rowP
  rw [List.map_map]
  have hl : (r ++ [l]).length = r.length + 1 := by simp
  rw [hl, List.range_succ_eq_map, List.map_cons, List.map_map]
  congr 1
  · show prevAt (r ++ [l]) 0 = l
    unfold prevAt
    rw [if_pos rfl, hl]
    simp [List.getD]
  · refine List.ext_getElem (by simp) fun i h1 h2 => ?_
    simp [prevAt, List.getD, List.getElem?_append_left h2, h2]
theorem rowP_snd (row : List Int) : ((rowP row).map (·.2)).Perm row := by
  rcases List.eq_nil_or_concat row with h | ⟨r, l, h⟩
  · subst h
    exact .nil
  · rw [List.concat_eq_append] at h
    subst h
    rw [rowP_snoc]
    exact (List.perm_append_singleton l r).symm
theorem aheadL_fst : ∀ ts : List (List Int), (aheadL ts).map (·.1) = ts.flatten
  | [] => rfl
  | r :: ts => by
    have ih := aheadL_fst ts
    unfold aheadL at *
    rw [List.map_cons, List.flatten_cons, List.map_append, rowP_fst, ih, List.flatten_cons]
theorem aheadL_snd : ∀ ts : List (List Int), ((aheadL ts).map (·.2)).Perm ts.flatten
  | [] => .nil
  | r :: ts => by
    have ih := aheadL_snd ts
    unfold aheadL at *
    rw [List.map_cons, List.flatten_cons, List.map_append, List.flatten_cons]
    exact (rowP_snd r).append ih
noncomputable def lk (L : List (Int × Int)) (e : Int) : Option Int := (L.find? fun p => decide (p.1 = e)).map (·.2)
theorem lk_mem {L : List (Int × Int)} {e v : Int} (h : lk L e = some v) : (e, v) ∈ L := by
  unfold lk at h
  cases q : L.find? fun p => decide (p.1 = e) with
  | none => rw [q] at h; cases h
  | some p =>
    rw [q] at h
    have h1 := List.mem_of_find?_eq_some q
    have h2 := List.find?_some q
    have h3 : p.1 = e := of_decide_eq_true h2
    have h4 : p.2 = v := Option.some.inj h
    rw [← h3, ← h4]
    exact h1
theorem lk_some {L : List (Int × Int)} {e : Int} (h : e ∈ L.map (·.1)) : ∃ v, lk L e = some v := by
  obtain ⟨p, hp, e1⟩ := List.mem_map.mp h
  unfold lk
  cases q : L.find? fun p => decide (p.1 = e) with
  | none =>
    have := List.find?_eq_none.mp q p hp
    exact absurd (decide_eq_true e1) this
  | some p => exact ⟨p.2, rfl⟩
theorem nodup_inj {α β : Type} {f : α → β} : ∀ {L : List α}, (L.map f).Nodup → ∀ {p q}, p ∈ L → q ∈ L → f p = f q → p = q
  | [], _, p, _, hp, _, _ => absurd hp (by simp)
  | a :: L, h, p, q, hp, hq, e => by
    rw [List.map_cons, List.nodup_cons] at h
    rcases List.mem_cons.mp hp with h1 | h1
    · rcases List.mem_cons.mp hq with h2 | h2
      · rw [h1, h2]
      · exact (h.1 (List.mem_map.mpr ⟨q, h2, by rw [← e, h1]⟩)).elim
    · rcases List.mem_cons.mp hq with h2 | h2
      · exact (h.1 (List.mem_map.mpr ⟨p, h1, by rw [e, h2]⟩)).elim
      · exact nodup_inj h.2 h1 h2 e
structure Turns (n : Nat) (ts : List (List Int)) : Prop where
  nd : ts.flatten.Nodup
  mem : ∀ e, e ∈ ts.flatten ↔ InR n e
  even : n % 2 = 0
noncomputable def oth (e : Int) : Int := if e % 2 = 0 then e + 1 else e - 1
theorem oth_in {n : Nat} (h : n % 2 = 0) {e : Int} (he : InR n e) : InR n (oth e) := by
  unfold oth
  obtain ⟨h1, h2⟩ := he
  split <;> constructor <;> omega
theorem oth_oth (e : Int) : oth (oth e) = e := by
  unfold oth
  split <;> split <;> omega
noncomputable def nxt (ts : List (List Int)) (e : Int) : Int := (lk (aheadL ts) (oth e)).getD 0
section
variable {n : Nat} {ts : List (List Int)} (T : Turns n ts)
include T
theorem Turns.len : ts.flatten.length = n := by
  have h1 := len_le n _ T.nd fun x hx => (T.mem x).mp hx
  have h2 : ((List.range n).map (fun k : Nat => (k : Int))).length ≤ ts.flatten.length := by
    have nd : ((List.range n).map (fun k : Nat => (k : Int))).Nodup := by
      unfold List.Nodup
      rw [List.pairwise_map]
      exact List.Pairwise.imp (fun {a b} h => by omega) (List.pairwise_lt_range (n := n))
    refine sub_len _ _ nd fun x hx => ?_
    obtain ⟨k, hk, e⟩ := List.mem_map.mp hx
    have := List.mem_range.mp hk
    exact (T.mem x).mpr ⟨by omega, by omega⟩
  rw [List.length_map, List.length_range] at h2
  omega
theorem Turns.look {e : Int} (he : InR n e) : ∃ v, lk (aheadL ts) e = some v ∧ InR n v := by
  obtain ⟨v, hv⟩ := lk_some (L := aheadL ts) (e := e) (by rw [aheadL_fst]; exact (T.mem e).mpr he)
  refine ⟨v, hv, (T.mem v).mp ?_⟩
  exact (aheadL_snd ts).mem_iff.mp (List.mem_map.mpr ⟨_, lk_mem hv, rfl⟩)
theorem Turns.nxt_is {e : Int} (he : InR n e) : lk (aheadL ts) (oth e) = some (nxt ts e) := by
  obtain ⟨v, hv, _⟩ := T.look (oth_in T.even he)
  unfold nxt
  rw [hv]
  rfl
theorem Turns.perm : Perm1 (nxt ts) n := by
  refine ⟨fun e he => ?_, fun a b ha hb e => ?_⟩
  · obtain ⟨v, hv, hi⟩ := T.look (oth_in T.even he)
    unfold nxt
    rw [hv]
    exact hi
  · have h1 := lk_mem (T.nxt_is ha)
    have h2 := lk_mem (T.nxt_is hb)
    rw [e] at h1
    have nd : ((aheadL ts).map (·.2)).Nodup := (aheadL_snd ts).nodup_iff.mpr T.nd
    have h3 := (Prod.mk.inj (nodup_inj nd h1 h2 rfl)).1
    rw [← oth_oth a, h3, oth_oth]
end
section
variable {φ : Int → Int} {n : Nat} (P : Perm1 φ n)
include P
end
end Mth
namespace Mth
noncomputable abbrev Pc : Type := Int × Int × Int
noncomputable def pd : Pc := (0, 0, 0)
noncomputable def hiF (b : List Pc) : Nat → Nat
  | 0 => 0
  | i+1 => if (b.getD (hiF b i) pd).2.2 < (b.getD i pd).2.2 then i else hiF b i
noncomputable abbrev highF (b : List Pc) : Nat := hiF b b.length
noncomputable abbrev topF (b : List Pc) : Pc := b.getD (highF b) pd
noncomputable def jnS (acc : List Pc) (p : Pc) : List Pc := match acc.getLast? with
  | none => acc ++ [p]
  | some q => if q.2.2 = p.2.2 then acc.dropLast ++ [(q.1, p.2.1, p.2.2)] else acc ++ [p]
noncomputable abbrev joinF (ps : List Pc) : List Pc := ps.foldl jnS []
theorem jnS_nil (p : Pc) : jnS [] p = [p] := rfl
theorem jnS_snoc (a : List Pc) (q p : Pc) : jnS (a ++ [q]) p = if q.2.2 = p.2.2 then a ++ [(q.1, p.2.1, p.2.2)] else a ++ [q] ++ [p] := by
  unfold jnS
  rw [List.getLast?_append]
  simp
theorem snoc_cases {α : Type} (l : List α) : l = [] ∨ ∃ a q, l = a ++ [q] := by
  rcases List.eq_nil_or_concat l with h | ⟨a, q, h⟩
  · exact .inl h
  · exact .inr ⟨a, q, by rw [h, List.concat_eq_append]⟩
theorem jnS_len (acc : List Pc) (p : Pc) : 1 ≤ (jnS acc p).length ∧ (jnS acc p).length ≤ acc.length + 1 := by
  rcases snoc_cases acc with rfl | ⟨a, q, rfl⟩
  · exact ⟨Nat.le_refl _, Nat.le_refl _⟩
  · rw [jnS_snoc]
    split <;> simp
noncomputable def Bd (b : List Pc) : Prop := ∀ p ∈ b, 0 ≤ p.1 ∧ p.2.1 ≤ 5
theorem jnS_bd {acc : List Pc} {p : Pc} (h : Bd acc) (hp : 0 ≤ p.1 ∧ p.2.1 ≤ 5) : Bd (jnS acc p) := by
  rcases snoc_cases acc with rfl | ⟨a, q, rfl⟩
  · intro x hx
    rw [jnS_nil, List.mem_singleton] at hx
    rw [hx]; exact hp
  · rw [jnS_snoc]
    have hq := h q (by simp)
    have ha : ∀ x ∈ a, 0 ≤ x.1 ∧ x.2.1 ≤ 5 := fun x hx => h x (by simp [hx])
    split
    · intro x hx
      rcases List.mem_append.mp hx with z | z
      · exact ha x z
      · rw [List.mem_singleton.mp z]; exact ⟨hq.1, hp.2⟩
    · intro x hx
      rcases List.mem_append.mp hx with z | z
      · exact h x z
      · rw [List.mem_singleton.mp z]; exact hp
theorem join_go : ∀ (ps acc : List Pc), (ps.foldl jnS acc).length ≤ acc.length + ps.length ∧ (1 ≤ acc.length + ps.length → 1 ≤ (ps.foldl jnS acc).length) ∧ (Bd acc → Bd ps → Bd (ps.foldl jnS acc))
  | [], acc => ⟨by simp, by simp, fun h _ => h⟩
  | p :: ps, acc => by
    obtain ⟨h1, h2⟩ := jnS_len acc p
    obtain ⟨a, b, c⟩ := join_go ps (jnS acc p)
    rw [List.foldl_cons]
    refine ⟨by rw [List.length_cons]; omega, fun _ => b (by omega), fun h g => c (jnS_bd h (g p (by simp))) fun x hx => g x (by simp [hx])⟩
theorem join_len (ps : List Pc) : (joinF ps).length ≤ ps.length := by have := (join_go ps []).1; simpa using this
noncomputable def noFit (b : List Pc) (s : Int) : Prop := s < 1 ∨ (topF b).2.1 - (topF b).1 < s ∨ (topF b).2.2 < s
noncomputable instance (b : List Pc) (s : Int) : Decidable (noFit b s) := inferInstanceAs (Decidable (_ ∨ _ ∨ _))
end Mth
namespace Fl
open Mth
noncomputable def befB (a b : Box) : Prop := b.u < a.u ∨ (b.u = a.u ∧ a.l < b.l)
structure Hang0 (W U : Int) (bs : List Box) : Prop where
  pos : ∀ b ∈ bs, b.l < b.r ∧ b.d < b.u
  inn : ∀ b ∈ bs, inB W U b
  nov : NoOv bs
  full : Full W U bs
  ord : bs.Pairwise befB
section
variable {W U : Int} {ds rs : List Box} {b : Box}
theorem Hang0.apart (T : Hang0 W U (ds ++ b :: rs)) {c : Box} (hc : c ∈ ds) {x y : Int} (h1 : hits x y b = true) (h2 : hits x y c = true) : False := by
  have n := (List.pairwise_append.mp T.nov).2.2 c hc b (by simp)
  have := ov_hits.mpr ⟨x, y, h2, h1⟩
  rw [this] at n
  cases n
theorem Hang0.low (T : Hang0 W U (ds ++ b :: rs)) {c : Box} (hc : c ∈ rs) : befB b c := by
  have := (List.pairwise_append.mp T.ord).2.1
  exact (List.pairwise_cons.mp this).1 c hc
end
noncomputable def RepB (f : Int → Int) : Int → Int → List Pc → Prop
  | a, w, [] => a = w
  | a, w, p :: ps => p.1 = a ∧ a < p.2.1 ∧ (∀ x, a ≤ x → x < p.2.1 → f x = p.2.2) ∧ RepB f p.2.1 w ps
noncomputable def AdjB : List Pc → Prop
  | [] => True
  | [_] => True
  | p :: q :: ps => p.2.2 ≠ q.2.2 ∧ AdjB (q :: ps)
theorem rep_le {f : Int → Int} : ∀ {ps : List Pc} {a w : Int}, RepB f a w ps → a ≤ w
  | [], a, w, h => by have : a = w := h; omega
  | p :: ps, a, w, ⟨_, h2, _, h4⟩ => by have := rep_le h4; omega
theorem rep_app {f : Int → Int} : ∀ {ps qs : List Pc} {a w : Int}, RepB f a w (ps ++ qs) ↔ ∃ m, RepB f a m ps ∧ RepB f m w qs
  | [], qs, a, w => ⟨fun h => ⟨a, rfl, h⟩, fun ⟨m, e, h⟩ => by have e : a = m := e; rw [e]; exact h⟩
  | p :: ps, qs, a, w => by
    constructor
    · rintro ⟨h1, h2, h3, h4⟩
      obtain ⟨m, g1, g2⟩ := rep_app.mp h4
      exact ⟨m, ⟨h1, h2, h3, g1⟩, g2⟩
    · rintro ⟨m, ⟨h1, h2, h3, g1⟩, g2⟩
      exact ⟨h1, h2, h3, rep_app.mpr ⟨m, g1, g2⟩⟩
theorem rep_congr {f g : Int → Int} : ∀ {ps : List Pc} {a w : Int}, (∀ x, a ≤ x → x < w → f x = g x) → RepB f a w ps → RepB g a w ps
  | [], _, _, _, h => h
  | p :: ps, a, w, e, ⟨h1, h2, h3, h4⟩ => by
    have := rep_le h4
    exact ⟨h1, h2, fun x x0 x1 => by rw [← e x x0 (by omega)]; exact h3 x x0 x1, rep_congr (fun x x0 x1 => e x (by omega) x1) h4⟩
theorem adj_app : ∀ {ps qs : List Pc} {p q : Pc}, AdjB (ps ++ [p]) → AdjB (q :: qs) → p.2.2 ≠ q.2.2 → AdjB (ps ++ [p] ++ q :: qs)
  | [], qs, p, q, _, h2, h3 => ⟨h3, h2⟩
  | [x], qs, p, q, h1, h2, h3 => ⟨h1.1, h3, h2⟩
  | x :: y :: ps, qs, p, q, h1, h2, h3 => ⟨h1.1, adj_app (ps := y :: ps) h1.2 h2 h3⟩
theorem adj_last : ∀ {ps : List Pc} {p p' : Pc}, AdjB (ps ++ [p]) → p'.2.2 = p.2.2 → AdjB (ps ++ [p'])
  | [], _, _, _, _ => trivial
  | [x], p, p', h, e => ⟨by rw [e]; exact h.1, trivial⟩
  | x :: y :: ps, p, p', h, e => ⟨h.1, adj_last (ps := y :: ps) h.2 e⟩
theorem join_rep {f : Int → Int} : ∀ {ps acc : List Pc} {a m w : Int}, RepB f a m acc → AdjB acc → RepB f m w ps → RepB f a w (ps.foldl jnS acc) ∧ AdjB (ps.foldl jnS acc)
  | [], acc, a, m, w, h1, h2, h3 => by
    have : m = w := h3
    subst this
    exact ⟨h1, h2⟩
  | p :: ps, acc, a, m, w, h1, h2, ⟨g1, g2, g3, g4⟩ => by
    rw [List.foldl_cons]
    refine join_rep (m := p.2.1) ?_ ?_ g4
    · rcases snoc_cases acc with rfl | ⟨ac, q, rfl⟩
      · have : a = m := h1
        subst this
        rw [jnS_nil]
        exact ⟨g1, g2, g3, rfl⟩
      · rw [jnS_snoc]
        obtain ⟨k, k1, k2, k3, k4, k5⟩ := rep_app.mp h1
        have k5 : q.2.1 = m := k5
        split
        · rename_i e
          refine rep_app.mpr ⟨k, k1, k2, by show k < p.2.1; omega, fun x x0 x1 => ?_, rfl⟩
          rcases Int.lt_or_le x q.2.1 with z | z
          · rw [k4 x x0 z]; exact e
          · exact g3 x (by omega) x1
        · exact rep_app.mpr ⟨m, rep_app.mpr ⟨k, k1, k2, k3, k4, k5⟩, g1, g2, g3, rfl⟩
    · rcases snoc_cases acc with rfl | ⟨ac, q, rfl⟩
      · exact trivial
      · rw [jnS_snoc]
        split
        · rename_i e
          exact adj_last h2 e.symm
        · rename_i e
          exact adj_app (qs := []) h2 trivial e
theorem rep_mem {f : Int → Int} : ∀ {ps : List Pc} {a w : Int}, RepB f a w ps → ∀ p ∈ ps, a ≤ p.1 ∧ p.1 < p.2.1 ∧ p.2.1 ≤ w ∧ f p.1 = p.2.2
  | [], _, _, _, p, hp => by cases hp
  | q :: ps, a, w, ⟨g1, g2, g3, g4⟩, p, hp => by
    rcases List.mem_cons.mp hp with rfl | hp
    · have := rep_le g4
      exact ⟨by omega, by omega, this, by rw [g1]; exact g3 a (Int.le_refl _) g2⟩
    · have := rep_mem g4 p hp
      exact ⟨by omega, this.2.1, this.2.2.1, this.2.2.2⟩
end Fl
namespace Fl
open Mth
noncomputable def nzP (ps : List Pc) : Nat := ps.countP fun p => !decide (p.2.2 = 0)
theorem nz_join : ∀ (ps acc : List Pc), nzP (ps.foldl jnS acc) ≤ nzP acc + nzP ps
  | [], acc => by simp [nzP]
  | p :: ps, acc => by
    rw [List.foldl_cons]
    have := nz_join ps (jnS acc p)
    have e : nzP (p :: ps) = nzP ps + if (!decide (p.2.2 = 0)) = true then 1 else 0 := List.countP_cons ..
    have k : nzP (jnS acc p) ≤ nzP acc + if (!decide (p.2.2 = 0)) = true then 1 else 0 := by
      rcases snoc_cases acc with rfl | ⟨a, q, rfl⟩
      · rw [jnS_nil]
        simp [nzP, List.countP_cons]
      · rw [jnS_snoc]
        split
        · rename_i e
          unfold nzP
          rw [List.countP_append, List.countP_append, List.countP_singleton, List.countP_singleton, e]
          dsimp only
          omega
        · unfold nzP
          rw [List.countP_append, List.countP_singleton]
          omega
    omega
noncomputable def arS (f : Int → Int) : Nat → Nat
  | 0 => 0
  | n+1 => arS f n + (f n).toNat
theorem arS_le {f g : Int → Int} : ∀ {n : Nat}, (∀ i : Nat, i < n → f i ≤ g i) → arS f n ≤ arS g n
  | 0, _ => Nat.le_refl _
  | n+1, h => by
    have := arS_le (n := n) fun i hi => h i (by omega)
    have := h n (by omega)
    show arS f n + (f n).toNat ≤ arS g n + (g n).toNat
    omega
theorem arS_lt {f g : Int → Int} : ∀ {n : Nat}, (∀ i : Nat, i < n → f i ≤ g i) → (∃ i : Nat, i < n ∧ f i < g i ∧ 0 ≤ f i) → arS f n < arS g n
  | 0, _, ⟨i, hi, _⟩ => absurd hi (by omega)
  | n+1, h, ⟨i, hi, lt, pos⟩ => by
    show arS f n + (f n).toNat < arS g n + (g n).toNat
    have hn := h n (by omega)
    by_cases z : i = n
    · subst z
      have := arS_le (n := i) fun j hj => h j (by omega)
      omega
    · have := arS_lt (n := n) (fun j hj => h j (by omega)) ⟨i, by omega, lt, pos⟩
      omega
structure Hg (W U : Int) (m : Nat) (f : Int → Int) (ps : List Pc) (bs : List Box) : Prop where
  rep : RepB f 0 W ps
  adj : AdjB ps
  lev : ∀ x, 0 ≤ x → x < W → 0 ≤ f x ∧ f x ≤ U
  cnt : ∀ x y, 0 ≤ x → x < W → 0 ≤ y → y < U → bs.countP (hits x y) = if f x ≤ y then 1 else 0
  tru : ∀ b ∈ bs, b.l < b.r ∧ b.d < b.u
  inn : ∀ b ∈ bs, inB W U b
  num : bs.length + nzP ps ≤ m
theorem Hg.first {W U : Int} {m : Nat} (hW : 0 < W) (hU : 0 < U) (hm : 1 ≤ m) : Hg W U m (fun _ => U) [(0, W, U)] [] := by
  refine ⟨⟨rfl, hW, fun _ _ _ => rfl, rfl⟩, trivial, fun x _ _ => ⟨by omega, Int.le_refl _⟩, fun x y _ _ _ h => ?_, fun b hb => (by simp at hb), fun b hb => (by simp at hb), ?_⟩
  · rw [if_neg (by omega)]; rfl
  · unfold nzP
    rw [List.countP_singleton]
    simp only [List.length_nil]
    split <;> omega
noncomputable def prtH (A B : List Pc) (l r v s dp : Int) : List Pc := A ++ ([(l, l + s, v - dp)] ++ if l + s < r then [(l + s, r, v)] else []) ++ B
noncomputable abbrev cutF (f : Int → Int) (l s v : Int) : Int → Int := fun x => if l ≤ x ∧ x < l + s then v else f x
theorem Hg.step {W U : Int} {m : Nat} {f : Int → Int} {A B : List Pc} {l r v s dp : Int} {bs : List Box} (h : Hg W U m f (A ++ (l, r, v) :: B) bs) (s1 : 1 ≤ s) (s2 : s ≤ r - l) (d1 : 1 ≤ dp) (d2 : dp ≤ v) (nm : (bs.length + nzP (A ++ (l, r, v) :: B) + 2 ≤ m) ∨ (s = r - l ∧ dp = v)) :
    Hg W U m (cutF f l s (v - dp)) (joinF (prtH A B l r v s dp)) (bs ++ [(l, v - dp, l + s, v)]) ∧ arS (cutF f l s (v - dp)) W.toNat < arS f W.toNat := by
  obtain ⟨k, rA, e1, lr, fc, rB⟩ := rep_app.mp h.rep
  dsimp only at e1 lr fc rB
  subst e1
  have lA := rep_le rA
  have rW := rep_le rB
  have lv := h.lev l lA (by omega)
  have fl := fc l (Int.le_refl _) (by omega)
  have rep' : RepB (cutF f l s (v - dp)) 0 W (prtH A B l r v s dp) := by
    refine rep_app.mpr ⟨r, rep_app.mpr ⟨l, rep_congr (fun x x0 x1 => ?_) rA, ?_⟩, rep_congr (fun x x0 x1 => ?_) rB⟩
    · show f x = if l ≤ x ∧ x < l + s then v - dp else f x
      rw [if_neg (by omega)]
    · refine rep_app.mpr ⟨l + s, ⟨rfl, by show l < l + s; omega, fun x x0 x1 => ?_, rfl⟩, ?_⟩
      · show (if l ≤ x ∧ x < l + s then v - dp else f x) = v - dp
        rw [if_pos ⟨x0, x1⟩]
      · split
        · rename_i z
          refine ⟨rfl, z, fun x x0 x1 => ?_, rfl⟩
          show (if l ≤ x ∧ x < l + s then v - dp else f x) = v
          rw [if_neg (by omega)]
          exact fc x (by omega) x1
        · show l + s = r
          omega
    · show f x = if l ≤ x ∧ x < l + s then v - dp else f x
      rw [if_neg (by omega)]
  obtain ⟨j1, j2⟩ := join_rep (acc := []) (a := 0) (m := 0) rfl trivial rep'
  refine ⟨⟨j1, j2, fun x x0 x1 => ?_, fun x y x0 x1 y0 y1 => ?_, fun b hb => ?_, fun b hb => ?_, ?_⟩, ?_⟩
  · have := h.lev x x0 x1
    show 0 ≤ (if l ≤ x ∧ x < l + s then v - dp else f x) ∧ (if l ≤ x ∧ x < l + s then v - dp else f x) ≤ U
    split <;> omega
  · rw [List.countP_append, List.countP_singleton, h.cnt x y x0 x1 y0 y1]
    by_cases z : l ≤ x ∧ x < l + s
    · have e1 : cutF f l s (v - dp) x = v - dp := if_pos z
      have e2 : f x = v := fc x z.1 (by omega)
      rw [e1, e2]
      by_cases c1 : v ≤ y
      · rw [if_pos c1, if_pos (show v - dp ≤ y by omega), if_neg]
        rw [hits_iff]; dsimp only [Box.l, Box.d, Box.r, Box.u]; omega
      · by_cases c2 : v - dp ≤ y
        · rw [if_neg c1, if_pos c2, if_pos]
          rw [hits_iff]; dsimp only [Box.l, Box.d, Box.r, Box.u]; omega
        · rw [if_neg c1, if_neg c2, if_neg]
          rw [hits_iff]; dsimp only [Box.l, Box.d, Box.r, Box.u]; omega
    · have e1 : cutF f l s (v - dp) x = f x := if_neg z
      rw [e1, if_neg (c := hits x y (l, v - dp, l + s, v) = true)]
      · rfl
      · rw [hits_iff]; dsimp only [Box.l, Box.d, Box.r, Box.u]; omega
  · rcases List.mem_append.mp hb with z | z
    · exact h.tru b z
    · rw [List.mem_singleton.mp z]; exact ⟨by show l < l + s; omega, by show v - dp < v; omega⟩
  · rcases List.mem_append.mp hb with z | z
    · exact h.inn b z
    · rw [List.mem_singleton.mp z]
      unfold inB; dsimp only [Box.l, Box.d, Box.r, Box.u]
      omega
  · have jn := nz_join (prtH A B l r v s dp) []
    have hn := h.num
    have e0 : nzP ([] : List Pc) = 0 := rfl
    have eo : nzP (A ++ (l, r, v) :: B) = nzP A + (nzP B + 1) := by
      unfold nzP
      rw [List.countP_append, List.countP_cons, if_pos (by simp; omega)]
    have ep : nzP (prtH A B l r v s dp) = nzP A + (nzP ([(l, l + s, v - dp)] ++ if l + s < r then [(l + s, r, v)] else [])) + nzP B := by
      unfold nzP prtH
      rw [List.countP_append, List.countP_append]
    have em : nzP ([(l, l + s, v - dp)] ++ if l + s < r then [(l + s, r, v)] else []) ≤ 2 := by
      refine Nat.le_trans List.countP_le_length ?_
      split <;> simp
    rw [List.length_append, List.length_singleton]
    rcases nm with n1 | ⟨n1, n2⟩
    · show bs.length + 1 + nzP ((prtH A B l r v s dp).foldl jnS []) ≤ m
      omega
    · have e2 : nzP ([(l, l + s, v - dp)] ++ if l + s < r then [(l + s, r, v)] else []) = 0 := by
        rw [if_neg (by omega)]
        unfold nzP
        rw [List.append_nil, List.countP_singleton, if_neg (by simp; omega)]
      show bs.length + 1 + nzP ((prtH A B l r v s dp).foldl jnS []) ≤ m
      omega
  · have eW : ((W.toNat : Nat) : Int) = W := by omega
    refine arS_lt (fun i hi => ?_) ⟨l.toNat, by omega, ?_⟩
    · show (if l ≤ (i : Int) ∧ (i : Int) < l + s then v - dp else f i) ≤ f i
      split
      · rename_i z
        rw [fc i z.1 (by omega)]; omega
      · exact Int.le_refl _
    · rw [show ((l.toNat : Nat) : Int) = l by omega]
      have e1 : cutF f l s (v - dp) l = v - dp := if_pos ⟨Int.le_refl _, by omega⟩
      rw [e1, fl]
      omega
theorem Hg.done {W U : Int} {m : Nat} {f : Int → Int} {bs : List Box} (h : Hg W U m f [(0, W, 0)] bs) : FlB W U bs ∧ bs.length ≤ m := by
  refine ⟨⟨⟨fun b hb => .inl (h.tru b hb), h.inn, fun x y x0 x1 y0 y1 => ?_⟩, h.tru⟩, by have := h.num; omega⟩
  rw [h.cnt x y x0 x1 y0 y1, h.rep.2.2.1 x x0 x1, if_pos y0]
theorem Hg.pos {W U : Int} {m : Nat} {f : Int → Int} {ps : List Pc} {bs : List Box} (h : Hg W U m f ps bs) (hW : 0 < W) (ne : ps ≠ [(0, W, 0)]) {v : Int} (mx : ∀ p ∈ ps, p.2.2 ≤ v) : 0 < v := by
  by_cases z : 0 < v
  · exact z
  exfalso
  have all : ∀ p ∈ ps, p.2.2 = 0 := fun p hp => by
    obtain ⟨a1, a2, a3, a4⟩ := rep_mem h.rep p hp
    have := h.lev p.1 a1 (by omega)
    have := mx p hp
    omega
  match ps, h, ne, all with
  | [], h, _, _ => exact absurd (show (0 : Int) = W from h.rep) (by omega)
  | [p], h, ne, all =>
    obtain ⟨a1, a2, _, a4⟩ := h.rep
    have a4 : p.2.1 = W := a4
    have := all p (by simp)
    refine ne ?_
    obtain ⟨x, y, z⟩ := p
    dsimp only at *
    subst a1; subst a4; subst this; rfl
  | p :: q :: r, h, _, all => exact h.adj.1 (by rw [all p (by simp), all q (by simp)])
theorem Hg.lens {W U : Int} {m : Nat} {f : Int → Int} {ps : List Pc} {bs : List Box} (h : Hg W U m f ps bs) : ∀ p ∈ ps, 0 ≤ p.1 ∧ p.1 < p.2.1 ∧ p.2.1 ≤ W ∧ 0 ≤ p.2.2 ∧ p.2.2 ≤ U := fun p hp => by
  obtain ⟨a1, a2, a3, a4⟩ := rep_mem h.rep p hp
  have := h.lev p.1 a1 (by omega)
  omega
end Fl
namespace My
open PySem L2 Mth
theorem same_new {H : Hp} {p : Addr} (h : H p = none) (o : HO) : Same H (upd H p o) := fun b u q => by rw [upd_ne (ne_of_none q h)]; exact q
noncomputable def SameB (x : Addr) (H H' : Hp) : Prop := ∀ b o, b ≠ x → H b = some o → H' b = some o
theorem SameB.refl (x : Addr) (H : Hp) : SameB x H H := fun _ _ _ h => h
theorem SameB.put {x : Addr} {H H' : Hp} (h : SameB x H H') (o : HO) : SameB x H (upd H' x o) := fun b u n q => by rw [upd_ne n]; exact h b u n q
theorem SameB.trans {x : Addr} {H H1 H2 : Hp} (a : SameB x H H1) (b : SameB x H1 H2) : SameB x H H2 := fun c o n h => b c o n (a c o n h)
theorem _root_.L2.Same.b {x : Addr} {H H' : Hp} (h : Same H H') : SameB x H H' := fun b o _ q => h b o q
theorem SameB.same {x : Addr} {H0 H H' : Hp} (h : SameB x H H') (s : Same H0 H) (n : H0 x = none) : Same H0 H' := fun b o q => h b o (ne_of_none q n) (s b o q)
theorem SameB.one {x : Addr} {H : Hp} {o : HO} : SameB x H (upd H x o) := (SameB.refl x H).put o
theorem _root_.L2.Same.up {x : Addr} {H0 H : Hp} (s : Same H0 H) (n : H0 x = none) (o : HO) : Same H0 (upd H x o) := SameB.one.same s n
theorem iteNN {c A B : Prop} [Decidable c] (hc : ¬ c) (h : A) : if (!decide c) = true then A else B := by
  rw [decide_eq_false hc]
  exact iteT h
theorem iteDT {c A B : Prop} [Decidable c] (hc : c) (h : A) : if decide c = true then A else B := by
  rw [decide_eq_true hc]
  exact iteT h
theorem iteDF {c A B : Prop} [Decidable c] (hc : ¬ c) (h : B) : if decide c = true then A else B := by
  rw [decide_eq_false hc]
  exact iteF h
theorem iv {a b : Int} (h : a = b) : V.int a = V.int b := by rw [h]
theorem ivn {a b : Int} (h : a ≠ b) : ¬ V.int a = V.int b := fun z => h (V.int.inj z)
theorem szl {n : Nat} (h : n ≤ 100000) : n < sizeLine := by rw [sizeLine_eq]; omega
noncomputable def TsA (H : Hp) (a : Addr) (bs : List Addr) (ts : List (List Int)) : Prop :=
  H a = some (.tup (bs.map V.ref)) ∧ bs.length = ts.length ∧ ∀ (i : Nat) (b : Addr) (row : List Int), bs[i]? = some b → ts[i]? = some row → H b = some (.tup (row.map V.int))
theorem TsA.keep {H H' : Hp} {a : Addr} {bs : List Addr} {ts : List (List Int)} (h : TsA H a bs ts) (s : Same H H') : TsA H' a bs ts :=
  ⟨s _ _ h.1, h.2.1, fun i b row e1 e2 => s _ _ (h.2.2 i b row e1 e2)⟩
theorem t3_0 (x y z : V) : atI [x, y, z] 0 = some x := atI_nat (j := 0) rfl
theorem t3_1 (x y z : V) : atI [x, y, z] 1 = some y := atI_nat (j := 1) rfl
theorem t3_2 (x y z : V) : atI [x, y, z] 2 = some z := atI_nat (j := 2) rfl
theorem at0 {x y : V} : atI [x, y] 0 = some x := atI_nat (j := 0) rfl
theorem at1 {x y : V} : atI [x, y] 1 = some y := atI_nat (j := 1) rfl
theorem cut_take (xs : List V) {j : Nat} (h : j ≤ xs.length) : cutV xs none (some (j : Int)) = xs.take j := by
  unfold cutV
  have e1 : HT.sIx xs.length 0 none = 0 := rfl
  have e2 : HT.sIx xs.length xs.length (some (j : Int)) = j := by simp [HT.sIx]; rw [if_neg (by omega)]; omega
  rw [e1, e2]; simp
theorem cut_drop (xs : List V) {j : Nat} (h : j ≤ xs.length) : cutV xs (some (j : Int)) none = xs.drop j := by
  unfold cutV
  have e1 : HT.sIx xs.length 0 (some (j : Int)) = j := by simp [HT.sIx]; rw [if_neg (by omega)]; omega
  have e2 : HT.sIx xs.length xs.length none = xs.length := rfl
  rw [e1, e2, List.take_of_length_le]; simp
theorem szle {n : Nat} (h : n ≤ 100000) : n ≤ sizeLine := Nat.le_of_lt (szl h)
noncomputable def IntsT (H : Hp) (b : Addr) (ns : List Int) : Prop := H b = some (.tup (ns.map V.int))
theorem IntsT.del {H : Hp} {a b : Addr} {t : List Int} {ys : List V} (h : IntsT H b t) (e : H a = some (.lst ys)) : IntsT (del H a) b t := del_at h fun z => by rw [z] at h; unfold IntsT at h; rw [e] at h; cases h
theorem ixN_nat' {n j : Nat} (h : j < n) : ixN n ((j : Nat) : Int) = some j := by unfold ixN; rw [if_pos (by omega), if_pos (by omega)]; simp
theorem name_go {i : Nat} {v : V} {σ : L2.St} {H : Hp} {k : L2.St → Hp → Prop} (h : k (σ.set i (some v)) H) : gName i v σ H k := h
theorem nx_go {D : Ends} {f : L2.St → Hp → Prop} {σ : L2.St} {H : Hp} (h : f σ H) : ({ D with nx := f } : Ends).nx σ H := h
theorem seq_join {t u : L2.TS} {D : Ends} {σ : L2.St} {H : Hp} {G : L2.St → Hp → Prop} (m : (∀ σ H, G σ H → u D σ H) → t { D with nx := u D } σ H) (r : ∀ σ H, G σ H → u D σ H) : tSeq t u D σ H := m r
theorem big_of {i : Int} {n : Nat} (h : i.natAbs < 2 ^ n) (hn : n ≤ 8000) : Big i := Nat.lt_of_lt_of_le h (Nat.pow_le_pow_right (by decide) hn)
noncomputable abbrev ScA (K : PySem.W.Frag) (H : Hp) (a : Addr) (ns : List Int) : Prop := SqL K H a (ns.map V.int) ∧ ns.length ≤ 63

end My
namespace My
open PySem
noncomputable def top (i : Nat) : Stmt := PySem.Challenge.pw_currentfloor_k42_whole_one_end.main.body.getD i (.Pass ⟨0, 0, 0, 0⟩)
noncomputable abbrev sLess : Stmt := top 9
noncomputable abbrev s_rising : Stmt := top 13
noncomputable abbrev s_is_pair : Stmt := top 28
noncomputable abbrev s_touches : Stmt := top 29
noncomputable abbrev s_common_level : Stmt := top 30
noncomputable abbrev s_is_above : Stmt := top 31
noncomputable abbrev s_is_beside : Stmt := top 32
noncomputable abbrev s_together : Stmt := top 33
noncomputable abbrev s_check_fits : Stmt := top 34
noncomputable abbrev s_joined : Stmt := top 35
noncomputable abbrev sInit : Stmt := L2.inClass (top 36) 0
noncomputable abbrev sToldA : Stmt := L2.inClass (top 37) 0
noncomputable abbrev sFitsA : Stmt := L2.inClass (top 37) 1
noncomputable abbrev sDoneA : Stmt := L2.inClass (top 37) 2
noncomputable abbrev sToldB : Stmt := L2.inClass (top 38) 0
noncomputable abbrev sFitsB : Stmt := L2.inClass (top 38) 1
noncomputable abbrev sDoneB : Stmt := L2.inClass (top 38) 2
noncomputable abbrev s_step_of : Stmt := top 40
noncomputable abbrev s_fitting : Stmt := top 42
noncomputable abbrev s_settled : Stmt := top 43
noncomputable abbrev s_walked : Stmt := top 44
noncomputable abbrev sCellAt : Stmt := top 46
noncomputable abbrev s_law_lowest : Stmt := top 47
noncomputable abbrev s_law_wheel : Stmt := top 48
noncomputable abbrev s_law_two : Stmt := top 49
noncomputable abbrev s_law_broken : Stmt := top 50
noncomputable abbrev s_law_built : Stmt := top 51
noncomputable abbrev s_law_joined : Stmt := top 52
noncomputable abbrev s_law_hung_up : Stmt := top 53
noncomputable abbrev s_law_raw : Stmt := top 54
noncomputable abbrev s_law_scaled_one : Stmt := top 55
noncomputable abbrev s_law_scaled : Stmt := top 56
noncomputable abbrev s_law_floor_of : Stmt := top 57
noncomputable abbrev s_law_side : Stmt := top 58
noncomputable abbrev s_law_scale_by : Stmt := top 59
noncomputable abbrev s_law_above : Stmt := top 60
noncomputable abbrev s_law_beside : Stmt := top 61
noncomputable abbrev s_law_fitting : Stmt := top 62
noncomputable abbrev s_law_done : Stmt := top 63
noncomputable abbrev s_law_led : Stmt := top 64
noncomputable abbrev s_law_strolled : Stmt := top 65
noncomputable abbrev sLaw : Stmt := top 66
end My
namespace My
open PySem L2 Mth Wd
noncomputable abbrev GivQ (H : Hp) (Q : VK) (q : Rat) : Prop := ∀ p, H p = none → Q (.ref p) (upd H p (.tup [.int q.num, .int q.den]))
theorem abs_gcd {x : Int} {n : Nat} (h : Int.gcd x 0 = n) : (if x < 0 then -x else x) = (n : Int) := by
  rw [← h, Int.gcd_zero_right]
  split <;> omega
theorem big2 {i : Int} {n : Nat} (h : i.natAbs ≤ 2 ^ n) (hn : n < 8000) : Big i := Nat.lt_of_le_of_lt h (Nat.pow_lt_pow_right (by decide) hn)
theorem ints_at {ns : List Int} {i : Nat} {v : V} (h : (ns.map V.int)[i]? = some v) : ∃ e, v = .int e ∧ ns[i]? = some e := by
  rw [List.getElem?_map] at h
  cases q : ns[i]? with
  | none => rw [q] at h; cases h
  | some e => rw [q] at h; exact ⟨e, (Option.some.inj h).symm, rfl⟩
theorem take_succ_of {α : Type} {xs : List α} {i : Nat} {x : α} (h : xs[i]? = some x) : xs.take (i + 1) = xs.take i ++ [x] := by
  rw [List.take_add_one, h]; rfl
theorem tfd {H : Hp} {a b : Addr} {r : List Rat} {ys : List V} (h : TupR FrR H b r) (e : H a = some (.lst ys)) : TupR FrR (del H a) b r := by
  obtain ⟨cs, h1, h2⟩ := h
  exact ⟨cs, del_at h1 (fun z => by rw [z, e] at h1; cases h1), at_del e h2⟩
theorem mo_tf : Mo (TupR FrR) := fun s h => mo_tup (R := FrR) (fun s h => mo_fr s h) s h
noncomputable def FloorR (H : Hp) (a : Addr) (W U : Rat) (rows : List (List Rat)) : Prop := ∃ p q r, H a = some (.tup [.ref p, .ref q, .ref r]) ∧ FrR H p W ∧ FrR H q U ∧ TupR (TupR FrR) H r rows
theorem mo_floor {H H' : Hp} {a : Addr} {W U : Rat} {rows : List (List Rat)} (s : Same H H') (h : FloorR H a W U rows) : FloorR H' a W U rows := by
  obtain ⟨p, q, r, h1, h2, h3, h4⟩ := h
  exact ⟨p, q, r, s _ _ h1, s _ _ h2, s _ _ h3, mo_tup (R := TupR FrR) (fun s h => mo_tf s h) s h4⟩
noncomputable abbrev Sf (q : Rat) : Prop := Sb 3900 3900 q
theorem Sf.n {q : Rat} (h : Sf q) : Big q.num := big2 h.1 (by decide)
theorem Sf.d {q : Rat} (h : Sf q) : Big (q.den : Int) := big2 (n := 3900) (by simpa using h.2) (by decide)
theorem q4_0 {x y z u : V} : atI [x, y, z, u] 0 = some x := atI_nat (j := 0) rfl
theorem q4_1 {x y z u : V} : atI [x, y, z, u] 1 = some y := atI_nat (j := 1) rfl
theorem q4_2 {x y z u : V} : atI [x, y, z, u] 2 = some z := atI_nat (j := 2) rfl
theorem q4_3 {x y z u : V} : atI [x, y, z, u] 3 = some u := atI_nat (j := 3) rfl
theorem tup4 {H : Hp} {p : Addr} {r : List Rat} (h : TupR FrR H p r) (n : r.length = 4) : ∃ (c0 c1 c2 c3 : Addr) (x0 x1 x2 x3 : Rat), r = [x0, x1, x2, x3] ∧ H p = some (.tup [.ref c0, .ref c1, .ref c2, .ref c3]) ∧ FrR H c0 x0 ∧ FrR H c1 x1 ∧ FrR H c2 x2 ∧ FrR H c3 x3 := by
  obtain ⟨cs, hp, hC⟩ := h
  have lc : cs.length = 4 := by rw [hC.1, n]
  match r, n, cs, lc with
  | [x0, x1, x2, x3], _, [c0, c1, c2, c3], _ => exact ⟨c0, c1, c2, c3, x0, x1, x2, x3, rfl, hp, hC.2 0 _ _ rfl rfl, hC.2 1 _ _ rfl rfl, hC.2 2 _ _ rfl rfl, hC.2 3 _ _ rfl rfl⟩
end My
namespace L2
open PySem PySem.Spec PyProof.Rows My
section
variable {X : Cx}
theorem rdF {H : Hp} {b : Addr} {q : Rat} (h : FrR H b q) : RdD H (.ref b) (frD q) := by
  refine .tup h rfl fun i x d e1 e2 => ?_
  match i with
  | 0 => obtain rfl := Option.some.inj e1; obtain rfl := Option.some.inj e2; exact .int _
  | 1 => obtain rfl := Option.some.inj e1; obtain rfl := Option.some.inj e2; exact .int _
  | i + 2 => simp at e1
theorem shaped_fr (q : Rat) : SeqAt.shaped (frD q) = true := by
  simp [SeqAt.shaped, frD, PyData.canLay0, PyData.canLayAll0, PyData.depth, PyData.depthAll]
theorem okF (q : Rat) : (frD q).canLay0 = true ∧ (frD q).depth ≤ 64 := by
  have s := shaped_fr q
  unfold SeqAt.shaped at s
  rw [Bool.and_eq_true] at s
  exact ⟨s.1, of_decide_eq_true s.2⟩
noncomputable def rEqF : R2 := fun x y H Q => ∃ (p q : Addr) (a b : Rat), x = .ref p ∧ y = .ref q ∧ FrR H p a ∧ FrR H q b ∧ Q (.bl (decide (a = b))) H
noncomputable def rNeF : R2 := fun x y H Q => ∃ (p q : Addr) (a b : Rat), x = .ref p ∧ y = .ref q ∧ FrR H p a ∧ FrR H q b ∧ Q (.bl (!decide (a = b))) H
theorem op_eqF (hu : X.A.units + 64 < cLine) : OpR X (compareOp .Eq) rEqF := by
  intro pins s σ H x y v u Q I rx ry h
  obtain ⟨p, q, a, b, rfl, rfl, hp, hq, k⟩ := h
  refine op_eqG hu pins s σ H _ _ v u Q I rx ry ⟨_, _, rdF hp, rdF hq, okF a, okF b, ?_⟩
  rw [eqv_fr]; exact k
theorem op_neF (hu : X.A.units + 64 < cLine) : OpR X (compareOp .NotEq) rNeF := by
  intro pins s σ H x y v u Q I rx ry h
  obtain ⟨p, q, a, b, rfl, rfl, hp, hq, k⟩ := h
  refine op_neG hu pins s σ H _ _ v u Q I rx ry ⟨_, _, rdF hp, rdF hq, okF a, okF b, ?_⟩
  rw [eqv_fr]; exact k
end
end L2
namespace My
open PySem L2 Mth Wd Fl
section
variable {P : Program} {w : World} {K : PySem.W.Frag} {mg : Str → Option Value} {base : Heap} {f g h f1 f2 f3 : Addr} {fd gd hd d1 d2 d3 : FuncData}
inductive SpLessR (vs : List V) (H : Hp) (Q : VK) : Prop
  | mk (p q : Addr) (x y : Rat) (h_0 : vs = [.ref p, .ref q]) (h_1 : FrR H p x) (h_2 : FrR H q y) (h_3 : Sf x) (h_4 : Sf y) (h_5 : Q (.bl (decide (x < y))) H) : SpLessR vs H Q
noncomputable def spLess : Sp := fun vs H Q _ => SpLessR vs H Q
theorem scLe : FnScope ["one", "other"] ["one", "other"] (defScope sLess) := ⟨rfl, rfl, rfl, by decide +kernel, rfl, by decide +kernel, by decide +kernel⟩
theorem ok_less (F : Fun K "less" "less" sLess f fd) : FnOk P w K mg base CX0 1 f fd ["one", "other"] spLess := by
  refine F.ok scLe (fun vs H Q E h => ?_) (fun cdv A outer s H vs Q E hr h => ?_)
  · obtain ⟨p, q, x, y, rfl, _⟩ := h
    rfl
  obtain ⟨p, q, x, y, rfl, hp, hq, sx, sy, k⟩ := h
  refine ⟨_, pss_one (ps_ret (pe_cmpR op_lt (pe_op op_mulB (pe_ix (ixT (K := K)) (pv 0) pe_int (fun _ _ => rfl)) (pe_ix (ixT (K := K)) (pv 1) pe_int (fun _ _ => rfl))) (pe_op op_mulB (pe_ix (ixT (K := K)) (pv 1) pe_int (fun _ _ => rfl)) (pe_ix (ixT (K := K)) (pv 0) pe_int (fun _ _ => rfl))) (nomark _))), ?_⟩
  rw [show decide (x < y) = decide (x.num * (y.den : Int) < y.num * (x.den : Int)) from decide_eq_decide.mpr (Rat.lt_iff x y)] at k
  exact ⟨_, rfl, p, _, _, _, rfl, rfl, SqT.of hp, at0, _, rfl, q, _, _, _, rfl, rfl, SqT.of hq, at1, _, _, rfl, rfl, ⟨sx.n, sy.d⟩, _, rfl, q, _, _, _, rfl, rfl, SqT.of hq, at0, _, rfl, p, _, _, _, rfl, rfl, SqT.of hp, at1, _, _, rfl, rfl, ⟨sy.n, sx.d⟩, _, _, rfl, rfl, k⟩
inductive SpPairR (vs : List V) (H : Hp) (Q : VK) : Prop
  | mk (n j k : Int) (h_0 : vs = [.int n, .int j, .int k]) (h_1 : 0 ≤ j) (h_2 : j < k) (h_3 : k < n) (h_4 : Q (.bl true) H) : SpPairR vs H Q
noncomputable def spPair : Sp := fun vs H Q _ => SpPairR vs H Q
theorem scPr : FnScope ["count", "j", "k"] ["count", "j", "k"] (defScope s_is_pair) := ⟨rfl, rfl, rfl, by decide +kernel, rfl, by decide +kernel, by decide +kernel⟩
theorem ok_pair (F : Fun K "is_pair" "is_pair" s_is_pair f fd) : FnOk P w K mg base CX0 1 f fd ["count", "j", "k"] spPair := by
  refine F.ok scPr (fun vs H Q E h => ?_) (fun cdv A outer s H vs Q E hr h => ?_)
  · obtain ⟨n, j, k, rfl, _⟩ := h
    rfl
  obtain ⟨n, j, k, rfl, h1, h2, h3, q⟩ := h
  refine ⟨_, pss_one (ps_ret (pe_and (pe_cmpR op_le pe_int (pv 1) (nomark _)) (pe_and (pe_cmpR op_lt (pv 1) (pv 2) (nomark _)) (pe_one (pe_cmpR op_lt (pv 2) (pv 0) (nomark _)))))), ?_⟩
  refine ⟨_, rfl, _, _, rfl, rfl, _, rfl, iteDT h1 ?_⟩
  refine ⟨_, rfl, _, rfl, _, _, rfl, rfl, _, rfl, iteDT h2 ?_⟩
  refine ⟨_, rfl, _, rfl, _, _, rfl, rfl, ?_⟩
  (try dsimp only)
  rw [decide_eq_true h3]
  exact q
noncomputable def tchR (r : List Rat) (x l rr : Rat) : Bool := (decide (r.getD 1 0 = x) || decide (r.getD 3 0 = x)) && (!decide (r.getD 2 0 < l) && !decide (rr < r.getD 0 0))
inductive SpTchR (vs : List V) (H : Hp) (Q : VK) : Prop
  | mk (p a b c : Addr) (r : List Rat) (x l rr : Rat) (h_0 : vs = [.ref p, .ref a, .ref b, .ref c]) (h_1 : TupR FrR H p r) (h_2 : r.length = 4) (h_3 : (∀ y ∈ r, Sf y)) (h_4 : FrR H a x) (h_5 : FrR H b l) (h_6 : FrR H c rr) (h_7 : Sf l) (h_8 : Sf rr) (h_9 : Q (.bl (tchR r x l rr)) H) : SpTchR vs H Q
noncomputable def spTch : Sp := fun vs H Q _ => SpTchR vs H Q
theorem scTc : FnScope ["rectangle", "level", "left", "right"] ["rectangle", "level", "left", "right"] (defScope s_touches) := ⟨rfl, rfl, rfl, by decide +kernel, rfl, by decide +kernel, by decide +kernel⟩
theorem ok_touches (F : Fun K "touches" "touches" s_touches f fd) (G : FnOk P w K mg base CX0 1 g gd ["one", "other"] spLess) (bG : Binds K gd ["one", "other"] []) (kG : PySem.W.keepIn K (.ref g) = true) (mG : mg "less" = some (.ref g)) : FnOk P w K mg base CX0 2 f fd ["rectangle", "level", "left", "right"] spTch := by
  refine F.ok scTc (fun vs H Q E h => ?_) (fun cdv A outer s H vs Q E hr h => ?_)
  · obtain ⟨p, a, b, c, r, x, l, rr, rfl, _⟩ := h
    rfl
  obtain ⟨p, a, b, c, r, x, l, rr, rfl, hp, n4, sf, hx, hl, hr', sl, sr, q⟩ := h
  obtain ⟨c0, c1, c2, c3, x0, x1, x2, x3, rfl, hp, h0, h1, h2, h3⟩ := tup4 hp n4
  refine ⟨_, pss_cons (ps_if (PW.pt (pw_and (pt_cmpR (op_neF hr.units) (pe_ix (ixT (K := K)) (pv 0) pe_int (fun _ _ => rfl)) (pv 1) (nomark _)) (pw_and1 (pt_cmpR (op_neF hr.units) (pe_ix (ixT (K := K)) (pv 0) pe_int (fun _ _ => rfl)) (pv 1) (nomark _))))) (pss_one (ps_ret pe_bl)) pss_nil)
    (pss_one (ps_ret (pe_and (pe_not (pe_call G hr (by rfl) mG kG bG .nil pass0 (pa_cons (pe_ix (ixT (K := K)) (pv 0) pe_int (fun _ _ => rfl)) (pa_cons (pv 2) pa_nil)))) (pe_one (pe_not (pe_call G hr (by rfl) mG kG bG .nil pass0 (pa_cons (pv 3) (pa_cons (pe_ix (ixT (K := K)) (pv 0) pe_int (fun _ _ => rfl)) pa_nil)))))))), ?_⟩
  have e : tchR [x0, x1, x2, x3] x l rr = ((decide (x1 = x) || decide (x3 = x)) && (!decide (x2 < l) && !decide (rr < x0))) := rfl
  rw [e] at q
  have fin : (decide (x1 = x) || decide (x3 = x)) = true → tRet (tAndV (tNotV (tCall spLess [] E0 (tCons (tOp (rIxT K) (tVar 0) (tC (.int 2))) (tCons (tVar 2) tNil)))) (tNotV (tCall spLess [] E0 (tCons (tVar 3) (tCons (tOp (rIxT K) (tVar 0) (tC (.int 0))) tNil))))) { nx := fun _ H' => Q .non H', rt := Q } [some (.ref p), some (.ref a), some (.ref b), some (.ref c)] H := fun z => by
    rw [z, Bool.true_and] at q
    refine ⟨_, rfl, p, _, _, _, rfl, rfl, SqT.of hp, q4_2, _, rfl, c2, b, x2, l, rfl, h2, hl, sf _ (by simp), sl, _, rfl, _, rfl, ?_⟩
    cases y : decide (x2 < l) with
    | true => rw [y] at q; exact iteF q
    | false =>
      rw [y, Bool.not_false, Bool.true_and] at q
      refine iteT ?_
      exact ⟨_, rfl, _, rfl, p, _, _, _, rfl, rfl, SqT.of hp, q4_0, c, c0, rr, x0, rfl, hr', h0, sr, sf _ (by simp), _, rfl, q⟩
  refine ⟨_, rfl, p, _, _, _, rfl, rfl, SqT.of hp, q4_1, _, rfl, c1, a, x1, x, rfl, rfl, h1, hx, _, rfl, ?_⟩
  by_cases z1 : x1 = x
  · refine iteNS z1 ?_
    exact fin (by rw [decide_eq_true z1]; rfl)
  refine iteNN z1 ?_
  refine ⟨_, rfl, p, _, _, _, rfl, rfl, SqT.of hp, q4_3, _, rfl, c3, a, x3, x, rfl, rfl, h3, hx, _, rfl, ?_⟩
  by_cases z3 : x3 = x
  · refine iteNS z3 ?_
    exact fin (by rw [decide_eq_true z3, Bool.or_true])
  refine iteNN z3 ?_
  rw [decide_eq_false z1, decide_eq_false z3, Bool.or_false, Bool.false_and] at q
  exact q
end
end My
namespace My
open PySem L2 Mth Wd Fl
noncomputable def lvlR (r s : List Rat) : Option Rat := if r.getD 1 0 = s.getD 3 0 then some (r.getD 1 0) else if s.getD 1 0 = r.getD 3 0 then some (s.getD 1 0) else none
noncomputable def thirdR (rows : List (List Rat)) (j k : Nat) (x l rr : Rat) (n : Nat) : Bool := decide (n = j) || (decide (n = k) || !tchR (rows.getD n []) x l rr)
noncomputable def abvR (rows : List (List Rat)) (j k : Nat) : Bool := match lvlR (rows.getD j []) (rows.getD k []) with
  | none => false
  | some x => (decide ((rows.getD j []).getD 0 0 = (rows.getD k []).getD 0 0) && decide ((rows.getD j []).getD 2 0 = (rows.getD k []).getD 2 0)) && (List.range rows.length).all (thirdR rows j k x ((rows.getD j []).getD 0 0) ((rows.getD j []).getD 2 0))
noncomputable def bsdR (rows : List (List Rat)) (j k : Nat) : Bool := (decide ((rows.getD j []).getD 1 0 = (rows.getD k []).getD 1 0) && decide ((rows.getD j []).getD 3 0 = (rows.getD k []).getD 3 0)) && (decide ((rows.getD j []).getD 2 0 = (rows.getD k []).getD 0 0) || decide ((rows.getD k []).getD 2 0 = (rows.getD j []).getD 0 0))
structure RowsK (rows : List (List Rat)) : Prop where
  n : rows.length ≤ 30
  four : ∀ r ∈ rows, r.length = 4
  sf : ∀ r ∈ rows, ∀ y ∈ r, Sf y
theorem row_get {rows : List (List Rat)} {j : Nat} (h : j < rows.length) : rows[j]? = some (rows.getD j []) := by
  rw [List.getElem?_eq_getElem h]; simp [h]
section
variable {P : Program} {w : World} {K : PySem.W.Frag} {mg : Str → Option Value} {base : Heap} {f g h f1 f2 f3 : Addr} {fd gd hd d1 d2 d3 : FuncData}
inductive SpCLR (vs : List V) (H : Hp) (Q : VK) : Prop
  | mk (p q : Addr) (r s : List Rat) (h_0 : vs = [.ref p, .ref q]) (h_1 : TupR FrR H p r) (h_2 : TupR FrR H q s) (h_3 : r.length = 4) (h_4 : s.length = 4) (h_5 : (∀ a x, lvlR r s = some x → FrR H a x → (x ∈ r ∨ x ∈ s) → Q (.ref a) H)) (h_6 : (lvlR r s = none → Q .non H)) : SpCLR vs H Q
noncomputable def spCL : Sp := fun vs H Q _ => SpCLR vs H Q
theorem scCL : FnScope ["one", "other"] ["one", "other"] (defScope s_common_level) := ⟨rfl, rfl, rfl, by decide +kernel, rfl, by decide +kernel, by decide +kernel⟩
theorem ok_level (F : Fun K "common_level" "common_level" s_common_level f fd) : FnOk P w K mg base CX0 1 f fd ["one", "other"] spCL := by
  refine F.ok scCL (fun vs H Q E h => ?_) (fun cdv A outer s H vs Q E hr h => ?_)
  · obtain ⟨p, q, r, s, rfl, _⟩ := h
    rfl
  obtain ⟨p, q, r, s, rfl, hp, hq, n4, m4, qy, qn⟩ := h
  obtain ⟨c0, c1, c2, c3, x0, x1, x2, x3, rfl, hp, h0, h1, h2, h3⟩ := tup4 hp n4
  obtain ⟨e0, e1, e2, e3, y0, y1, y2, y3, rfl, hq, g0, g1, g2, g3⟩ := tup4 hq m4
  refine ⟨_, pss_cons (ps_if (pt_cmpR (op_eqF hr.units) (pe_ix (ixT (K := K)) (pv 0) pe_int (fun _ _ => rfl)) (pe_ix (ixT (K := K)) (pv 1) pe_int (fun _ _ => rfl)) (nomark _)) (pss_one (ps_ret (pe_ix (ixT (K := K)) (pv 0) pe_int (fun _ _ => rfl)))) pss_nil)
    (pss_cons (ps_if (pt_cmpR (op_eqF hr.units) (pe_ix (ixT (K := K)) (pv 1) pe_int (fun _ _ => rfl)) (pe_ix (ixT (K := K)) (pv 0) pe_int (fun _ _ => rfl)) (nomark _)) (pss_one (ps_ret (pe_ix (ixT (K := K)) (pv 1) pe_int (fun _ _ => rfl)))) pss_nil)
    (pss_one (ps_ret pe_non))), ?_⟩
  have e : lvlR [x0, x1, x2, x3] [y0, y1, y2, y3] = if x1 = y3 then some x1 else if y1 = x3 then some y1 else none := rfl
  rw [e] at qy qn
  refine ⟨_, rfl, p, _, _, _, rfl, rfl, SqT.of hp, q4_1, _, rfl, q, _, _, _, rfl, rfl, SqT.of hq, q4_3, c1, e3, x1, y3, rfl, rfl, h1, g3, _, rfl, ?_⟩
  by_cases z1 : x1 = y3
  · refine iteDT z1 ?_
    rw [if_pos z1] at qy
    exact ⟨_, rfl, p, _, _, _, rfl, rfl, SqT.of hp, q4_1, qy c1 x1 rfl h1 (.inl (by simp))⟩
  refine iteDF z1 ?_
  rw [if_neg z1] at qy qn
  refine ⟨_, rfl, q, _, _, _, rfl, rfl, SqT.of hq, q4_1, _, rfl, p, _, _, _, rfl, rfl, SqT.of hp, q4_3, e1, c3, y1, x3, rfl, rfl, g1, h3, _, rfl, ?_⟩
  by_cases z2 : y1 = x3
  · refine iteDT z2 ?_
    rw [if_pos z2] at qy
    exact ⟨_, rfl, q, _, _, _, rfl, rfl, SqT.of hq, q4_1, qy e1 y1 rfl g1 (.inr (by simp))⟩
  refine iteDF z2 ?_
  rw [if_neg z2] at qn
  exact qn rfl
inductive SpTwoRR (t : List (List Rat) → Nat → Nat → Bool) (vs : List V) (H : Hp) (Q : VK) : Prop
  | mk (p : Addr) (rows : List (List Rat)) (j k : Nat) (h_0 : vs = [.ref p, .int (j : Int), .int (k : Int)]) (h_1 : TupR (TupR FrR) H p rows) (h_2 : RowsK rows) (h_3 : j < rows.length) (h_4 : k < rows.length) (h_5 : ∀ H', Same H H' → Q (.bl (t rows j k)) H') : SpTwoRR t vs H Q
noncomputable def spTwoR (t : List (List Rat) → Nat → Nat → Bool) : Sp := fun vs H Q _ => SpTwoRR t vs H Q
theorem scBs : FnScope ["rectangles", "j", "k", "one", "other"] ["rectangles", "j", "k"] (defScope s_is_beside) := ⟨rfl, rfl, rfl, by decide +kernel, rfl, by decide +kernel, by decide +kernel⟩
theorem ok_beside (F : Fun K "is_beside" "is_beside" s_is_beside f fd) : FnOk P w K mg base CX0 1 f fd ["rectangles", "j", "k"] (spTwoR bsdR) := by
  refine F.ok scBs (fun vs H Q E h => ?_) (fun cdv A outer s H vs Q E hr h => ?_)
  · obtain ⟨p, rows, j, k, rfl, _⟩ := h
    rfl
  obtain ⟨p, rows, j, k, rfl, ⟨cs, hp, hC⟩, rk, hj, hk, q⟩ := h
  have q := q H (Same.refl _)
  obtain ⟨a, ea, ha⟩ := hC.get (row_get hj)
  obtain ⟨b, eb, hb⟩ := hC.get (row_get hk)
  have n4 := rk.four _ (List.mem_of_getElem? (row_get hj))
  have m4 := rk.four _ (List.mem_of_getElem? (row_get hk))
  unfold bsdR at q
  generalize rows.getD j [] = r at ha n4 q
  generalize rows.getD k [] = t at hb m4 q
  obtain ⟨c0, c1, c2, c3, x0, x1, x2, x3, rfl, ha, h0, h1, h2, h3⟩ := tup4 ha n4
  obtain ⟨e0, e1, e2, e3, y0, y1, y2, y3, rfl, hb, g0, g1, g2, g3⟩ := tup4 hb m4
  refine ⟨_, pss_cons (ps_set (i := 3) scBs.nd rfl (Or.inl rfl) (pe_ix (ixT (K := K)) (pv 0) (pv 1) (fun _ _ => rfl)))
    (pss_cons (ps_set (i := 4) scBs.nd rfl (Or.inl rfl) (pe_ix (ixT (K := K)) (pv 0) (pv 2) (fun _ _ => rfl)))
    (pss_cons (ps_if (PW.pt (pw_or (pt_cmpR (op_neF hr.units) (pe_ix (ixT (K := K)) (pv 3) pe_int (fun _ _ => rfl)) (pe_ix (ixT (K := K)) (pv 4) pe_int (fun _ _ => rfl)) (nomark _)) (pw_or1 (pt_cmpR (op_neF hr.units) (pe_ix (ixT (K := K)) (pv 3) pe_int (fun _ _ => rfl)) (pe_ix (ixT (K := K)) (pv 4) pe_int (fun _ _ => rfl)) (nomark _))))) (pss_one (ps_ret pe_bl)) pss_nil)
    (pss_one (ps_ret (pe_or (pe_cmpR (op_eqF hr.units) (pe_ix (ixT (K := K)) (pv 3) pe_int (fun _ _ => rfl)) (pe_ix (ixT (K := K)) (pv 4) pe_int (fun _ _ => rfl)) (nomark _)) (pe_one (pe_cmpR (op_eqF hr.units) (pe_ix (ixT (K := K)) (pv 4) pe_int (fun _ _ => rfl)) (pe_ix (ixT (K := K)) (pv 3) pe_int (fun _ _ => rfl)) (nomark _)))))))), ?_⟩
  refine ⟨_, rfl, _, rfl, p, _, _, _, rfl, rfl, SqT.of hp, atI_nat (ref_at ea), ?_⟩
  refine ⟨_, rfl, _, rfl, p, _, _, _, rfl, rfl, SqT.of hp, atI_nat (ref_at eb), ?_⟩
  refine ⟨_, rfl, a, _, _, _, rfl, rfl, SqT.of ha, q4_1, _, rfl, b, _, _, _, rfl, rfl, SqT.of hb, q4_1, c1, e1, x1, y1, rfl, rfl, h1, g1, _, rfl, ?_⟩
  have q' : Q (.bl ((decide (x1 = y1) && decide (x3 = y3)) && (decide (x2 = y0) || decide (y2 = x0)))) H := q
  by_cases z1 : x1 = y1
  case neg =>
    refine iteNN z1 ?_
    rw [decide_eq_false z1, Bool.false_and, Bool.false_and] at q'
    exact q'
  refine iteNS z1 ?_
  refine ⟨_, rfl, a, _, _, _, rfl, rfl, SqT.of ha, q4_3, _, rfl, b, _, _, _, rfl, rfl, SqT.of hb, q4_3, c3, e3, x3, y3, rfl, rfl, h3, g3, _, rfl, ?_⟩
  by_cases z3 : x3 = y3
  case neg =>
    refine iteNN z3 ?_
    rw [decide_eq_false z3, Bool.and_false, Bool.false_and] at q'
    exact q'
  refine iteNS z3 ?_
  rw [decide_eq_true z1, decide_eq_true z3, Bool.true_and, Bool.true_and] at q'
  refine ⟨_, rfl, a, _, _, _, rfl, rfl, SqT.of ha, q4_2, _, rfl, b, _, _, _, rfl, rfl, SqT.of hb, q4_0, c2, e0, x2, y0, rfl, rfl, h2, g0, _, rfl, ?_⟩
  by_cases z2 : x2 = y0
  · refine iteDT z2 ?_
    rw [decide_eq_true z2, Bool.true_or] at q'
    exact q'
  refine iteDF z2 ?_
  rw [decide_eq_false z2, Bool.false_or] at q'
  exact ⟨_, rfl, b, _, _, _, rfl, rfl, SqT.of hb, q4_2, _, rfl, a, _, _, _, rfl, rfl, SqT.of ha, q4_0, e2, c0, y2, x0, rfl, rfl, g2, h0, q'⟩
end
end My
namespace My
open PySem L2 Mth Wd Fl
section
variable {P : Program} {w : World} {K : PySem.W.Frag} {mg : Str → Option Value} {base : Heap} {f g h f1 f2 f3 : Addr} {fd gd hd d1 d2 d3 : FuncData}
theorem scAb : FnScope ["rectangles", "j", "k", "left", "right", "level", "number", "third"] ["rectangles", "j", "k"] (defScope s_is_above) := ⟨rfl, rfl, rfl, by decide +kernel, rfl, by decide +kernel, by decide +kernel⟩
theorem ok_above (F : Fun K "is_above" "is_above" s_is_above f fd) (G1 : FnOk P w K mg base CX0 1 f1 d1 ["one", "other"] spCL) (b1 : Binds K d1 ["one", "other"] []) (k1 : PySem.W.keepIn K (.ref f1) = true) (m1 : mg "common_level" = some (.ref f1))
    (G2 : FnOk P w K mg base CX0 2 f2 d2 ["rectangle", "level", "left", "right"] spTch) (b2 : Binds K d2 ["rectangle", "level", "left", "right"] []) (k2 : PySem.W.keepIn K (.ref f2) = true) (m2 : mg "touches" = some (.ref f2)) (me : mg "enumerate" = none) :
    FnOk P w K mg base CX0 3 f fd ["rectangles", "j", "k"] (spTwoR abvR) := by
  refine F.ok scAb (fun vs H Q E h => ?_) (fun cdv A outer s H vs Q E hr h => ?_)
  · obtain ⟨p, rows, j, k, rfl, _⟩ := h
    rfl
  obtain ⟨p, rows, j, k, rfl, ⟨cs, hp, hC⟩, rk, hj, hk, q⟩ := h
  have hr1 := hr.mono (show 1 ≤ 2 by decide)
  have lc : cs.length = rows.length := hC.1
  obtain ⟨a, ea, ha0⟩ := hC.get (row_get hj)
  obtain ⟨b, eb, hb0⟩ := hC.get (row_get hk)
  have n4 := rk.four _ (List.mem_of_getElem? (row_get hj))
  have m4 := rk.four _ (List.mem_of_getElem? (row_get hk))
  have sfj := rk.sf _ (List.mem_of_getElem? (row_get hj))
  unfold abvR at q
  generalize rows.getD j [] = r at ha0 n4 q sfj
  generalize rows.getD k [] = t at hb0 m4 q
  obtain ⟨c0, c1, c2, c3, x0, x1, x2, x3, rfl, ha, h0, h1, h2, h3⟩ := tup4 ha0 n4
  obtain ⟨e0, e1, e2, e3, y0, y1, y2, y3, rfl, hb, g0, g1, g2, g3⟩ := tup4 hb0 m4
  refine ⟨_, pss_cons (ps_set (i := 3) scAb.nd rfl (Or.inl rfl) (pe_ix (ixT (K := K)) (pe_ix (ixT (K := K)) (pv 0) (pv 1) (fun _ _ => rfl)) pe_int (fun _ _ => rfl)))
    (pss_cons (ps_set (i := 4) scAb.nd rfl (Or.inl rfl) (pe_ix (ixT (K := K)) (pe_ix (ixT (K := K)) (pv 0) (pv 1) (fun _ _ => rfl)) pe_int (fun _ _ => rfl)))
    (pss_cons (ps_set (i := 5) scAb.nd rfl (Or.inl rfl) (pe_call G1 hr1 (by rfl) m1 k1 b1 .nil pass0 (pa_cons (pe_ix (ixT (K := K)) (pv 0) (pv 1) (fun _ _ => rfl)) (pa_cons (pe_ix (ixT (K := K)) (pv 0) (pv 2) (fun _ _ => rfl)) pa_nil))))
    (pss_cons (ps_if (PW.pt (pw_or (pt_cmp (pc_isN (pv 5))) (pw_or (pt_cmpR (op_neF hr.units) (pv 3) (pe_ix (ixT (K := K)) (pe_ix (ixT (K := K)) (pv 0) (pv 2) (fun _ _ => rfl)) pe_int (fun _ _ => rfl)) (nomark _)) (pw_or1 (pt_cmpR (op_neF hr.units) (pv 4) (pe_ix (ixT (K := K)) (pe_ix (ixT (K := K)) (pv 0) (pv 2) (fun _ _ => rfl)) pe_int (fun _ _ => rfl)) (nomark _)))))) (pss_one (ps_ret pe_bl)) pss_nil)
    (pss_cons (ps_for PassesOwn.never rfl (pi_enum (by rfl) me (pa_cons (pv 0) pa_nil)) (pgTup (n := 2) (K := K) rfl (pgs_cons (pg_name (i := 6) scAb.nd rfl (Or.inl rfl)) (pgs_cons (pg_name (i := 7) scAb.nd rfl (Or.inl rfl)) pgs_nil)))
      (pss_one (ps_if (PW.pt (pw_and (pt_cmpR op_ne (pv 6) (pv 1) (nomark _)) (pw_and (pt_cmpR op_ne (pv 6) (pv 2) (nomark _)) (pw_and1 (pt_val (pe_call G2 hr (by rfl) m2 k2 b2 .nil pass0 (pa_cons (pv 7) (pa_cons (pv 5) (pa_cons (pv 3) (pa_cons (pv 4) pa_nil)))))))))) (pss_one (ps_ret pe_bl)) pss_nil)))
    (pss_one (ps_ret pe_bl)))))), ?_⟩
  refine ⟨_, rfl, _, rfl, p, _, _, _, rfl, rfl, SqT.of hp, atI_nat (ref_at ea), a, _, _, _, rfl, rfl, SqT.of ha, q4_0, ?_⟩
  refine ⟨_, rfl, _, rfl, p, _, _, _, rfl, rfl, SqT.of hp, atI_nat (ref_at ea), a, _, _, _, rfl, rfl, SqT.of ha, q4_2, ?_⟩
  refine ⟨_, rfl, _, rfl, p, _, _, _, rfl, rfl, SqT.of hp, atI_nat (ref_at ea), _, rfl, _, rfl, p, _, _, _, rfl, rfl, SqT.of hp, atI_nat (ref_at eb), a, b, _, _, rfl, ha0, hb0, rfl, rfl, fun lv x hx hlv hm => ?_, fun hx => ?_⟩
  rotate_left
  · rw [hx] at q
    refine ⟨_, rfl, _, rfl, iteDT rfl ?_⟩
    exact q H (Same.refl _)
  rw [hx] at q
  refine ⟨_, rfl, _, rfl, iteDF (by intro z; cases z) ?_⟩
  have q' : ∀ H', Same H H' → Q (.bl ((decide (x0 = y0) && decide (x2 = y2)) && (List.range rows.length).all (thirdR rows j k x x0 x2))) H' := q
  refine ⟨_, rfl, _, rfl, _, rfl, p, _, _, _, rfl, rfl, SqT.of hp, atI_nat (ref_at eb), b, _, _, _, rfl, rfl, SqT.of hb, q4_0, c0, e0, x0, y0, rfl, rfl, h0, g0, _, rfl, ?_⟩
  by_cases z0 : x0 = y0
  case neg =>
    refine iteNN z0 ?_
    have q2 := q' H (Same.refl _)
    rw [decide_eq_false z0, Bool.false_and, Bool.false_and] at q2
    exact q2
  refine iteNS z0 ?_
  refine ⟨_, rfl, _, rfl, _, rfl, p, _, _, _, rfl, rfl, SqT.of hp, atI_nat (ref_at eb), b, _, _, _, rfl, rfl, SqT.of hb, q4_2, c2, e2, x2, y2, rfl, rfl, h2, g2, _, rfl, ?_⟩
  by_cases z2 : x2 = y2
  case neg =>
    refine iteNN z2 ?_
    have q2 := q' H (Same.refl _)
    rw [decide_eq_false z2, Bool.and_false, Bool.false_and] at q2
    exact q2
  refine iteNS z2 ?_
  have q3 : ∀ H', Same H H' → Q (.bl ((List.range rows.length).all (thirdR rows j k x x0 x2))) H' := fun H' s => by
    have q2 := q' H' s
    rw [decide_eq_true z0, decide_eq_true z2, Bool.true_and, Bool.true_and] at q2
    exact q2
  have lm : (cs.map V.ref).length = rows.length := by rw [List.length_map, lc]
  refine ⟨_, rfl, p, _, rfl, hp, ?_⟩
  refine for_enum (fun i σ H2 => Same H H2 ∧ (List.range i).all (thirdR rows j k x x0 x2) = true ∧ ∃ u6 u7, σ = [some (.ref p), some (.int (j : Int)), some (.int (k : Int)), some (.ref c0), some (.ref c2), some (.ref lv), u6, u7]) ⟨Same.refl _, rfl, none, none, rfl⟩ (fun i σ H2 _ z => z.1 _ _ hp) ?_ ?_
  · rintro i v σ H2 pe hi ⟨s2, al, u6, u7, rfl⟩ hpe
    have s3 := same_new hpe (.tup [.int (i : Int), v])
    have gpe : upd H2 pe (.tup [.int (i : Int), v]) pe = some (.tup [.int (i : Int), v]) := upd_same
    generalize upd H2 pe (.tup [.int (i : Int), v]) = H3 at s3 gpe
    have s03 := s2.trans s3
    obtain ⟨c, rw', rfl, hc, hrow, hR⟩ := hC.ref hi
    have il : i < rows.length := (List.getElem?_eq_some_iff.mp hrow).1
    obtain rfl : rw' = rows.getD i [] := by
      have := row_get il
      rw [hrow] at this
      exact Option.some.inj this
    refine ⟨pe, _, rfl, SqT.of gpe, rfl, _, _, rfl, _, _, rfl, rfl, ?_⟩
    have nxt : thirdR rows j k x x0 x2 i = true → (List.range (i + 1)).all (thirdR rows j k x x0 x2) = true := fun z => by
      rw [List.range_succ, List.all_append, al, Bool.true_and, List.all_cons, z]; rfl
    refine ⟨_, rfl, _, rfl, rfl, _, rfl, ?_⟩
    by_cases zj : i = j
    · refine iteNS (by rw [zj]) ?_
      exact ⟨s03, nxt (by unfold thirdR; rw [decide_eq_true zj]; rfl), _, _, rfl⟩
    refine iteNN (fun z => zj (by have := V.int.inj z; omega)) ?_
    refine ⟨_, rfl, _, rfl, rfl, _, rfl, ?_⟩
    by_cases zk : i = k
    · refine iteNS (by rw [zk]) ?_
      exact ⟨s03, nxt (by unfold thirdR; rw [decide_eq_true zk, Bool.true_or, Bool.or_true]), _, _, rfl⟩
    refine iteNN (fun z => zk (by have := V.int.inj z; omega)) ?_
    have et : thirdR rows j k x x0 x2 i = !tchR (rows.getD i []) x x0 x2 := by
      unfold thirdR; rw [decide_eq_false zj, decide_eq_false zk, Bool.false_or, Bool.false_or]
    refine ⟨_, rfl, _, rfl, _, rfl, _, rfl, c, lv, c0, c2, _, x, x0, x2, rfl, mo_tf s03 hR, rk.four _ (List.mem_of_getElem? hrow), rk.sf _ (List.mem_of_getElem? hrow), s03 _ _ hlv, s03 _ _ h0, s03 _ _ h2, sfj _ (by simp), sfj _ (by simp), _, rfl, ?_⟩
    cases y : tchR (rows.getD i []) x x0 x2 with
    | false =>
      refine iteF ?_
      exact ⟨s03, nxt (by rw [et, y]; rfl), _, _, rfl⟩
    | true =>
      refine iteT ?_
      have q4 := q3 H3 s03
      have fl : (List.range rows.length).all (thirdR rows j k x x0 x2) = false := by
        rw [Bool.eq_false_iff]
        intro z
        have := List.all_eq_true.mp z i (List.mem_range.mpr il)
        rw [et, y] at this
        cases this
      rw [fl] at q4
      exact q4
  · rintro σ H2 ⟨s2, al, u6, u7, rfl⟩
    rw [lm] at al
    have q4 := q3 H2 s2
    rw [al] at q4
    exact q4
end
end My
namespace My
open PySem L2 Mth Wd Fl
theorem neOO : ¬ (("one" : Str) = "other") := by decide +kernel
noncomputable def fldS (j k : Int) : List (Str × V) := putF "other" (.int k) (putF "one" (.int j) [])
theorem fldS_one (j k : Int) : (fldS j k).lookup ("one" : Str) = some (.int j) := by
  unfold fldS
  rw [lookup_putF, if_neg neOO, lookup_putF, if_pos rfl]
theorem fldS_other (j k : Int) : (fldS j k).lookup ("other" : Str) = some (.int k) := by
  unfold fldS
  rw [lookup_putF, if_pos rfl]
theorem fldS_no (j k : Int) {m : Str} (h1 : ¬ m = "other") (h2 : ¬ m = "one") : (fldS j k).lookup m = none := by
  unfold fldS
  rw [lookup_putF, if_neg h1, lookup_putF, if_neg h2]
  all_goals rfl
structure StC (K : PySem.W.Frag) (C : Addr) : Prop where
  cl : Cls K C
  n1 : NoAttr K C "one"
  n2 : NoAttr K C "other"
section
variable {P : Program} {w : World} {K : PySem.W.Frag} {mg : Str → Option Value} {base : Heap} {f g h f1 f2 f3 C : Addr} {fd gd hd d1 d2 d3 : FuncData}
inductive SpInitR (K : PySem.W.Frag) (vs : List V) (H : Hp) (Q : VK) : Prop
  | mk (p C dx : Addr) (j k : Int) (h_0 : vs = [.ref p, .int j, .int k]) (h_1 : StC K C) (h_2 : H p = some (.ins C dx [])) (h_3 : ∀ H', H' p = some (.ins C dx (fldS j k)) → SameB p H H' → Q .non H') : SpInitR K vs H Q
noncomputable def spInit (K : PySem.W.Frag) : Sp := fun vs H Q _ => SpInitR K vs H Q
theorem scIn : FnScope ["self", "one", "other"] ["self", "one", "other"] (defScope sInit) := ⟨rfl, rfl, rfl, by decide +kernel, rfl, by decide +kernel, by decide +kernel⟩
theorem ok_init (F : Fun K "__init__" "Step.__init__" sInit f fd) : FnOk P w K mg base CX0 1 f fd ["self", "one", "other"] (spInit K) := by
  refine F.ok scIn (fun vs H Q E h => ?_) (fun cdv A outer s H vs Q E hr h => ?_)
  · obtain ⟨p, C, dx, j, k, rfl, _⟩ := h
    rfl
  obtain ⟨p, C, dx, j, k, rfl, T, hp, q⟩ := h
  refine ⟨_, pss_cons (ps_fld (pv 0) (pv 1) rfl) (pss_one (ps_fld (pv 0) (pv 2) rfl)), ?_⟩
  refine ⟨_, rfl, _, rfl, p, C, dx, [], rfl, hp, T.cl, T.n1, (by show 0 < 1000; decide), ?_⟩
  refine ⟨_, rfl, _, rfl, p, C, dx, _, rfl, upd_same, T.cl, T.n2, (by show 1 < 1000; decide), ?_⟩
  exact q _ upd_same ((SameB.refl p H).put _ |>.put _)
inductive SpToldR (C : Addr) (wd : Str) (vs : List V) (H : Hp) (Q : VK) : Prop
  | mk (p dx : Addr) (j k : Int) (h_0 : vs = [.ref p]) (h_1 : H p = some (.ins C dx (fldS j k))) (h_2 : ∀ t, H t = none → Q (.ref t) (upd H t (.tup [.str wd, .int j, .int k]))) : SpToldR C wd vs H Q
noncomputable def spTold (C : Addr) (wd : Str) : Sp := fun vs H Q _ => SpToldR C wd vs H Q
theorem scTA : FnScope ["self"] ["self"] (defScope sToldA) := ⟨rfl, rfl, rfl, by decide +kernel, rfl, by decide +kernel, by decide +kernel⟩
theorem scTB : FnScope ["self"] ["self"] (defScope sToldB) := ⟨rfl, rfl, rfl, by decide +kernel, rfl, by decide +kernel, by decide +kernel⟩
theorem ok_toldA (F : Fun K "told" "Above.told" sToldA f fd) (T : StC K C) : FnOk P w K mg base CX0 1 f fd ["self"] (spTold C "above") := by
  refine F.ok scTA (fun vs H Q E h => ?_) (fun cdv A outer s H vs Q E hr h => ?_)
  · obtain ⟨p, dx, j, k, rfl, _⟩ := h
    rfl
  obtain ⟨p, dx, j, k, rfl, hp, q⟩ := h
  refine ⟨_, pss_one (ps_ret (pe_tup (pa_cons pe_str (pa_cons (pe_fld (pv 0) rfl) (pa_cons (pe_fld (pv 0) rfl) pa_nil))))), ?_⟩
  exact ⟨_, rfl, p, C, dx, _, _, rfl, hp, T.cl, T.n1, fldS_one _ _, _, rfl, p, C, dx, _, _, rfl, hp, T.cl, T.n2, fldS_other _ _, by show 3 ≤ sizeLine; decide, q⟩
theorem ok_toldB (F : Fun K "told" "Beside.told" sToldB f fd) (T : StC K C) : FnOk P w K mg base CX0 1 f fd ["self"] (spTold C "beside") := by
  refine F.ok scTB (fun vs H Q E h => ?_) (fun cdv A outer s H vs Q E hr h => ?_)
  · obtain ⟨p, dx, j, k, rfl, _⟩ := h
    rfl
  obtain ⟨p, dx, j, k, rfl, hp, q⟩ := h
  refine ⟨_, pss_one (ps_ret (pe_tup (pa_cons pe_str (pa_cons (pe_fld (pv 0) rfl) (pa_cons (pe_fld (pv 0) rfl) pa_nil))))), ?_⟩
  exact ⟨_, rfl, p, C, dx, _, _, rfl, hp, T.cl, T.n1, fldS_one _ _, _, rfl, p, C, dx, _, _, rfl, hp, T.cl, T.n2, fldS_other _ _, by show 3 ≤ sizeLine; decide, q⟩
inductive SpFitsR (C : Addr) (t : List (List Rat) → Nat → Nat → Bool) (vs : List V) (H : Hp) (Q : VK) : Prop
  | mk (p a dx : Addr) (j k : Nat) (W U : Rat) (rows : List (List Rat)) (h_0 : vs = [.ref p, .ref a]) (h_1 : H p = some (.ins C dx (fldS (j : Int) (k : Int)))) (h_2 : FloorR H a W U rows) (h_3 : RowsK rows) (h_4 : j < k) (h_5 : k < rows.length) (h_6 : ∀ H', Same H H' → Q (.bl (t rows j k)) H') : SpFitsR C t vs H Q
noncomputable def spFits (C : Addr) (t : List (List Rat) → Nat → Nat → Bool) : Sp := fun vs H Q _ => SpFitsR C t vs H Q
theorem scFA : FnScope ["self", "floor", "rectangles"] ["self", "floor"] (defScope sFitsA) := ⟨rfl, rfl, rfl, by decide +kernel, rfl, by decide +kernel, by decide +kernel⟩
theorem scFB : FnScope ["self", "floor", "rectangles"] ["self", "floor"] (defScope sFitsB) := ⟨rfl, rfl, rfl, by decide +kernel, rfl, by decide +kernel, by decide +kernel⟩
theorem ok_fitsA (F : Fun K "fits" "Above.fits" sFitsA f fd) (T : StC K C) (G1 : FnOk P w K mg base CX0 1 f1 d1 ["count", "j", "k"] spPair) (b1 : Binds K d1 ["count", "j", "k"] []) (k1 : PySem.W.keepIn K (.ref f1) = true) (m1 : mg "is_pair" = some (.ref f1))
    (G2 : FnOk P w K mg base CX0 3 f2 d2 ["rectangles", "j", "k"] (spTwoR abvR)) (b2 : Binds K d2 ["rectangles", "j", "k"] []) (k2 : PySem.W.keepIn K (.ref f2) = true) (m2 : mg "is_above" = some (.ref f2)) (ml : mg "len" = none) : FnOk P w K mg base CX0 4 f fd ["self", "floor"] (spFits C abvR) := by
  refine F.ok scFA (fun vs H Q E h => ?_) (fun cdv A outer s H vs Q E hr h => ?_)
  · obtain ⟨p, a, dx, j, k, W, U, rows, rfl, _⟩ := h
    rfl
  obtain ⟨p, a, dx, j, k, W, U, rows, rfl, hp, ⟨pw, pu, pr, ha, _, _, hR⟩, rk, jk, kn, q⟩ := h
  have hr1 := hr.mono (show 1 ≤ 3 by decide)
  obtain ⟨cs, hpr, hC⟩ := id hR
  have lm : (cs.map V.ref).length = rows.length := by rw [List.length_map, hC.1]
  refine ⟨_, pss_cons (ps_set (i := 2) scFA.nd rfl (Or.inl rfl) (pe_ix (ixT (K := K)) (pv 1) pe_int (fun _ _ => rfl)))
    (pss_one (ps_ret (pe_and (pe_call G1 hr1 (by rfl) m1 k1 b1 .nil pass0 (pa_cons (pe_callB (callLen (K := K)) (by rfl) ml bt_len (pa_cons (pv 2) pa_nil)) (pa_cons (pe_fld (pv 0) rfl) (pa_cons (pe_fld (pv 0) rfl) pa_nil)))) (pe_one (pe_call G2 hr (by rfl) m2 k2 b2 .nil pass0 (pa_cons (pv 2) (pa_cons (pe_fld (pv 0) rfl) (pa_cons (pe_fld (pv 0) rfl) pa_nil)))))))), ?_⟩
  refine ⟨_, rfl, a, _, _, _, rfl, rfl, SqT.of ha, t3_2 _ _ _, ?_⟩
  refine ⟨_, rfl, pr, _, rfl, .inr (SqT.of hpr), _, rfl, p, C, dx, _, _, rfl, hp, T.cl, T.n1, fldS_one _ _, _, rfl, p, C, dx, _, _, rfl, hp, T.cl, T.n2, fldS_other _ _, _, _, _, rfl, by omega, by omega, by rw [lm]; omega, _, rfl, iteT ?_⟩
  exact ⟨_, rfl, _, rfl, p, C, dx, _, _, rfl, hp, T.cl, T.n1, fldS_one _ _, _, rfl, p, C, dx, _, _, rfl, hp, T.cl, T.n2, fldS_other _ _, pr, rows, j, k, rfl, hR, rk, by omega, by omega, q⟩
theorem ok_fitsB (F : Fun K "fits" "Beside.fits" sFitsB f fd) (T : StC K C) (G1 : FnOk P w K mg base CX0 1 f1 d1 ["count", "j", "k"] spPair) (b1 : Binds K d1 ["count", "j", "k"] []) (k1 : PySem.W.keepIn K (.ref f1) = true) (m1 : mg "is_pair" = some (.ref f1))
    (G2 : FnOk P w K mg base CX0 1 f2 d2 ["rectangles", "j", "k"] (spTwoR bsdR)) (b2 : Binds K d2 ["rectangles", "j", "k"] []) (k2 : PySem.W.keepIn K (.ref f2) = true) (m2 : mg "is_beside" = some (.ref f2)) (ml : mg "len" = none) : FnOk P w K mg base CX0 4 f fd ["self", "floor"] (spFits C bsdR) := by
  refine F.ok scFB (fun vs H Q E h => ?_) (fun cdv A outer s H vs Q E hr h => ?_)
  · obtain ⟨p, a, dx, j, k, W, U, rows, rfl, _⟩ := h
    rfl
  obtain ⟨p, a, dx, j, k, W, U, rows, rfl, hp, ⟨pw, pu, pr, ha, _, _, hR⟩, rk, jk, kn, q⟩ := h
  have hr1 := hr.mono (show 1 ≤ 3 by decide)
  obtain ⟨cs, hpr, hC⟩ := id hR
  have lm : (cs.map V.ref).length = rows.length := by rw [List.length_map, hC.1]
  refine ⟨_, pss_cons (ps_set (i := 2) scFB.nd rfl (Or.inl rfl) (pe_ix (ixT (K := K)) (pv 1) pe_int (fun _ _ => rfl)))
    (pss_one (ps_ret (pe_and (pe_call G1 hr1 (by rfl) m1 k1 b1 .nil pass0 (pa_cons (pe_callB (callLen (K := K)) (by rfl) ml bt_len (pa_cons (pv 2) pa_nil)) (pa_cons (pe_fld (pv 0) rfl) (pa_cons (pe_fld (pv 0) rfl) pa_nil)))) (pe_one (pe_call G2 hr1 (by rfl) m2 k2 b2 .nil pass0 (pa_cons (pv 2) (pa_cons (pe_fld (pv 0) rfl) (pa_cons (pe_fld (pv 0) rfl) pa_nil)))))))), ?_⟩
  refine ⟨_, rfl, a, _, _, _, rfl, rfl, SqT.of ha, t3_2 _ _ _, ?_⟩
  refine ⟨_, rfl, pr, _, rfl, .inr (SqT.of hpr), _, rfl, p, C, dx, _, _, rfl, hp, T.cl, T.n1, fldS_one _ _, _, rfl, p, C, dx, _, _, rfl, hp, T.cl, T.n2, fldS_other _ _, _, _, _, rfl, by omega, by omega, by rw [lm]; omega, _, rfl, iteT ?_⟩
  exact ⟨_, rfl, _, rfl, p, C, dx, _, _, rfl, hp, T.cl, T.n1, fldS_one _ _, _, rfl, p, C, dx, _, _, rfl, hp, T.cl, T.n2, fldS_other _ _, pr, rows, j, k, rfl, hR, rk, by omega, by omega, q⟩
end
end My
namespace My
open PySem L2 Mth Wd Fl
theorem bt_sorted : bootBuiltins "sorted" = some (.builtin "sorted") := by decide +kernel
noncomputable def wdS (c : Int) : Str := if c = 0 then "above" else "beside"
noncomputable def S01 (c : Int) : Prop := c = 0 ∨ c = 1
theorem wd_ok : WdOk wdS S01 := by
  refine ⟨fun x y hx hy e => ?_, fun x y hx hy ne => ?_⟩
  · rcases hx with rfl | rfl <;> rcases hy with rfl | rfl
    · rfl
    · exact absurd e (by decide +kernel)
    · exact absurd e (by decide +kernel)
    · rfl
  · rcases hx with rfl | rfl <;> rcases hy with rfl | rfl
    · exact absurd rfl ne
    · decide +kernel
    · decide +kernel
    · exact absurd rfl ne
noncomputable abbrev Stp : Type := Nat × Nat × Nat
noncomputable def codeS (s : Stp) : List Int := [(s.1 : Int), (s.2.1 : Int), (s.2.2 : Int)]
noncomputable def pairAt (j k : Nat) : List Stp := [(0, j, k), (1, j, k)]
noncomputable def rowSt (j m : Nat) : List Stp := (List.range m).flatMap fun i => pairAt j (j + 1 + i)
noncomputable def stepsTo (n i : Nat) : List Stp := (List.range i).flatMap fun j => rowSt j (n - (j + 1))
noncomputable def stepsOf (n : Nat) : List Stp := stepsTo n n
theorem rowSt_succ (j m : Nat) : rowSt j (m + 1) = rowSt j m ++ pairAt j (j + 1 + m) := by
  unfold rowSt
  rw [List.range_succ, List.flatMap_append, List.flatMap_cons, List.flatMap_nil, List.append_nil]
theorem stepsTo_succ (n i : Nat) : stepsTo n (i + 1) = stepsTo n i ++ rowSt i (n - (i + 1)) := by
  unfold stepsTo
  rw [List.range_succ, List.flatMap_append, List.flatMap_cons, List.flatMap_nil, List.append_nil]
theorem mem_rowSt {j m : Nat} {s : Stp} : s ∈ rowSt j m ↔ (s.1 = 0 ∨ s.1 = 1) ∧ s.2.1 = j ∧ j < s.2.2 ∧ s.2.2 < j + 1 + m := by
  obtain ⟨c, a, b⟩ := s
  simp only [rowSt, List.mem_flatMap, List.mem_range, pairAt, List.mem_cons, List.not_mem_nil, or_false, Prod.mk.injEq]
  constructor
  · rintro ⟨i, hi, ⟨rfl, rfl, rfl⟩ | ⟨rfl, rfl, rfl⟩⟩
    · exact ⟨.inl rfl, rfl, by omega, by omega⟩
    · exact ⟨.inr rfl, rfl, by omega, by omega⟩
  · rintro ⟨h1, rfl, h2, h3⟩
    refine ⟨b - (a + 1), by omega, ?_⟩
    rcases h1 with rfl | rfl
    · exact .inl ⟨rfl, rfl, by omega⟩
    · exact .inr ⟨rfl, rfl, by omega⟩
theorem mem_steps {n : Nat} {s : Stp} : s ∈ stepsOf n ↔ (s.1 = 0 ∨ s.1 = 1) ∧ s.2.1 < s.2.2 ∧ s.2.2 < n := by
  unfold stepsOf stepsTo
  simp only [List.mem_flatMap, List.mem_range, mem_rowSt]
  constructor
  · rintro ⟨j, hj, h1, rfl, h2, h3⟩
    exact ⟨h1, h2, by omega⟩
  · rintro ⟨h1, h2, h3⟩
    exact ⟨s.2.1, by omega, h1, rfl, h2, by omega⟩
theorem len_rowSt (j m : Nat) : (rowSt j m).length = 2 * m := by
  induction m with
  | zero => rfl
  | succ m ih => rw [rowSt_succ, List.length_append, ih]; show 2 * m + 2 = _; omega
theorem len_stepsTo {n : Nat} (h : n ≤ 30) : ∀ i, i ≤ n → (stepsTo n i).length + i ≤ 30 * n := by
  have key : ∀ i, i ≤ n → (stepsTo n i).length + i * i + i = 2 * n * i := by
    intro i
    induction i with
    | zero => intro _; rfl
    | succ i ih =>
      intro hi
      have := ih (by omega)
      rw [stepsTo_succ, List.length_append, len_rowSt]
      have e1 : (i + 1) * (i + 1) = i * i + 2 * i + 1 := by rw [Nat.mul_add, Nat.add_mul]; omega
      have e2 : 2 * n * (i + 1) = 2 * n * i + 2 * n := by rw [Nat.mul_add, Nat.mul_one]
      rw [e1, e2]
      omega
  intro i hi
  have k := key i hi
  have a : i * i ≤ n * i := Nat.mul_le_mul_right _ hi
  have b : 2 * n * i ≤ n * i + n * i := by rw [Nat.mul_assoc]; omega
  have c : n * i ≤ n * n := Nat.mul_le_mul_left _ hi
  have d : n * n ≤ 30 * n := Nat.mul_le_mul_right _ h
  -- (n - i)^2 is no less than nought
  have e : 2 * n * i ≤ n * n + i * i := by
    have : 2 * n * i = n * i + n * i := by rw [Nat.mul_assoc]; omega
    rw [this]
    obtain ⟨t, rfl⟩ := Nat.le.dest hi
    have f1 : (i + t) * i = i * i + t * i := Nat.add_mul ..
    have f2 : (i + t) * (i + t) = i * i + t * i + (i * t + t * t) := by rw [Nat.mul_add, Nat.add_mul, Nat.add_mul]
    rw [f1, f2]
    have : i * t = t * i := Nat.mul_comm ..
    omega
  omega
theorem nd_pair (j k : Nat) : (pairAt j k).Nodup := by
  unfold pairAt
  simp
theorem nd_rowSt (j m : Nat) : (rowSt j m).Nodup := by
  induction m with
  | zero => exact .nil
  | succ m ih =>
    rw [rowSt_succ, List.nodup_append]
    refine ⟨ih, nd_pair _ _, fun a ha b hb e => ?_⟩
    subst e
    have h1 := (mem_rowSt.mp ha).2.2.2
    simp only [pairAt, List.mem_cons, List.not_mem_nil, or_false] at hb
    rcases hb with rfl | rfl <;> dsimp only at h1 <;> omega
theorem nd_steps (n i : Nat) : (stepsTo n i).Nodup := by
  induction i with
  | zero => exact .nil
  | succ i ih =>
    rw [stepsTo_succ, List.nodup_append]
    refine ⟨ih, nd_rowSt _ _, fun a ha b hb e => ?_⟩
    subst e
    have h1 := (mem_rowSt.mp hb).2.1
    unfold stepsTo at ha
    simp only [List.mem_flatMap, List.mem_range, mem_rowSt] at ha
    obtain ⟨j, hj, _, h2, _⟩ := ha
    omega
theorem code_inj {s t : Stp} (h : codeS s = codeS t) : s = t := by
  obtain ⟨a, b, c⟩ := s
  obtain ⟨d, e, f⟩ := t
  simp only [codeS, List.cons.injEq, and_true] at h
  simp only [Prod.mk.injEq]
  omega
theorem nd_codes {l : List Stp} (h : l.Nodup) : (l.map codeS).Nodup := by
  rw [List.Nodup, List.pairwise_map]
  exact List.Pairwise.imp (fun {a b} n z => n (code_inj z)) h
noncomputable def fitB (rows : List (List Rat)) (s : Stp) : Bool := if s.1 = 0 then abvR rows s.2.1 s.2.2 else bsdR rows s.2.1 s.2.2
noncomputable def StepR (C1 C2 : Addr) (H : Hp) (p : Addr) (s : Stp) : Prop := ∃ dx, H p = some (.ins (if s.1 = 0 then C1 else C2) dx (fldS (s.2.1 : Int) (s.2.2 : Int)))
theorem mo_step {C1 C2 : Addr} : Mo (StepR C1 C2) := fun s ⟨dx, h⟩ => ⟨dx, s _ _ h⟩
theorem step_upd {C1 C2 : Addr} {H H' : Hp} {l : Addr} {ys : List V} {cs : List Addr} {ss : List Stp} (hl : H l = some (.lst ys)) (sb : SameB l H H') (h : At (StepR C1 C2) H cs ss) : At (StepR C1 C2) H' cs ss :=
  ⟨h.1, fun i b x e1 e2 => by
    obtain ⟨dx, g⟩ := h.2 i b x e1 e2
    exact ⟨dx, sb _ _ (fun z => by rw [z, hl] at g; cases g) g⟩⟩
end My
namespace My
open PySem L2 Mth Wd Fl
section
variable {K : PySem.W.Frag}
theorem comp_runF {J : It} {n : Nat} {H1 : Hp} {f : Nat → Hp → V → Hp → Prop} {acc : Addr} {σ0 : St} {g : TG} {tt : TT} {te : TE} {G : Hp → Prop} (r : Run J H1 n f) (hn : n ≤ 1000) (hacc : H1 acc = none) (Iv : Nat → List V → St → Hp → Prop) (h0 : Iv 0 [] σ0 H1)
    (hs : ∀ (i : Nat) (ys : List V) (σ : St) (H2 : Hp) (x : V) (H3 : Hp), i < n → Same H1 H2 → H2 acc = some (.lst ys) → Iv i ys σ (del H2 acc) → f i H2 x H3 → ∀ (C : St → VK) (N : St → Hp → Prop), (∀ (σ4 : St) (v : V) (H5 : Hp), Same H2 H5 → Iv (i + 1) (ys ++ [v]) σ4 (del H5 acc) → C σ4 v H5) → (∀ (σ4 : St) (H5 : Hp), Same H2 H5 → Iv (i + 1) ys σ4 (del H5 acc) → N σ4 H5) →
      g x σ H3 fun σ4 H4 => tt σ4 H4 fun ok H5 => if ok = true then te σ4 H5 (C σ4) else N σ4 H5)
    (fin : ∀ (ys : List V) (σ : St) (H2 : Hp), Same H1 H2 → H2 acc = some (.lst ys) → Iv n ys σ (del H2 acc) → G H2) :
    ∃ W : Nat → Nat → List V → St → Hp → Prop, (∃ m, W 0 m [] σ0 (upd H1 acc (.lst []))) ∧ ∀ i m ys σc H2, W i m ys σc H2 →
      (J.stop i H2 ∧ G H2) ∨ (J.go i H2 ∧ ∀ x H3, J.yld i H2 x H3 → g x σc H3 fun σ4 H4 => tt σ4 H4 fun ok H5 => if ok = true then (te σ4 H5 fun v H6 => H6 acc = some (.lst ys) ∧ ys.length < sizeLine ∧ ∃ m', m' < m ∧ W (i + 1) m' (ys ++ [v]) σ4 (upd H6 acc (.lst (ys ++ [v])))) else ∃ m', m' < m ∧ W (i + 1) m' ys σ4 H5) := by
  refine ⟨fun i m ys σ H2 => m = n - i ∧ i ≤ n ∧ Same H1 H2 ∧ H2 acc = some (.lst ys) ∧ ys.length ≤ i ∧ Iv i ys σ (del H2 acc), ⟨n, rfl, Nat.zero_le _, ?_, upd_same, Nat.le_refl _, ?_⟩, ?_⟩
  · intro b o e; rw [upd_ne (ne_of_none e hacc)]; exact e
  · rw [del_upd, del_new hacc]; exact h0
  · rintro i m ys σc H2 ⟨rfl, hi, sm, ha, hl, iv⟩
    rcases Nat.lt_or_ge i n with hlt | hge
    · refine .inr ⟨r.go i H2 hlt sm, fun x H3 yl => ?_⟩
      refine hs i ys σc H2 x H3 hlt sm ha iv (r.yl i H2 x H3 hlt sm yl) (fun σ4 v H5 => H5 acc = some (.lst ys) ∧ ys.length < sizeLine ∧ ∃ m', m' < n - i ∧ (m' = n - (i + 1) ∧ i + 1 ≤ n ∧ Same H1 (upd H5 acc (.lst (ys ++ [v]))) ∧ (upd H5 acc (.lst (ys ++ [v]))) acc = some (.lst (ys ++ [v])) ∧ (ys ++ [v]).length ≤ i + 1 ∧ Iv (i + 1) (ys ++ [v]) σ4 (del (upd H5 acc (.lst (ys ++ [v]))) acc)))
        (fun σ4 H5 => ∃ m', m' < n - i ∧ (m' = n - (i + 1) ∧ i + 1 ≤ n ∧ Same H1 H5 ∧ H5 acc = some (.lst ys) ∧ ys.length ≤ i + 1 ∧ Iv (i + 1) ys σ4 (del H5 acc))) ?_ ?_
      · intro σ4 v H5 s5 iv5
        refine ⟨s5 _ _ ha, by rw [sizeLine_eq]; omega, n - (i + 1), by omega, rfl, hlt, ?_, upd_same, by rw [List.length_append, List.length_singleton]; omega, ?_⟩
        · intro b o e; rw [upd_ne (ne_of_none e hacc)]; exact s5 _ _ (sm _ _ e)
        · rw [del_upd]; exact iv5
      · intro σ4 H5 s5 iv5
        exact ⟨n - (i + 1), by omega, rfl, hlt, sm.trans s5, s5 _ _ ha, by omega, iv5⟩
    · obtain rfl : i = n := by omega
      exact .inl ⟨r.st H2 sm, fin ys σc H2 sm ha iv⟩
end
section
variable {P : Program} {w : World} {K : PySem.W.Frag} {mg : Str → Option Value} {base : Heap} {f g h f1 f2 f3 f4 f5 C1 C2 : Addr} {fd gd hd d1 d2 d3 d4 d5 : FuncData}
theorem filter_snocS {α : Type} (p : α → Bool) {l : List α} {i : Nat} {x : α} (h : l[i]? = some x) : (l.take (i + 1)).filter p = (l.take i).filter p ++ (if p x = true then [x] else []) := by
  rw [take_succ_of h, List.filter_append]
  by_cases z : p x = true
  · rw [if_pos z, List.filter_cons_of_pos z, List.filter_nil]
  · rw [if_neg z, List.filter_cons_of_neg z, List.filter_nil]
inductive SpFitR (vs : List V) (H : Hp) (Q : VK) : Prop
  | mk (a : Addr) (W U : Rat) (rows : List (List Rat)) (h_0 : vs = [.ref a]) (h_1 : FloorR H a W U rows) (h_2 : RowsK rows) (h_3 : ((stepsOf rows.length).filter (fitB rows)).length < 64) (h_4 : ∀ t cs rs H', Same H H' → H' t = some (.tup (cs.map V.ref)) → At (TupS wdS S01) H' cs rs → rs.Perm (((stepsOf rows.length).filter (fitB rows)).map codeS) → rs.Pairwise (fun a b => lexI a b = true) → Q (.ref t) H') : SpFitR vs H Q
noncomputable def spFit : Sp := fun vs H Q _ => SpFitR vs H Q
theorem scFi : FnScope ["floor", "count", "steps", "j", "k"] ["floor"] (defScope s_fitting) := ⟨rfl, rfl, rfl, by decide +kernel, rfl, by decide +kernel, by decide +kernel⟩
theorem ndSF : (["step", "floor"] : List Str).Nodup := by decide +kernel
set_option maxHeartbeats 4000000 in
theorem ok_fitting (F : Fun K "fitting" "fitting" s_fitting f fd) (T1 : StC K C1) (T2 : StC K C2) (M1 : Mk K C1 f1) (M2 : Mk K C2 f1) (mC1 : mg "Above" = some (.ref C1)) (mC2 : mg "Beside" = some (.ref C2))
    (G1 : FnOk P w K mg base CX0 1 f1 d1 ["self", "one", "other"] (spInit K)) (b1 : Binds K d1 ["self", "one", "other"] [])
    (G2 : FnOk P w K mg base CX0 1 f2 d2 ["self"] (spTold C1 "above")) (b2 : Binds K d2 ["self"] []) (e2 : Meth K C1 "told" f2)
    (G3 : FnOk P w K mg base CX0 1 f3 d3 ["self"] (spTold C2 "beside")) (b3 : Binds K d3 ["self"] []) (e3 : Meth K C2 "told" f3)
    (G4 : FnOk P w K mg base CX0 4 f4 d4 ["self", "floor"] (spFits C1 abvR)) (b4 : Binds K d4 ["self", "floor"] []) (e4 : Meth K C1 "fits" f4)
    (G5 : FnOk P w K mg base CX0 4 f5 d5 ["self", "floor"] (spFits C2 bsdR)) (b5 : Binds K d5 ["self", "floor"] []) (e5 : Meth K C2 "fits" f5)
    (ml : mg "len" = none) (mr : mg "range" = none) (mt : mg "tuple" = none) (mso : mg "sorted" = none) : FnOk P w K mg base CX0 5 f fd ["floor"] spFit := by
  refine F.ok scFi (fun vs H Q E h => ?_) (fun cdv A outer s H vs Q E hr h => ?_)
  · obtain ⟨a, W, U, rows, rfl, _⟩ := h
    rfl
  obtain ⟨a, W, U, rows, rfl, hF, rk, l64, q⟩ := h
  have r1 := hr.mono (show 1 ≤ 4 by decide)
  have r2 := hr.mono (show 1 + 1 ≤ 4 by decide)
  obtain ⟨pw, pu, pr, ha, hw, hu, hR⟩ := id hF
  obtain ⟨rs, hpr, hC⟩ := id hR
  obtain ⟨n, hn⟩ : ∃ n, rows.length = n := ⟨_, rfl⟩
  have lm : (rs.map V.ref).length = n := by rw [List.length_map, hC.1, hn]
  have n30 : n ≤ 30 := hn ▸ rk.n
  refine ⟨_, pss_cons (ps_set (i := 1) scFi.nd rfl (Or.inl rfl) (pe_callB (callLen (K := K)) (by rfl) ml bt_len (pa_cons (pe_ix (ixT (K := K)) (pv 0) pe_int (fun _ _ => rfl)) pa_nil)))
    (pss_cons (ps_set (i := 2) scFi.nd rfl (Or.inl rfl) (pe_lst pa_nil))
    (pss_cons (ps_for PassesOwn.never rfl (pi_range1 (by rfl) mr (pa_cons (pv 1) pa_nil)) (pg_name (i := 3) scFi.nd rfl (Or.inl rfl))
      (pss_one (ps_for PassesOwn.never rfl (pi_range2 (by rfl) mr (pa_cons (pe_op op_add (pv 3) pe_int) (pa_cons (pv 1) pa_nil))) (pg_name (i := 4) scFi.nd rfl (Or.inl rfl))
        (pss_cons (ps_expr (pe_bmK K PySem.F.plainAttrs_list PySem.F.slot_list_append PySem.F.type_list_append mt_append (pv 2) (pa_cons (pe_make M1 G1 r2 rfl mC1 b1 .nil pass0 (pa_cons (pv 3) (pa_cons (pv 4) pa_nil))) pa_nil)))
        (pss_one (ps_expr (pe_bmK K PySem.F.plainAttrs_list PySem.F.slot_list_append PySem.F.type_list_append mt_append (pv 2) (pa_cons (pe_make M2 G1 r2 rfl mC2 b1 .nil pass0 (pa_cons (pv 3) (pa_cons (pv 4) pa_nil))) pa_nil))))))))
    (pss_one (ps_ret (pe_callTy (callTup (K := K)) (by rfl) mt bt_tuple (pa_cons (pe_callB (call_sortS' wd_ok) (by rfl) mso bt_sorted (pa_cons
      (pe_compF (Nc := ["step", "floor"]) (cap := [(1, 0)]) (g := gName 0) (tt := tB (tMeth2 C1 C2 "fits" (spFits C1 abvR) (spFits C2 bsdR) E0 (tVar 0) (tCons (tVar 1) tNil))) (te := tMeth2 C1 C2 "told" (spTold C1 "above") (spTold C2 "beside") E0 (tVar 0) tNil) rfl (piLst (K := K) (pv 2))
        (comp_mk rfl rfl (by decide +kernel) (by decide +kernel) (List.forall_mem_cons.mpr ⟨⟨rfl, rfl⟩, List.forall_mem_nil _⟩) rfl (List.forall_mem_cons.mpr ⟨⟨_, _, rfl, rfl, rfl, rfl, rfl⟩, List.forall_mem_nil _⟩))
        (fun C fp pins s' H' => pg_name (i := 0) ndSF rfl (Or.inl rfl))
        (fun C fp pins s' H' => pt_val (pe_meth2 (pv 0) T1.cl T2.cl e4 e5 G4 G5 hr hr b4 b5 pass0 pass0 (pa_cons (pv 1) pa_nil)))
        (fun C fp pins s' H' => pe_meth20 (pv 0) T1.cl T2.cl e2 e3 G2 G3 r1 r1 b2 b3 pass0 pass0)) pa_nil)) pa_nil)))))), ?_⟩
  refine ⟨_, rfl, a, _, _, _, rfl, rfl, SqT.of ha, t3_2 _ _ _, pr, _, rfl, .inr (SqT.of hpr), ?_⟩
  rw [lm]
  refine ⟨by show 0 ≤ sizeLine; decide, fun l hl => ?_⟩
  have s1 := same_new hl (.lst [])
  have gl : upd H l (.lst []) l = some (.lst []) := upd_same
  generalize upd H l (.lst []) = H1 at s1 gl
  refine ⟨_, rfl, (n : Int), rfl, by omega, by omega, ?_⟩
  rw [show ((n : Nat) : Int).toNat = n by omega]
  refine for_range (lo := 0) (n := n) (fun i σ H2 => Same H H2 ∧ ∃ (cs : List Addr) (u3 u4 : Option V), σ = [some (.ref a), some (.int (n : Int)), some (.ref l), u3, u4] ∧ H2 l = some (.lst (cs.map V.ref)) ∧ At (StepR C1 C2) H2 cs (stepsTo n i)) ⟨s1, [], none, none, rfl, gl, At.nil⟩ ?_ ?_
  · rintro j σ H2 hj ⟨s2, cs, u3, u4, rfl, hl2, hS⟩
    refine ⟨_, rfl, _, _, rfl, rfl, _, rfl, _, _, rfl, ⟨by omega, by omega, by omega, by omega⟩, ?_⟩
    have len0 := hS.1
    have ln0 := len_stepsTo n30 j (by omega)
    rw [show ((n : Int) - ((0 : Int) + (j : Int) + 1)).toNat = n - (j + 1) by omega]
    refine for_range (lo := (0 + (j : Int)) + 1) (n := n - (j + 1)) (fun i σ H3 => Same H H3 ∧ ∃ (cs : List Addr) (u4 : Option V), σ = [some (.ref a), some (.int (n : Int)), some (.ref l), some (.int (0 + (j : Int))), u4] ∧ H3 l = some (.lst (cs.map V.ref)) ∧ At (StepR C1 C2) H3 cs (stepsTo n j ++ rowSt j i)) ⟨s2, cs, u4, rfl, hl2, by rw [show rowSt j 0 = [] from rfl, List.append_nil]; exact hS⟩ ?_ ?_
    · rintro i σ H3 hi ⟨s3, cs, u4, rfl, hl3, hS3⟩
      have len3 := hS3.1
      rw [List.length_append, len_rowSt] at len3
      refine ⟨_, rfl, .inl ⟨rfl, _, SqL.of hl3⟩, _, rfl, _, rfl, fun x dx nx ndx nex => ?_⟩
      refine ⟨x, C1, dx, _, _, rfl, T1, upd_same, fun H4 hx sb => ⟨rfl, ?_⟩⟩
      have s34 : Same H3 H4 := fun b o e => sb b o (ne_of_none e nx) (by rw [upd_ne (ne_of_none e nx), upd_ne (ne_of_none e ndx)]; exact e)
      refine ⟨l, _, _, rfl, rfl, s34 _ _ hl3, by rw [List.length_map, sizeLine_eq]; omega, ?_⟩
      have sb5 : SameB l H4 (upd H4 l (.lst (cs.map V.ref ++ [.ref x]))) := SameB.one
      have hl5 : upd H4 l (.lst (cs.map V.ref ++ [.ref x])) l = some (.lst (cs.map V.ref ++ [.ref x])) := upd_same
      generalize upd H4 l (.lst (cs.map V.ref ++ [.ref x])) = H5 at sb5 hl5
      have s05 : Same H H5 := sb5.same (s3.trans s34) hl
      have ex : (0 : Int) + (j : Int) = (j : Int) := by omega
      have ey : (0 : Int) + (j : Int) + 1 + (i : Int) = ((j + 1 + i : Nat) : Int) := by omega
      have hS5 : At (StepR C1 C2) H5 (cs ++ [x]) (stepsTo n j ++ rowSt j i ++ [(0, j, j + 1 + i)]) := by
        have hS4 := hS3.keep mo_step s34
        refine (step_upd (s34 _ _ hl3) sb5 hS4).snoc ⟨dx, ?_⟩
        refine sb5 _ _ (fun z => by rw [z, s34 _ _ hl3] at hx; cases hx) ?_
        rw [hx, ey, ex]
        rfl
      have cl5 : (cs.map V.ref ++ [V.ref x]) = (cs ++ [x]).map V.ref := by rw [List.map_append]; rfl
      rw [cl5] at hl5
      have lc5 : ((cs ++ [x]).map V.ref).length < 1000 := by rw [List.length_map, List.length_append, len3, List.length_singleton]; omega
      generalize cs ++ [x] = cs5 at hl5 hS5 lc5
      refine ⟨_, rfl, .inl ⟨rfl, _, SqL.of hl5⟩, _, rfl, _, rfl, fun y dy ny ndy ney => ?_⟩
      refine ⟨y, C2, dy, _, _, rfl, T2, upd_same, fun H6 hy sb6 => ⟨rfl, ?_⟩⟩
      have s56 : Same H5 H6 := fun b o e => sb6 b o (ne_of_none e ny) (by rw [upd_ne (ne_of_none e ny), upd_ne (ne_of_none e ndy)]; exact e)
      refine ⟨l, _, _, rfl, rfl, s56 _ _ hl5, by rw [sizeLine_eq]; omega, ?_⟩
      have sb7 : SameB l H6 (upd H6 l (.lst (cs5.map V.ref ++ [.ref y]))) := SameB.one
      refine ⟨sb7.same (s05.trans s56) hl, cs5 ++ [y], _, rfl, by rw [upd_same, List.map_append]; rfl, ?_⟩
      rw [rowSt_succ]
      have e2 : stepsTo n j ++ (rowSt j i ++ pairAt j (j + 1 + i)) = stepsTo n j ++ rowSt j i ++ [(0, j, j + 1 + i)] ++ [(1, j, j + 1 + i)] := by simp [pairAt]
      rw [e2]
      refine (step_upd (s56 _ _ hl5) sb7 (hS5.keep mo_step s56)).snoc ⟨dy, ?_⟩
      refine sb7 _ _ (fun z => by rw [z, s56 _ _ hl5] at hy; cases hy) ?_
      rw [hy, ey, ex]
      rfl
    · rintro σ H3 ⟨s3, cs, u4, rfl, hl3, hS3⟩
      exact ⟨s3, cs, _, _, rfl, hl3, by rw [stepsTo_succ]; exact hS3⟩
  · rintro σ H2 ⟨s2, cs, u3, u4, rfl, hl2, hS⟩
    replace hS : At (StepR C1 C2) H2 cs (stepsOf n) := hS
    have ll : cs.length = (stepsOf n).length := hS.1
    have ln := len_stepsTo n30 n (Nat.le_refl _)
    have ln2 : (stepsOf n).length ≤ 900 := by
      have : 30 * n ≤ 900 := by omega
      unfold stepsOf; omega
    rw [hn] at l64 q
    have hF2 := mo_floor s2 hF
    refine ⟨_, rfl, l, rfl, ⟨_, SqL.of hl2⟩, fun acc hacc => ?_⟩
    refine comp_runF (run_list hl2) (by rw [List.length_map]; omega) hacc (fun i ys σ hp => ∃ gs : List Addr, ys = gs.map V.ref ∧ At (TupS wdS S01) hp gs ((((stepsOf n).take i).filter (fitB rows)).map codeS) ∧ ∃ u, σ = [u, some (.ref a)]) ⟨[], rfl, At.nil, none, rfl⟩ ?_ ?_
    · rintro i ys σ H3 x H4 hi sm hacc3 ⟨gs, rfl, hG, u, rfl⟩ ⟨rfl, hx⟩ Cc Nn hCc hNn
      obtain ⟨b, st, rfl, _, hy, dx, hb⟩ := hS.ref hx
      obtain ⟨c, j, k⟩ := st
      have mem := mem_steps.mp (List.mem_of_getElem? hy)
      dsimp only at mem hb
      have hb3 := sm _ _ hb
      have hF3 := mo_floor sm hF2
      have fs := filter_snocS (fitB rows) hy
      have go : ∀ (H5 : Hp), Same H4 H5 → (if fitB rows (c, j, k) = true then tMeth2 C1 C2 "told" (spTold C1 "above") (spTold C2 "beside") E0 (tVar 0) tNil [some (.ref b), some (.ref a)] H5 (Cc [some (.ref b), some (.ref a)]) else Nn [some (.ref b), some (.ref a)] H5) := fun H5 s5 => by
        by_cases hf : fitB rows (c, j, k) = true
        · rw [if_pos hf]
          have fin : ∀ (ci : Nat) (wdc : Str), c = ci → wdS (ci : Int) = wdc → S01 (ci : Int) → ∀ t, H5 t = none → Cc [some (.ref b), some (.ref a)] (.ref t) (upd H5 t (.tup [.str wdc, .int (j : Int), .int (k : Int)])) := fun ci wdc e1 e2 e3 t ht => by
            have s6 := same_new ht (.tup [.str wdc, .int (j : Int), .int (k : Int)])
            refine hCc _ _ _ (s5.trans s6) ⟨gs ++ [t], by simp, ?_, _, rfl⟩
            rw [fs, if_pos hf, List.map_append]
            refine (hG.keep mo_tupS (del_mono acc (s5.trans s6))).snoc ?_
            subst e1
            refine ⟨(c : Int), [(j : Int), (k : Int)], rfl, e3, ?_⟩
            rw [e2]
            exact del_at upd_same (fun z => by rw [z, (s5 _ _ hacc3)] at ht; cases ht)
          rcases mem.1 with rfl | rfl
          · exact ⟨_, rfl, b, dx, _, rfl, fldS_no _ _ (by decide +kernel) (by decide +kernel), .inl ⟨s5 _ _ hb3, b, dx, _, _, rfl, s5 _ _ hb3, fin 0 _ rfl rfl (.inl rfl)⟩⟩
          · exact ⟨_, rfl, b, dx, _, rfl, fldS_no _ _ (by decide +kernel) (by decide +kernel), .inr ⟨s5 _ _ hb3, b, dx, _, _, rfl, s5 _ _ hb3, fin 1 _ rfl rfl (.inr rfl)⟩⟩
        · rw [if_neg hf]
          refine hNn _ _ s5 ⟨gs, rfl, ?_, _, rfl⟩
          rw [fs, if_neg hf, List.append_nil]
          exact hG.keep mo_tupS (del_mono acc s5)
      rcases mem.1 with rfl | rfl
      · refine ⟨_, rfl, b, dx, _, rfl, fldS_no _ _ (by decide +kernel) (by decide +kernel), .inl ⟨hb3, _, rfl, b, a, dx, j, k, W, U, rows, rfl, hb3, hF3, rk, mem.2.1, by omega, fun H5 s5 => ⟨_, rfl, ?_⟩⟩⟩
        exact go H5 s5
      · refine ⟨_, rfl, b, dx, _, rfl, fldS_no _ _ (by decide +kernel) (by decide +kernel), .inr ⟨hb3, _, rfl, b, a, dx, j, k, W, U, rows, rfl, hb3, hF3, rk, mem.2.1, by omega, fun H5 s5 => ⟨_, rfl, ?_⟩⟩⟩
        exact go H5 s5
    rintro ys σ H3 s3 ha3 ⟨gs, rfl, hG, u, rfl⟩
    rw [List.length_map, ll, List.take_length] at hG
    have hG3 := hG.keep mo_tupS (del_sub H3 acc)
    refine ⟨acc, gs, _, rfl, ha3, hG3, nd_codes ((nd_steps n n).sublist List.filter_sublist), by rw [List.length_map]; exact l64, fun l2 ds rs2 hl5 hD pm pw => ?_⟩
    have s5 := same_new hl5 (.lst (ds.map V.ref))
    have g5 : upd H3 l2 (.lst (ds.map V.ref)) l2 = some (.lst (ds.map V.ref)) := upd_same
    generalize upd H3 l2 (.lst (ds.map V.ref)) = H5 at s5 g5
    refine ⟨l2, _, rfl, .inl ⟨SqL.of g5, fun t ht => ?_⟩⟩
    have s6 := same_new ht (.tup (ds.map V.ref))
    exact q t ds rs2 _ (s2.trans (s3.trans (s5.trans s6))) upd_same (hD.keep mo_tupS (s5.trans s6)) pm pw
end
end My
namespace My
open PySem L2 Mth Wd Fl
noncomputable def mnR (x y : Rat) : Rat := if y < x then y else x
noncomputable def mxR (x y : Rat) : Rat := if y < x then x else y
noncomputable def togR (r s : List Rat) : List Rat := [mnR (r.getD 0 0) (s.getD 0 0), mnR (r.getD 1 0) (s.getD 1 0), mxR (r.getD 2 0) (s.getD 2 0), mxR (r.getD 3 0) (s.getD 3 0)]
noncomputable abbrev dnR (rows : List (List Rat)) (j k : Nat) : List (List Rat) := dnL togR [] rows j k
section
variable {P : Program} {w : World} {K : PySem.W.Frag} {mg : Str → Option Value} {base : Heap} {f g h f1 f2 f3 f4 f5 C C1 C2 : Addr} {fd gd hd d1 d2 d3 d4 d5 : FuncData}
noncomputable def spRis : Sp := fun vs H Q _ => ∃ (p q : Addr) (x y : Rat), vs = [.ref p, .ref q] ∧ FrR H p x ∧ FrR H q y ∧ Sf x ∧ Sf y ∧ ∀ t a b, H t = none → FrR H a (mnR x y) → FrR H b (mxR x y) → Q (.ref t) (upd H t (.tup [.ref a, .ref b]))
theorem scRs : FnScope ["one", "other"] ["one", "other"] (defScope s_rising) := ⟨rfl, rfl, rfl, by decide +kernel, rfl, by decide +kernel, by decide +kernel⟩
theorem ok_rising (F : Fun K "rising" "rising" s_rising f fd) (G : FnOk P w K mg base CX0 1 g gd ["one", "other"] spLess) (bG : Binds K gd ["one", "other"] []) (kG : PySem.W.keepIn K (.ref g) = true) (mG : mg "less" = some (.ref g)) : FnOk P w K mg base CX0 2 f fd ["one", "other"] spRis := by
  refine F.ok scRs (fun vs H Q E h => ?_) (fun cdv A outer s H vs Q E hr h => ?_)
  · obtain ⟨p, q, x, y, rfl, _⟩ := h
    rfl
  obtain ⟨p, q, x, y, rfl, hp, hq, sx, sy, k⟩ := h
  refine ⟨_, pss_one (ps_ret (pe_ifExp (pt_val (pe_call G hr (by rfl) mG kG bG .nil pass0 (pa_cons (pv 1) (pa_cons (pv 0) pa_nil)))) (pe_tup (pa_cons (pv 1) (pa_cons (pv 0) pa_nil))) (pe_tup (pa_cons (pv 0) (pa_cons (pv 1) pa_nil))))), ?_⟩
  refine ⟨_, rfl, _, rfl, q, p, y, x, rfl, hq, hp, sy, sx, _, rfl, ?_⟩
  unfold mnR mxR at k
  by_cases z : y < x
  · rw [if_pos z, if_pos z] at k
    exact iteDT z ⟨_, rfl, _, rfl, by show 2 ≤ sizeLine; decide, fun t ht => k t q p ht hq hp⟩
  · rw [if_neg z, if_neg z] at k
    exact iteDF z ⟨_, rfl, _, rfl, by show 2 ≤ sizeLine; decide, fun t ht => k t p q ht hp hq⟩
noncomputable def spTog : Sp := fun vs H Q _ => ∃ (p q : Addr) (r s : List Rat), vs = [.ref p, .ref q] ∧ TupR FrR H p r ∧ TupR FrR H q s ∧ r.length = 4 ∧ s.length = 4 ∧ (∀ y ∈ r, Sf y) ∧ (∀ y ∈ s, Sf y) ∧ ∀ t H', Same H H' → TupR FrR H' t (togR r s) → Q (.ref t) H'
theorem scTg : FnScope ["one", "other", "left", "low", "right", "high"] ["one", "other"] (defScope s_together) := ⟨rfl, rfl, rfl, by decide +kernel, rfl, by decide +kernel, by decide +kernel⟩
theorem new_tup {H : Hp} {p : Addr} (hp : H p = none) (vs : List V) : ∃ H', upd H p (.tup vs) = H' ∧ Same H H' ∧ H' p = some (.tup vs) := ⟨_, rfl, same_new hp _, upd_same⟩
theorem newL {H : Hp} {p : Addr} (hp : H p = none) (vs : List V) : ∃ H', upd H p (.lst vs) = H' ∧ Same H H' ∧ H' p = some (.lst vs) := ⟨_, rfl, same_new hp _, upd_same⟩
theorem ok_tog (F : Fun K "together" "together" s_together f fd) (G : FnOk P w K mg base CX0 2 g gd ["one", "other"] spRis) (bG : Binds K gd ["one", "other"] []) (kG : PySem.W.keepIn K (.ref g) = true) (mG : mg "rising" = some (.ref g)) : FnOk P w K mg base CX0 3 f fd ["one", "other"] spTog := by
  refine F.ok scTg (fun vs H Q E h => ?_) (fun cdv A outer s H vs Q E hr h => ?_)
  · obtain ⟨p, q, r, s, rfl, _⟩ := h
    rfl
  obtain ⟨p, q, r, s, rfl, hp, hq, n4, m4, sr, ss, k⟩ := h
  obtain ⟨c0, c1, c2, c3, x0, x1, x2, x3, rfl, hp, h0, h1, h2, h3⟩ := tup4 hp n4
  obtain ⟨e0, e1, e2, e3, y0, y1, y2, y3, rfl, hq, g0, g1, g2, g3⟩ := tup4 hq m4
  refine ⟨_, pss_cons (ps_set (i := 2) scTg.nd rfl (Or.inl rfl) (pe_ix (ixT (K := K)) (pe_call G hr (by rfl) mG kG bG .nil pass0 (pa_cons (pe_ix (ixT (K := K)) (pv 0) pe_int (fun _ _ => rfl)) (pa_cons (pe_ix (ixT (K := K)) (pv 1) pe_int (fun _ _ => rfl)) pa_nil))) pe_int (fun _ _ => rfl)))
    (pss_cons (ps_set (i := 3) scTg.nd rfl (Or.inl rfl) (pe_ix (ixT (K := K)) (pe_call G hr (by rfl) mG kG bG .nil pass0 (pa_cons (pe_ix (ixT (K := K)) (pv 0) pe_int (fun _ _ => rfl)) (pa_cons (pe_ix (ixT (K := K)) (pv 1) pe_int (fun _ _ => rfl)) pa_nil))) pe_int (fun _ _ => rfl)))
    (pss_cons (ps_set (i := 4) scTg.nd rfl (Or.inl rfl) (pe_ix (ixT (K := K)) (pe_call G hr (by rfl) mG kG bG .nil pass0 (pa_cons (pe_ix (ixT (K := K)) (pv 0) pe_int (fun _ _ => rfl)) (pa_cons (pe_ix (ixT (K := K)) (pv 1) pe_int (fun _ _ => rfl)) pa_nil))) pe_int (fun _ _ => rfl)))
    (pss_cons (ps_set (i := 5) scTg.nd rfl (Or.inl rfl) (pe_ix (ixT (K := K)) (pe_call G hr (by rfl) mG kG bG .nil pass0 (pa_cons (pe_ix (ixT (K := K)) (pv 0) pe_int (fun _ _ => rfl)) (pa_cons (pe_ix (ixT (K := K)) (pv 1) pe_int (fun _ _ => rfl)) pa_nil))) pe_int (fun _ _ => rfl)))
    (pss_one (ps_ret (pe_tup (pa_cons (pv 2) (pa_cons (pv 3) (pa_cons (pv 4) (pa_cons (pv 5) pa_nil))))))))))  , ?_⟩
  refine ⟨_, rfl, p, _, _, _, rfl, rfl, SqT.of hp, q4_0, _, rfl, q, _, _, _, rfl, rfl, SqT.of hq, q4_0, c0, e0, x0, y0, rfl, h0, g0, sr _ (by simp), ss _ (by simp), fun t1 a1 b1 ht1 ha1 _ => ?_⟩
  obtain ⟨H1, z1, s1, k1⟩ := new_tup ht1 [.ref a1, .ref b1]
  rw [z1]
  refine ⟨t1, _, _, _, rfl, rfl, SqT.of k1, at0, ?_⟩
  refine ⟨_, rfl, p, _, _, _, rfl, rfl, SqT.of (s1 _ _ hp), q4_1, _, rfl, q, _, _, _, rfl, rfl, SqT.of (s1 _ _ hq), q4_1, c1, e1, x1, y1, rfl, s1 _ _ h1, s1 _ _ g1, sr _ (by simp), ss _ (by simp), fun t2 a2 b2 ht2 ha2 _ => ?_⟩
  obtain ⟨H2, z2, s2, k2⟩ := new_tup ht2 [.ref a2, .ref b2]
  rw [z2]
  have s12 := s1.trans s2
  refine ⟨t2, _, _, _, rfl, rfl, SqT.of k2, at0, ?_⟩
  refine ⟨_, rfl, p, _, _, _, rfl, rfl, SqT.of (s12 _ _ hp), q4_2, _, rfl, q, _, _, _, rfl, rfl, SqT.of (s12 _ _ hq), q4_2, c2, e2, x2, y2, rfl, s12 _ _ h2, s12 _ _ g2, sr _ (by simp), ss _ (by simp), fun t3 a3 b3 ht3 _ hb3 => ?_⟩
  obtain ⟨H3, z3, s3, k3⟩ := new_tup ht3 [.ref a3, .ref b3]
  rw [z3]
  have s13 := s12.trans s3
  refine ⟨t3, _, _, _, rfl, rfl, SqT.of k3, at1, ?_⟩
  refine ⟨_, rfl, p, _, _, _, rfl, rfl, SqT.of (s13 _ _ hp), q4_3, _, rfl, q, _, _, _, rfl, rfl, SqT.of (s13 _ _ hq), q4_3, c3, e3, x3, y3, rfl, s13 _ _ h3, s13 _ _ g3, sr _ (by simp), ss _ (by simp), fun t4 a4 b4 ht4 _ hb4 => ?_⟩
  obtain ⟨H4, z4, s4, k4⟩ := new_tup ht4 [.ref a4, .ref b4]
  rw [z4]
  have s14 := s13.trans s4
  refine ⟨t4, _, _, _, rfl, rfl, SqT.of k4, at1, ?_⟩
  refine ⟨_, rfl, _, rfl, _, rfl, _, rfl, by show 4 ≤ sizeLine; decide, fun t ht => ?_⟩
  have s5 := same_new ht (.tup [.ref a1, .ref a2, .ref b3, .ref b4])
  refine k t _ (s14.trans s5) ⟨[a1, a2, b3, b4], upd_same, ?_⟩
  exact (((At.nil.snoc (R := FrR) (b := a1) (x := mnR x0 y0) ((s12.trans (s3.trans (s4.trans s5))) _ _ ha1 |> fun z => z)).snoc (b := a2) (x := mnR x1 y1) ((s2.trans (s3.trans (s4.trans s5))) _ _ ha2)).snoc (b := b3) (x := mxR x2 y2) ((s3.trans (s4.trans s5)) _ _ hb3)).snoc (b := b4) (x := mxR x3 y3) ((s4.trans s5) _ _ hb4)
noncomputable def spChkF (C : Addr) (t : List (List Rat) → Nat → Nat → Bool) : Sp := fun vs H Q _ => ∃ (p a dx : Addr) (j k : Nat) (W U : Rat) (rows : List (List Rat)), vs = [.ref p, .ref a] ∧ H p = some (.ins C dx (fldS (j : Int) (k : Int))) ∧ FloorR H a W U rows ∧ RowsK rows ∧ j < k ∧ k < rows.length ∧ t rows j k = true ∧ ∀ H', Same H H' → Q .non H'
theorem scCh : FnScope ["step", "floor"] ["step", "floor"] (defScope s_check_fits) := ⟨rfl, rfl, rfl, by decide +kernel, rfl, by decide +kernel, by decide +kernel⟩
theorem ok_chkF {t : List (List Rat) → Nat → Nat → Bool} (F : Fun K "check_fits" "check_fits" s_check_fits f fd) (T : StC K C) (G : FnOk P w K mg base CX0 4 g gd ["self", "floor"] (spFits C t)) (bG : Binds K gd ["self", "floor"] []) (eG : Meth K C "fits" g) : FnOk P w K mg base CX0 5 f fd ["step", "floor"] (spChkF C t) := by
  refine F.ok scCh (fun vs H Q E h => ?_) (fun cdv A outer s H vs Q E hr h => ?_)
  · obtain ⟨p, a, dx, j, k, W, U, rows, rfl, _⟩ := h
    rfl
  obtain ⟨p, a, dx, j, k, W, U, rows, rfl, hp, hF, rk, jk, kn, ft, q⟩ := h
  refine ⟨_, pss_one (ps_if (pt_not (pt_val (pe_meth (pv 0) T.cl eG G hr bG .nil pass0 (pa_cons (pv 1) pa_nil)))) (pss_one ps_never) pss_nil), ?_⟩
  refine ⟨_, rfl, p, dx, _, rfl, hp, fldS_no _ _ (by decide +kernel) (by decide +kernel), _, rfl, p, a, dx, j, k, W, U, rows, rfl, hp, hF, rk, jk, kn, fun H' s' => ⟨_, rfl, ?_⟩⟩
  rw [ft]
  exact iteF (q H' s')
noncomputable def spJn (C : Addr) (t : List (List Rat) → Nat → Nat → Bool) : Sp := fun vs H Q _ => ∃ (p a dx : Addr) (j k : Nat) (W U : Rat) (rows : List (List Rat)), vs = [.ref p, .ref a] ∧ H p = some (.ins C dx (fldS (j : Int) (k : Int))) ∧ FloorR H a W U rows ∧ RowsK rows ∧ j < k ∧ k < rows.length ∧ t rows j k = true ∧ ∀ b H', Same H H' → FloorR H' b W U (dnR rows j k) → Q (.ref b) H'
theorem scJn : FnScope ["step", "floor", "rectangles"] ["step", "floor"] (defScope s_joined) := ⟨rfl, rfl, rfl, by decide +kernel, rfl, by decide +kernel, by decide +kernel⟩
theorem eraseAt {α : Type} {R : Hp → Addr → α → Prop} {H : Hp} {cs : List Addr} {xs : List α} (h : At R H cs xs) (k : Nat) : At R H (cs.eraseIdx k) (xs.eraseIdx k) := by
  rw [List.eraseIdx_eq_take_drop_succ, List.eraseIdx_eq_take_drop_succ]
  exact (h.take k).app (h.drop (k+1))
theorem setAt {α : Type} {R : Hp → Addr → α → Prop} {H : Hp} {cs : List Addr} {xs : List α} {c : Addr} {x : α} (h : At R H cs xs) (j : Nat) (r : R H c x) : At R H (cs.set j c) (xs.set j x) := by
  by_cases hj : j < cs.length
  · rw [List.set_eq_take_append_cons_drop, List.set_eq_take_append_cons_drop, if_pos hj, if_pos (by rw [← h.1]; exact hj)]
    have := ((h.take j).snoc r).app (h.drop (j+1))
    rw [List.append_assoc, List.append_assoc] at this
    exact this
  · rw [List.set_eq_of_length_le (by omega), List.set_eq_of_length_le (by rw [← h.1]; omega)]
    exact h
theorem eraseMap {α β : Type} (g : α → β) (l : List α) (k : Nat) : (l.map g).eraseIdx k = (l.eraseIdx k).map g := by
  rw [List.eraseIdx_eq_take_drop_succ, List.eraseIdx_eq_take_drop_succ, List.map_append, List.map_take, List.map_drop]
theorem seqIx {n k : Nat} (h : k < n) : seqIndex? (k : Int) n = some k := by
  unfold seqIndex?
  simp only [show ¬ ((k : Int) < 0) by omega, if_false]
  simp; omega
theorem ok_joined {t : List (List Rat) → Nat → Nat → Bool} (F : Fun K "joined" "joined" s_joined f fd) (T : StC K C) (G1 : FnOk P w K mg base CX0 5 f1 d1 ["step", "floor"] (spChkF C t)) (b1 : Binds K d1 ["step", "floor"] []) (k1 : PySem.W.keepIn K (.ref f1) = true) (m1 : mg "check_fits" = some (.ref f1))
    (G2 : FnOk P w K mg base CX0 3 f2 d2 ["one", "other"] spTog) (b2 : Binds K d2 ["one", "other"] []) (k2 : PySem.W.keepIn K (.ref f2) = true) (m2 : mg "together" = some (.ref f2)) (ml : mg "list" = none) (mt : mg "tuple" = none) : FnOk P w K mg base CX0 6 f fd ["step", "floor"] (spJn C t) := by
  refine F.ok scJn (fun vs H Q E h => ?_) (fun cdv A outer s H vs Q E hr h => ?_)
  · obtain ⟨p, a, dx, j, k, W, U, rows, rfl, _⟩ := h
    rfl
  obtain ⟨p, a, dx, j, k, W, U, rows, rfl, hp, hF, rk, jk, kn, ft, q⟩ := h
  have hr3 := hr.mono (show 3 ≤ 5 by decide)
  refine ⟨_, pss_cons (ps_expr (pe_call G1 hr (by rfl) m1 k1 b1 .nil pass0 (pa_cons (pv 0) (pa_cons (pv 1) pa_nil))))
    (pss_cons (ps_set (i := 2) scJn.nd rfl (Or.inl rfl) (pe_callTy call_list_of (by rfl) ml bt_list (pa_cons (pe_ix (ixT (K := K)) (pv 1) pe_int (fun _ _ => rfl)) pa_nil)))
    (pss_cons (ps_asg (pe_call G2 hr3 (by rfl) m2 k2 b2 .nil pass0 (pa_cons (pe_ix (ixL (K := K)) (pv 2) (pe_fld (pv 0) rfl) (fun _ _ => rfl)) (pa_cons (pe_ix (ixL (K := K)) (pv 2) (pe_fld (pv 0) rfl) (fun _ _ => rfl)) pa_nil))) (pg_sub (pv 2) (pe_fld (pv 0) rfl) set_list))
    (pss_cons (ps_expr (pe_bmK K PySem.F.plainAttrs_list PySem.F.slot_list_pop PySem.F.type_list_pop mt_popAt (pv 2) (pa_cons (pe_fld (pv 0) rfl) pa_nil)))
    (pss_one (ps_ret (pe_tup (pa_cons (pe_ix (ixT (K := K)) (pv 1) pe_int (fun _ _ => rfl)) (pa_cons (pe_ix (ixT (K := K)) (pv 1) pe_int (fun _ _ => rfl)) (pa_cons (pe_callTy call_tuple_of (by rfl) mt bt_tuple (pa_cons (pv 2) pa_nil)) pa_nil))))))))), ?_⟩
  refine ⟨_, rfl, _, rfl, p, a, dx, j, k, W, U, rows, rfl, hp, hF, rk, jk, kn, ft, fun H1 s1 => ?_⟩
  replace hp := s1 _ _ hp
  obtain ⟨pw, pu, pr, ha, hw, hu, cs, hpr, hC⟩ := mo_floor s1 hF
  have lc : cs.length = rows.length := hC.1
  refine ⟨_, rfl, a, _, _, _, rfl, rfl, SqT.of ha, t3_2 _ _ _, pr, _, rfl, .inr (SqT.of hpr), fun l hl => ?_⟩
  obtain ⟨H2, z2, s2, gl⟩ := newL hl (cs.map V.ref)
  rw [z2]
  obtain ⟨a1, ea, ha1⟩ := hC.get (row_get (show j < rows.length by omega))
  obtain ⟨a2, eb, ha2⟩ := hC.get (row_get kn)
  have n4 := rk.four _ (List.mem_of_getElem? (row_get (show j < rows.length by omega)))
  have m4 := rk.four _ (List.mem_of_getElem? (row_get kn))
  have sfj := rk.sf _ (List.mem_of_getElem? (row_get (show j < rows.length by omega)))
  have sfk := rk.sf _ (List.mem_of_getElem? (row_get kn))
  have hp2 := s2 _ _ hp
  refine ⟨_, rfl, _, rfl, p, C, dx, _, _, rfl, hp2, T.cl, T.n1, fldS_one _ _, l, _, _, _, rfl, rfl, SqL.of gl, atI_nat (ref_at ea), _, rfl, _, rfl, p, C, dx, _, _, rfl, hp2, T.cl, T.n2, fldS_other _ _, l, _, _, _, rfl, rfl, SqL.of gl, atI_nat (ref_at eb), a1, a2, _, _, rfl, mo_tf s2 ha1, mo_tf s2 ha2, n4, m4, sfj, sfk, fun t3 H3 s3 h3 => ?_⟩
  have s23 := s2.trans s3
  have hp3 := s23 _ _ hp
  have gl3 := s3 _ _ gl
  refine ⟨_, rfl, _, rfl, p, C, dx, _, _, rfl, hp3, T.cl, T.n1, fldS_one _ _, l, _, _, j, rfl, rfl, gl3, ixN_nat' (by rw [List.length_map]; omega), ?_⟩
  rw [show (cs.map V.ref).set j (.ref t3) = (cs.set j t3).map V.ref from (List.map_set ..).symm]
  have sb4 : SameB l H3 (upd H3 l (.lst ((cs.set j t3).map V.ref))) := SameB.one
  have gl4 : upd H3 l (.lst ((cs.set j t3).map V.ref)) l = some (.lst ((cs.set j t3).map V.ref)) := upd_same
  generalize upd H3 l (.lst ((cs.set j t3).map V.ref)) = H4 at sb4 gl4
  have s14 : Same H1 H4 := sb4.same s23 hl
  have hp4 := s14 _ _ hp
  have ek : (cs.set j t3)[k]? = some a2 := by rw [List.getElem?_set_ne (by omega)]; exact eb
  refine ⟨_, rfl, .inl ⟨rfl, _, SqL.of gl4⟩, _, rfl, p, C, dx, _, _, rfl, hp4, T.cl, T.n2, fldS_other _ _, l, _, _, k, _, rfl, rfl, gl4, by omega, by have := rk.n; omega, seqIx (by rw [List.length_map, List.length_set]; omega), ref_at ek, ?_⟩
  rw [show (((cs.set j t3).map V.ref).eraseIdx k) = ((cs.set j t3).eraseIdx k).map V.ref from eraseMap ..]
  have sb5 : SameB l H4 (upd H4 l (.lst (((cs.set j t3).eraseIdx k).map V.ref))) := SameB.one
  have gl5 : upd H4 l (.lst (((cs.set j t3).eraseIdx k).map V.ref)) l = some (.lst (((cs.set j t3).eraseIdx k).map V.ref)) := upd_same
  generalize upd H4 l (.lst (((cs.set j t3).eraseIdx k).map V.ref)) = H5 at sb5 gl5
  have s15 : Same H1 H5 := sb5.same s14 hl
  refine ⟨_, rfl, a, _, _, _, rfl, rfl, SqT.of (s15 _ _ ha), t3_0 _ _ _, _, rfl, a, _, _, _, rfl, rfl, SqT.of (s15 _ _ ha), t3_1 _ _ _, _, rfl, l, _, rfl, .inl ⟨SqL.of gl5, fun t6 ht6 => ?_⟩⟩
  obtain ⟨H6, z6, s6, g6⟩ := new_tup ht6 (((cs.set j t3).eraseIdx k).map V.ref)
  rw [z6]
  refine ⟨by show 3 ≤ sizeLine; decide, fun t7 ht7 => ?_⟩
  have s7 := same_new ht7 (.tup [.ref pw, .ref pu, .ref t6])
  have s57 := s6.trans s7
  refine q t7 _ (s1.trans (s15.trans s57)) ⟨pw, pu, t6, upd_same, (s15.trans s57) _ _ hw, (s15.trans s57) _ _ hu, _, s7 _ _ g6, ?_⟩
  have h5 : TupR FrR H5 t3 (togR (rows.getD j []) (rows.getD k [])) := by
    have d3 : TupR FrR (del H3 l) t3 (togR (rows.getD j []) (rows.getD k [])) := tfd h3 gl3
    have sd : Same (del H3 l) H5 := fun b o e => by
      have nb : b ≠ l := fun z => by rw [z] at e; simp [del] at e
      have e3 : H3 b = some o := del_sub H3 l _ _ e
      exact sb5 _ _ nb (sb4 _ _ nb e3)
    exact mo_tf sd d3
  exact (eraseAt (setAt (hC.keep mo_tf s15) j h5) k).keep mo_tf s57
noncomputable def spDn (C : Addr) (t : List (List Rat) → Nat → Nat → Bool) : Sp := spJn C t
theorem scDA : FnScope ["self", "floor"] ["self", "floor"] (defScope sDoneA) := ⟨rfl, rfl, rfl, by decide +kernel, rfl, by decide +kernel, by decide +kernel⟩
theorem scDB : FnScope ["self", "floor"] ["self", "floor"] (defScope sDoneB) := ⟨rfl, rfl, rfl, by decide +kernel, rfl, by decide +kernel, by decide +kernel⟩
theorem ok_doneA {t : List (List Rat) → Nat → Nat → Bool} (F : Fun K "done" "Above.done" sDoneA f fd) (G : FnOk P w K mg base CX0 6 g gd ["step", "floor"] (spJn C t)) (bG : Binds K gd ["step", "floor"] []) (kG : PySem.W.keepIn K (.ref g) = true) (mG : mg "joined" = some (.ref g)) : FnOk P w K mg base CX0 7 f fd ["self", "floor"] (spDn C t) := by
  refine F.ok scDA (fun vs H Q E h => ?_) (fun cdv A outer s H vs Q E hr h => ?_)
  · obtain ⟨p, a, dx, j, k, W, U, rows, rfl, _⟩ := h
    rfl
  obtain ⟨p, a, dx, j, k, W, U, rows, rfl, h⟩ := h
  exact ⟨_, pss_one (ps_ret (pe_call G hr (by rfl) mG kG bG .nil pass0 (pa_cons (pv 0) (pa_cons (pv 1) pa_nil)))), _, rfl, _, rfl, p, a, dx, j, k, W, U, rows, rfl, h⟩
theorem ok_doneB {t : List (List Rat) → Nat → Nat → Bool} (F : Fun K "done" "Beside.done" sDoneB f fd) (G : FnOk P w K mg base CX0 6 g gd ["step", "floor"] (spJn C t)) (bG : Binds K gd ["step", "floor"] []) (kG : PySem.W.keepIn K (.ref g) = true) (mG : mg "joined" = some (.ref g)) : FnOk P w K mg base CX0 7 f fd ["self", "floor"] (spDn C t) := by
  refine F.ok scDB (fun vs H Q E h => ?_) (fun cdv A outer s H vs Q E hr h => ?_)
  · obtain ⟨p, a, dx, j, k, W, U, rows, rfl, _⟩ := h
    rfl
  obtain ⟨p, a, dx, j, k, W, U, rows, rfl, h⟩ := h
  exact ⟨_, pss_one (ps_ret (pe_call G hr (by rfl) mG kG bG .nil pass0 (pa_cons (pv 0) (pa_cons (pv 1) pa_nil)))), _, rfl, _, rfl, p, a, dx, j, k, W, U, rows, rfl, h⟩
end
end My
namespace My
open PySem L2 Mth Wd Fl
noncomputable abbrev FitS (rows : List (List Rat)) (s : Stp) : Prop := s ∈ stepsOf rows.length ∧ fitB rows s = true
noncomputable abbrev dnS (rows : List (List Rat)) (s : Stp) : List (List Rat) := dnR rows s.2.1 s.2.2
inductive PthR (rows : List (List Rat)) : List Stp → List (List Rat) → Prop
  | nil : PthR rows [] rows
  | snoc {ss : List Stp} {r1 : List (List Rat)} {s : Stp} : PthR rows ss r1 → FitS r1 s → PthR rows (ss ++ [s]) (dnS r1 s)
structure KeepR (I : List (List Rat) → Prop) : Prop where
  rk : ∀ rows, I rows → RowsK rows
  few : ∀ rows, I rows → ((stepsOf rows.length).filter (fitB rows)).length < 64
  dn : ∀ rows s, I rows → FitS rows s → I (dnS rows s)
section
variable {P : Program} {w : World} {K : PySem.W.Frag} {mg : Str → Option Value} {base : Heap} {f g h f1 f2 f3 f4 f5 C C1 C2 : Addr} {fd gd hd d1 d2 d3 d4 d5 : FuncData}
noncomputable def clsS (C1 C2 : Addr) (c : Int) : Addr := if c = 0 then C1 else C2
noncomputable def spSO (C1 C2 : Addr) : Sp := fun vs H Q _ => ∃ (p : Addr) (c j k : Int), vs = [.ref p] ∧ S01 c ∧ H p = some (.tup [.str (wdS c), .int j, .int k]) ∧ ∀ x dx H', Same H H' → H' x = some (.ins (clsS C1 C2 c) dx (fldS j k)) → Q (.ref x) H'
theorem scSt : FnScope ["told"] ["told"] (defScope s_step_of) := ⟨rfl, rfl, rfl, by decide +kernel, rfl, by decide +kernel, by decide +kernel⟩
theorem ok_stepOf (F : Fun K "step_of" "step_of" s_step_of f fd) (T1 : StC K C1) (T2 : StC K C2) (M1 : Mk K C1 f1) (M2 : Mk K C2 f1) (mC1 : mg "Above" = some (.ref C1)) (mC2 : mg "Beside" = some (.ref C2))
    (G1 : FnOk P w K mg base CX0 1 f1 d1 ["self", "one", "other"] (spInit K)) (b1 : Binds K d1 ["self", "one", "other"] []) : FnOk P w K mg base CX0 3 f fd ["told"] (spSO C1 C2) := by
  refine F.ok scSt (fun vs H Q E h => ?_) (fun cdv A outer s H vs Q E hr h => ?_)
  · obtain ⟨p, c, j, k, rfl, _⟩ := h
    rfl
  obtain ⟨p, c, j, k, rfl, sc, hp, q⟩ := h
  have r2 := hr.mono (show 1 + 1 ≤ 2 by decide)
  refine ⟨_, pss_cons (ps_if (pt_cmpR op_eq (pe_ix (ixT (K := K)) (pv 0) pe_int (fun _ _ => rfl)) pe_str (nomark _)) (pss_one (ps_ret (pe_make M1 G1 r2 rfl mC1 b1 .nil pass0 (pa_cons (pe_ix (ixT (K := K)) (pv 0) pe_int (fun _ _ => rfl)) (pa_cons (pe_ix (ixT (K := K)) (pv 0) pe_int (fun _ _ => rfl)) pa_nil))))) pss_nil)
    (pss_cons (ps_if (pt_cmpR op_eq (pe_ix (ixT (K := K)) (pv 0) pe_int (fun _ _ => rfl)) pe_str (nomark _)) (pss_one (ps_ret (pe_make M2 G1 r2 rfl mC2 b1 .nil pass0 (pa_cons (pe_ix (ixT (K := K)) (pv 0) pe_int (fun _ _ => rfl)) (pa_cons (pe_ix (ixT (K := K)) (pv 0) pe_int (fun _ _ => rfl)) pa_nil))))) pss_nil)
    pss_never), ?_⟩
  refine ⟨_, rfl, p, _, _, _, rfl, rfl, SqT.of hp, t3_0 _ _ _, rfl, _, rfl, ?_⟩
  rcases sc with rfl | rfl
  · refine iteDT (by decide +kernel) ?_
    refine ⟨_, rfl, p, _, _, _, rfl, rfl, SqT.of hp, t3_1 _ _ _, _, rfl, p, _, _, _, rfl, rfl, SqT.of hp, t3_2 _ _ _, fun x dx nx ndx nex => ?_⟩
    refine ⟨x, C1, dx, _, _, rfl, T1, upd_same, fun H4 hx sb => ⟨rfl, ?_⟩⟩
    exact q x dx H4 (fun b o e => sb b o (ne_of_none e nx) (by rw [upd_ne (ne_of_none e nx), upd_ne (ne_of_none e ndx)]; exact e)) hx
  · refine iteDF (by decide +kernel) ?_
    refine ⟨_, rfl, p, _, _, _, rfl, rfl, SqT.of hp, t3_0 _ _ _, rfl, _, rfl, ?_⟩
    refine iteDT (by decide +kernel) ?_
    refine ⟨_, rfl, p, _, _, _, rfl, rfl, SqT.of hp, t3_1 _ _ _, _, rfl, p, _, _, _, rfl, rfl, SqT.of hp, t3_2 _ _ _, fun x dx nx ndx nex => ?_⟩
    refine ⟨x, C2, dx, _, _, rfl, T2, upd_same, fun H4 hx sb => ⟨rfl, ?_⟩⟩
    exact q x dx H4 (fun b o e => sb b o (ne_of_none e nx) (by rw [upd_ne (ne_of_none e nx), upd_ne (ne_of_none e ndx)]; exact e)) hx
noncomputable def spSet : Sp := fun vs H Q _ => ∃ (a : Addr) (W U : Rat) (rows : List (List Rat)) (I : List (List Rat) → Prop), vs = [.ref a] ∧ FloorR H a W U rows ∧ KeepR I ∧ I rows ∧
  ∀ t ps pf cs ss rows' H', Same H H' → H' t = some (.tup [.ref ps, .ref pf]) → H' ps = some (.tup (cs.map V.ref)) → At (TupS wdS S01) H' cs (ss.map codeS) → FloorR H' pf W U rows' → PthR rows ss rows' → I rows' → (stepsOf rows'.length).filter (fitB rows') = [] → Q (.ref t) H'
theorem scSe : FnScope ["floor", "steps", "fits"] ["floor"] (defScope s_settled) := ⟨rfl, rfl, rfl, by decide +kernel, rfl, by decide +kernel, by decide +kernel⟩
theorem tupS_upd {H H' : Hp} {l : Addr} {ys : List V} {cs : List Addr} {rs : List (List Int)} (hl : H l = some (.lst ys)) (sb : SameB l H H') (h : At (TupS wdS S01) H cs rs) : At (TupS wdS S01) H' cs rs :=
  ⟨h.1, fun i b x e1 e2 => by
    obtain ⟨c, rest, e, sc, g⟩ := h.2 i b x e1 e2
    exact ⟨c, rest, e, sc, sb _ _ (fun z => by rw [z, hl] at g; cases g) g⟩⟩
theorem floor_upd {H H' : Hp} {l a : Addr} {ys : List V} {W U : Rat} {rows : List (List Rat)} (hl : H l = some (.lst ys)) (sb : SameB l H H') (h : FloorR H a W U rows) : FloorR H' a W U rows := by
  have sd : Same (del H l) H' := fun b o e => by
    have nb : b ≠ l := fun z => by rw [z] at e; simp [del] at e
    exact sb _ _ nb (del_sub H l _ _ e)
  obtain ⟨p, q, r, h1, h2, h3, cs, h4, h5⟩ := h
  have nl : ∀ {b : Addr} {xs : List V}, H b = some (.tup xs) → del H l b = some (.tup xs) := fun {b xs} e => del_at e fun z => by rw [z, hl] at e; cases e
  refine ⟨p, q, r, sd _ _ (nl h1), sd _ _ (nl h2), sd _ _ (nl h3), cs, sd _ _ (nl h4), h5.1, fun i b x e1 e2 => ?_⟩
  exact mo_tf sd (tfd (h5.2 i b x e1 e2) hl)
theorem pth_len {rows r : List (List Rat)} {ss : List Stp} (h : PthR rows ss r) : ss.length + r.length = rows.length := by
  induction h with
  | nil => simp
  | @snoc ss r1 s _ ft ih =>
    have := mem_steps.mp ft.1
    have := dn_len (f := togR) (d := []) (l := r1) this.2.1 this.2.2
    rw [List.length_append, List.length_singleton]
    show ss.length + 1 + (dnL togR [] r1 s.2.1 s.2.2).length = _
    omega
theorem tup3 {H : Hp} {b : Addr} {s : Stp} (h : TupS wdS S01 H b (codeS s)) : S01 (s.1 : Int) ∧ H b = some (.tup [.str (wdS (s.1 : Int)), .int (s.2.1 : Int), .int (s.2.2 : Int)]) := by
  obtain ⟨c, rest, e, sc, h⟩ := h
  unfold codeS at e
  injection e with e1 e2
  subst e1 e2
  exact ⟨sc, h⟩
theorem ok_settled (F : Fun K "settled" "settled" s_settled f fd) (T1 : StC K C1) (T2 : StC K C2)
    (G1 : FnOk P w K mg base CX0 5 f1 d1 ["floor"] spFit) (b1 : Binds K d1 ["floor"] []) (k1 : PySem.W.keepIn K (.ref f1) = true) (m1 : mg "fitting" = some (.ref f1))
    (G2 : FnOk P w K mg base CX0 3 f2 d2 ["told"] (spSO C1 C2)) (b2 : Binds K d2 ["told"] []) (k2 : PySem.W.keepIn K (.ref f2) = true) (m2 : mg "step_of" = some (.ref f2))
    (G3 : FnOk P w K mg base CX0 7 f3 d3 ["self", "floor"] (spDn C1 abvR)) (b3 : Binds K d3 ["self", "floor"] []) (e3 : Meth K C1 "done" f3)
    (G4 : FnOk P w K mg base CX0 7 f4 d4 ["self", "floor"] (spDn C2 bsdR)) (b4 : Binds K d4 ["self", "floor"] []) (e4 : Meth K C2 "done" f4) (mt : mg "tuple" = none) : FnOk P w K mg base CX0 8 f fd ["floor"] spSet := by
  refine F.ok scSe (fun vs H Q E h => ?_) (fun cdv A outer s H vs Q E hr h => ?_)
  · obtain ⟨a, W, U, rows, I, rfl, _⟩ := h
    rfl
  obtain ⟨a, W, U, rows, I, rfl, hF, kI, i0, q⟩ := h
  have r5 := hr.mono (show 5 ≤ 7 by decide)
  have r3 := hr.mono (show 3 ≤ 7 by decide)
  refine ⟨_, pss_cons (ps_set (i := 1) scSe.nd rfl (Or.inl rfl) (pe_lst pa_nil))
    (pss_cons (ps_set (i := 2) scSe.nd rfl (Or.inl rfl) (pe_call G1 r5 (by rfl) m1 k1 b1 .nil pass0 (pa_cons (pv 0) pa_nil)))
    (pss_cons (ps_while PassesOwn.never (pt_truth (pv 2) (fun _ => rfl))
      (pss_cons (ps_expr (pe_bmK K PySem.F.plainAttrs_list PySem.F.slot_list_append PySem.F.type_list_append mt_append (pv 1) (pa_cons (pe_ix (ixT (K := K)) (pv 2) pe_int (fun _ _ => rfl)) pa_nil)))
      (pss_cons (ps_set (i := 0) scSe.nd rfl (Or.inl rfl) (pe_meth2 (pe_call G2 r3 (by rfl) m2 k2 b2 .nil pass0 (pa_cons (pe_ix (ixT (K := K)) (pv 2) pe_int (fun _ _ => rfl)) pa_nil)) T1.cl T2.cl e3 e4 G3 G4 hr hr b3 b4 pass0 pass0 (pa_cons (pv 0) pa_nil)))
      (pss_one (ps_set (i := 2) scSe.nd rfl (Or.inl rfl) (pe_call G1 r5 (by rfl) m1 k1 b1 .nil pass0 (pa_cons (pv 0) pa_nil)))))))
    (pss_one (ps_ret (pe_tup (pa_cons (pe_callTy call_tuple_of (by rfl) mt bt_tuple (pa_cons (pv 1) pa_nil)) (pa_cons (pv 0) pa_nil))))))), ?_⟩
  refine ⟨by show 0 ≤ sizeLine; decide, fun l hl => ?_⟩
  obtain ⟨H1, z1, s1, gl⟩ := newL hl []
  rw [z1]
  refine ⟨_, rfl, a, W, U, rows, rfl, mo_floor s1 hF, kI.rk _ i0, kI.few _ i0, fun tf cs rs H2 s2 htf hA pm pw => ?_⟩
  refine ⟨fun m σ H2 => ∃ (a tf : Addr) (r1 : List (List Rat)) (ss : List Stp) (es cs : List Addr) (rs : List (List Int)), m = r1.length ∧ σ = [some (.ref a), some (.ref l), some (.ref tf)] ∧ Same H H2 ∧ I r1 ∧ PthR rows ss r1 ∧ H2 l = some (.lst (es.map V.ref)) ∧ At (TupS wdS S01) H2 es (ss.map codeS) ∧ FloorR H2 a W U r1 ∧ H2 tf = some (.tup (cs.map V.ref)) ∧ At (TupS wdS S01) H2 cs rs ∧ rs.Perm (((stepsOf r1.length).filter (fitB r1)).map codeS),
    ⟨_, a, tf, rows, [], [], cs, rs, rfl, rfl, s1.trans s2, i0, .nil, s2 _ _ gl, At.nil, mo_floor (s1.trans s2) hF, htf, hA, pm⟩, ?_⟩
  rintro m σ H3 ⟨a, tf, r1, ss, es, cs, rs, rfl, rfl, s3, i1, pth, hl3, hE, hF3, htf, hA, pm⟩
  have ln : ss.length + r1.length = rows.length := pth_len pth
  have n30 := (kI.rk _ i0).n
  refine ⟨_, rfl, !(cs.map V.ref).isEmpty, .inr (.inl ⟨_, SqT.of htf, rfl⟩), ?_⟩
  cases cs with
  | nil =>
    refine iteF ?_
    have e0 : rs = [] := List.eq_nil_of_length_eq_zero hA.1.symm
    subst e0
    have e1 : (stepsOf r1.length).filter (fitB r1) = [] := by
      have := pm.length_eq
      rw [List.length_map] at this
      exact List.eq_nil_of_length_eq_zero this.symm
    refine ⟨_, rfl, l, _, rfl, .inl ⟨SqL.of hl3, fun t4 ht4 => ?_⟩⟩
    obtain ⟨H4, z4, s4, g4⟩ := new_tup ht4 (es.map V.ref)
    rw [z4]
    refine ⟨_, rfl, by show 2 ≤ sizeLine; decide, fun t5 ht5 => ?_⟩
    have s5 := same_new ht5 (.tup [.ref t4, .ref a])
    exact q t5 t4 a es ss r1 _ (s3.trans (s4.trans s5)) upd_same (s5 _ _ g4) (hE.keep mo_tupS (s4.trans s5)) (mo_floor (s4.trans s5) hF3) pth i1 e1
  | cons c0 cs =>
    refine iteT ?_
    cases rs with
    | nil => exact absurd hA.1 (by simp)
    | cons r0 rs =>
    have m0 : r0 ∈ ((stepsOf r1.length).filter (fitB r1)).map codeS := pm.mem_iff.mp (by simp)
    obtain ⟨st, hst, rfl⟩ := List.mem_map.mp m0
    obtain ⟨ms, fs⟩ := List.mem_filter.mp hst
    have mm := mem_steps.mp ms
    obtain ⟨sc, hc0⟩ := tup3 (hA.2 0 _ _ rfl rfl)
    refine ⟨fun σ' H' => ∃ (a tf : Addr) (r2 : List (List Rat)) (ss : List Stp) (es cs : List Addr) (rs : List (List Int)), r2.length + 1 = r1.length ∧ σ' = [some (.ref a), some (.ref l), some (.ref tf)] ∧ Same H H' ∧ I r2 ∧ PthR rows ss r2 ∧ H' l = some (.lst (es.map V.ref)) ∧ At (TupS wdS S01) H' es (ss.map codeS) ∧ FloorR H' a W U r2 ∧ H' tf = some (.tup (cs.map V.ref)) ∧ At (TupS wdS S01) H' cs rs ∧ rs.Perm (((stepsOf r2.length).filter (fitB r2)).map codeS), ?_, ?_⟩
    · rintro σ' H' ⟨a, tf, r2, ss, es, cs, rs, z, rest⟩
      exact ⟨r2.length, by omega, a, tf, r2, ss, es, cs, rs, rfl, rest⟩
    have le : es.length = ss.length := by rw [hE.1, List.length_map]
    refine ⟨_, rfl, .inl ⟨rfl, _, SqL.of hl3⟩, _, rfl, tf, _, _, _, rfl, rfl, SqT.of htf, atI_nat (j := 0) rfl, l, _, _, rfl, rfl, hl3, by rw [List.length_map, sizeLine_eq]; omega, ?_⟩
    have sb4 : SameB l H3 (upd H3 l (.lst (es.map V.ref ++ [.ref c0]))) := SameB.one
    have gl4 : upd H3 l (.lst (es.map V.ref ++ [.ref c0])) l = some (.lst ((es ++ [c0]).map V.ref)) := by rw [upd_same, List.map_append]; rfl
    generalize upd H3 l (.lst (es.map V.ref ++ [.ref c0])) = H4 at sb4 gl4
    have s4 : Same H H4 := sb4.same s3 hl
    have hE4 := tupS_upd hl3 sb4 hE
    have hF4 := floor_upd hl3 sb4 hF3
    have htf4 : H4 tf = some (.tup ((c0 :: cs).map V.ref)) := sb4 _ _ (fun z => by rw [z, hl3] at htf; cases htf) htf
    have hc4 : H4 c0 = some (.tup [.str (wdS (st.1 : Int)), .int (st.2.1 : Int), .int (st.2.2 : Int)]) := sb4 _ _ (fun z => by rw [z, hl3] at hc0; cases hc0) hc0
    have hE5 : At (TupS wdS S01) H4 (es ++ [c0]) ((ss ++ [st]).map codeS) := by
      rw [List.map_append]
      exact hE4.snoc ⟨(st.1 : Int), [(st.2.1 : Int), (st.2.2 : Int)], rfl, sc, hc4⟩
    refine ⟨_, rfl, tf, _, _, _, rfl, rfl, SqT.of htf4, atI_nat (j := 0) rfl, c0, (st.1 : Int), _, _, rfl, sc, hc4, fun x dx H5 s5 hx => ?_⟩
    have hF5 := mo_floor s5 hF4
    have fin : ∀ b H6, Same H5 H6 → FloorR H6 b W U (dnR r1 st.2.1 st.2.2) → tAsg (tCall spFit [] E0 (tCons (tVar 0) tNil)) (gName 2) { nx := fun σ' H' => ∃ (a tf : Addr) (r2 : List (List Rat)) (ss : List Stp) (es cs : List Addr) (rs : List (List Int)), r2.length + 1 = r1.length ∧ σ' = [some (.ref a), some (.ref l), some (.ref tf)] ∧ Same H H' ∧ I r2 ∧ PthR rows ss r2 ∧ H' l = some (.lst (es.map V.ref)) ∧ At (TupS wdS S01) H' es (ss.map codeS) ∧ FloorR H' a W U r2 ∧ H' tf = some (.tup (cs.map V.ref)) ∧ At (TupS wdS S01) H' cs rs ∧ rs.Perm (((stepsOf r2.length).filter (fitB r2)).map codeS), rt := Q } [some (.ref b), some (.ref l), some (.ref tf)] H6 := fun b H6 s6 h6 => by
      have i2 := kI.dn r1 st i1 ⟨ms, fs⟩
      refine ⟨_, rfl, b, W, U, _, rfl, h6, kI.rk _ i2, kI.few _ i2, fun t7 cs7 rs7 H7 s7 h7 hA7 pm7 _ => ?_⟩
      have s47 := s5.trans (s6.trans s7)
      exact ⟨b, t7, _, ss ++ [st], es ++ [c0], cs7, rs7, dn_len mm.2.1 mm.2.2, rfl, s4.trans s47, i2, pth.snoc ⟨ms, fs⟩, s47 _ _ gl4, hE5.keep mo_tupS s47, mo_floor s7 h6, h7, hA7, pm7⟩
    have rk1 := kI.rk _ i1
    rcases mm.1 with z | z
    · have hx' : H5 x = some (.ins C1 dx (fldS (st.2.1 : Int) (st.2.2 : Int))) := by rw [hx, z]; rfl
      have ft : abvR r1 st.2.1 st.2.2 = true := by unfold fitB at fs; rwa [if_pos z] at fs
      exact ⟨x, dx, _, rfl, fldS_no _ _ (by decide +kernel) (by decide +kernel), .inl ⟨hx', _, rfl, x, a, dx, _, _, W, U, r1, rfl, hx', hF5, rk1, mm.2.1, mm.2.2, ft, fin⟩⟩
    · have hx' : H5 x = some (.ins C2 dx (fldS (st.2.1 : Int) (st.2.2 : Int))) := by rw [hx, z]; rfl
      have ft : bsdR r1 st.2.1 st.2.2 = true := by unfold fitB at fs; rwa [if_neg (by omega)] at fs
      exact ⟨x, dx, _, rfl, fldS_no _ _ (by decide +kernel) (by decide +kernel), .inr ⟨hx', _, rfl, x, a, dx, _, _, W, U, r1, rfl, hx', hF5, rk1, mm.2.1, mm.2.2, ft, fin⟩⟩
end
end My
namespace My
open PySem L2 Mth Wd Fl
noncomputable abbrev CellR (z : Int) : Prop := 0 ≤ z ∧ z < 2147483629
theorem joinP {T R : Prop} (m : T → R) (r : T) : R := m r
noncomputable abbrev Bx : Type := Box
noncomputable def BoxR (H : Hp) (p : Addr) (b : Bx) : Prop := H p = some (.tup [.int b.1, .int b.2.1, .int b.2.2.1, .int b.2.2.2])
theorem mo_bxR : Mo BoxR := fun s h => s _ _ h
theorem BoxR.del {H : Hp} {a p : Addr} {b : Bx} {ys : List V} (h : BoxR H p b) (e : H a = some (.lst ys)) : BoxR (del H a) p b := del_at h (fun z => by rw [z] at h; unfold BoxR at h; rw [e] at h; cases h)
theorem new_box {H : Hp} {p : Addr} (hp : H p = none) (a b c d : Int) : ∃ H', upd H p (.tup [.int a, .int b, .int c, .int d]) = H' ∧ Same H H' ∧ BoxR H' p (a, b, c, d) := ⟨_, rfl, same_new hp _, upd_same⟩
theorem new_lst {H : Hp} {p : Addr} (hp : H p = none) (vs : List V) : ∃ H', upd H p (.lst vs) = H' ∧ Same H H' ∧ H' p = some (.lst vs) := ⟨_, rfl, same_new hp _, upd_same⟩
theorem t4_0 (x y z u : V) : atI [x, y, z, u] 0 = some x := atI_nat (j := 0) rfl
theorem t4_1 (x y z u : V) : atI [x, y, z, u] 1 = some y := atI_nat (j := 1) rfl
theorem t4_2 (x y z u : V) : atI [x, y, z, u] 2 = some z := atI_nat (j := 2) rfl
theorem t4_3 (x y z u : V) : atI [x, y, z, u] 3 = some u := atI_nat (j := 3) rfl
section
variable {P : Program} {w : World} {K : PySem.W.Frag} {mg : Str → Option Value} {base : Heap} {f g h f1 f2 f3 : Addr} {fd gd hd d1 d2 d3 : FuncData}
inductive SpCellR (K : PySem.W.Frag) (vs : List V) (H : Hp) (Q : VK) : Prop
  | mk (a : Addr) (ns : List Int) (k : Int) (h_0 : vs = [.ref a, .int k]) (h_1 : ScA K H a ns) (h_2 : 0 ≤ k) (h_3 : ∀ z, CellR z → Q (.int z) H) : SpCellR K vs H Q
noncomputable def spCell (K : PySem.W.Frag) : Sp := fun vs H Q _ => SpCellR K vs H Q
theorem scCe : FnScope ["_law_script", "_law_k", "_law_cell"] ["_law_script", "_law_k"] (defScope sCellAt) := ⟨rfl, rfl, rfl, by decide +kernel, rfl, by decide +kernel, by decide +kernel⟩
theorem ok_cell (F : Fun K "_law_cell_at" "_law_cell_at" sCellAt f fd) (ml : mg "len" = none) : FnOk P w K mg base CX0 1 f fd ["_law_script", "_law_k"] (spCell K) := by
  refine F.ok scCe (fun vs H Q E h => ?_) (fun cdv A outer s H vs Q E hr h => ?_)
  · obtain ⟨a, ns, k, rfl, _⟩ := h
    rfl
  obtain ⟨a, ns, k, rfl, ⟨hS, hl⟩, h0, q⟩ := h
  refine ⟨_, pss_cons (ps_set (i := 2) scCe.nd rfl (Or.inl rfl) pe_int)
    (pss_cons (ps_if (pt_cmpR op_lt (pv 1) (pe_callB (callLen (K := K)) (by rfl) ml bt_len (pa_cons (pv 0) pa_nil)) (nomark _))
      (pss_one (ps_set (i := 2) scCe.nd rfl (Or.inl rfl) (pe_op op_mod (pe_ix (ixL (K := K)) (pv 0) (pv 1) (fun _ _ => rfl)) (pe_op op_pow pe_int pe_int)))) pss_nil)
    (pss_one (ps_ret (pe_op op_mod (pe_op op_mul (pe_op op_mod (pe_op op_add (pe_op op_mul (pv 2) pe_int) (pe_op op_mul pe_int (pv 1))) pe_int) pe_int) pe_int)))), ?_⟩
  refine ⟨_, rfl, _, rfl, a, _, rfl, .inl hS, _, _, rfl, rfl, _, rfl, ?_⟩
  have fin : ∀ x : Int, tRet (tOp (rI (fun _ j => 0 < j) fun i j => .int (i % j)) (tOp (rI CMul fun i j => .int (i * j)) (tOp (rI (fun _ j => 0 < j) fun i j => .int (i % j)) (tOp (rI0 fun i j => .int (i + j)) (tOp (rI CMul fun i j => .int (i * j)) (tVar 2) (tC (.int 48271))) (tOp (rI CMul fun i j => .int (i * j)) (tC (.int 16807)) (tVar 1))) (tC (.int 2147483647))) (tC (.int 69621))) (tC (.int 2147483629)))
      { nx := fun _ H' => Q .non H', rt := Q } [some (.ref a), some (.int k), some (.int x)] H := fun x =>
    ⟨_, rfl, _, _, rfl, rfl, .inr ⟨by decide, by decide⟩, _, rfl, _, _, rfl, rfl, .inl ⟨by decide, by decide⟩, _, _, rfl, rfl, _, _, rfl, rfl, (show (0 : Int) < 2147483647 by decide), _, _, rfl, rfl, .inr ⟨by decide, by decide⟩, _, _, rfl, rfl, (show (0 : Int) < 2147483629 by decide), q _ ⟨Int.emod_nonneg _ (by decide), Int.emod_lt_of_pos _ (by decide)⟩⟩
  by_cases hk : k < (((ns.map V.int).length : Nat) : Int)
  · refine iteDT hk ?_
    rw [List.length_map] at hk
    have hk' : k.toNat < ns.length := by omega
    have e : atI (ns.map V.int) ((k.toNat : Nat) : Int) = some (.int ns[k.toNat]) := atI_nat (by rw [List.getElem?_map, List.getElem?_eq_getElem hk']; rfl)
    rw [show ((k.toNat : Nat) : Int) = k by omega] at e
    exact ⟨_, rfl, _, rfl, a, _, _, _, rfl, rfl, hS, e, _, _, rfl, rfl, ⟨by decide, by decide, by decide⟩, _, _, rfl, rfl, (show (0 : Int) < 10 ^ ((18 : Int).toNat) by decide), fin _⟩
  · exact iteDF hk (fin _)
inductive SpLowR (vs : List V) (H : Hp) (Q : VK) : Prop
  | mk (t b : Int) (h_0 : vs = [.int t, .int b]) (h_1 : 0 < b) (h_2 : Big b) (h_3 : GivQ H Q ((t : Rat) / (b : Rat))) : SpLowR vs H Q
noncomputable def spLow : Sp := fun vs H Q _ => SpLowR vs H Q
theorem scLo : FnScope ["_law_top", "_law_bottom", "_law_a", "_law_b", "_law_rest"] ["_law_top", "_law_bottom"] (defScope s_law_lowest) := ⟨rfl, rfl, rfl, by decide +kernel, rfl, by decide +kernel, by decide +kernel⟩
theorem abs_eq (a : Int) : (if a < 0 then -a else a) = (a.natAbs : Int) := by split <;> omega
theorem emod_gcd {x y : Int} (hy : 0 < y) : Int.gcd y (x % y) = Int.gcd x y := by
  have := gcd_fmod x y
  rwa [Int.fmod_eq_emod_of_nonneg x (Int.le_of_lt hy)] at this
theorem ok_low (F : Fun K "_law_lowest" "_law_lowest" s_law_lowest f fd) (ma : mg "abs" = none) : FnOk P w K mg base CX0 1 f fd ["_law_top", "_law_bottom"] spLow := by
  refine F.ok scLo (fun vs H Q E h => ?_) (fun cdv A outer s H vs Q E hr h => ?_)
  · obtain ⟨t, b, rfl, _⟩ := h
    rfl
  obtain ⟨t, b, rfl, hb, bb, q⟩ := h
  refine ⟨_, pss_cons (ps_set (i := 2) scLo.nd rfl (Or.inl rfl) (pe_callB call_abs (by rfl) ma bt_abs (pa_cons (pv 0) pa_nil)))
    (pss_cons (ps_set (i := 3) scLo.nd rfl (Or.inl rfl) (pv 1))
    (pss_cons (ps_while PassesOwn.never (pt_cmpR op_gt (pv 3) pe_int (nomark _))
      (pss_cons (ps_set (i := 4) scLo.nd rfl (Or.inl rfl) (pe_op op_mod (pv 2) (pv 3)))
      (pss_cons (ps_set (i := 2) scLo.nd rfl (Or.inl rfl) (pv 3))
      (pss_one (ps_set (i := 3) scLo.nd rfl (Or.inl rfl) (pv 4))))))
    (pss_one (ps_ret (pe_tup (pa_cons (pe_op op_fdivB (pv 0) (pv 2)) (pa_cons (pe_op op_fdivB (pv 1) (pv 2)) pa_nil))))))), ?_⟩
  refine ⟨_, rfl, t, rfl, _, rfl, ?_⟩
  rw [abs_eq]
  refine while_by (fun σ H2 => ∃ x y r, σ = [some (.int t), some (.int b), some (.int x), some (.int y), r] ∧ H2 = H ∧ 0 ≤ x ∧ 0 ≤ y ∧ Int.gcd x y = Int.gcd t b) (fun σ _ => match σ with | [_, _, _, some (.int y), _] => y.natAbs | _ => 0) ⟨_, _, none, rfl, rfl, by omega, by omega, by unfold Int.gcd; simp⟩ ?_ ?_
  · rintro σ H2 ⟨x, y, r, rfl, rfl, x0, y0, gg⟩
    refine ⟨_, rfl, _, _, rfl, rfl, _, rfl, ?_⟩
    by_cases hy : (0 : Int) < y
    · refine iteDT hy ?_
      have m0 := Int.emod_nonneg x (Int.ne_of_gt hy)
      have m1 := Int.emod_lt_of_pos x hy
      refine ⟨_, rfl, _, rfl, _, _, rfl, rfl, hy, _, rfl, _, rfl, ⟨y, x % y, _, rfl, rfl, y0, m0, (emod_gcd hy).trans gg⟩, ?_⟩
      show (x % y).natAbs < y.natAbs
      omega
    · refine iteDF hy ?_
      have hy : y = 0 := by omega
      subst hy
      have gx : x = (Int.gcd t b : Int) := by
        have := abs_gcd gg
        rw [if_neg (by omega)] at this
        exact this
      have pe : Mth.part t b = x := by unfold Mth.part; rw [if_neg (by omega), gx]
      have gp : 0 < Int.gcd t b := Mth.gcd_pos t b (by omega)
      have hx : CDivB t x := ⟨by omega, by rw [← pe]; exact Nat.lt_of_le_of_lt (part_le t b (by omega)) bb⟩
      have ef := frac_rat t b (by omega)
      unfold frac at ef
      rw [pe] at ef
      have e1 := congrArg Prod.fst ef
      have e2 := congrArg Prod.snd ef
      simp only at e1 e2
      refine ⟨_, rfl, _, rfl, _, _, rfl, rfl, hx, _, rfl, _, rfl, _, _, rfl, rfl, hx, by show 2 ≤ sizeLine; decide, ?_⟩
      (try dsimp only)
      rw [e1, e2]
      exact q
  · rintro σ H2 Q1 Q2 hq ⟨v, e, i, j, e1, e2, b, eb, z⟩
    exact ⟨v, e, i, j, e1, e2, b, eb, hq _ _ z⟩
inductive SpTwoR (vs : List V) (H : Hp) (Q : VK) : Prop
  | mk (lo hi c : Int) (h_0 : vs = [.int lo, .int hi, .int c]) (h_1 : lo + 3 ≤ hi) (h_2 : ∀ x y : Int, lo < x → x < y → y < hi → ∀ p, H p = none → Q (.ref p) (upd H p (.tup [.int x, .int y]))) : SpTwoR vs H Q
noncomputable def spTwo : Sp := fun vs H Q _ => SpTwoR vs H Q
theorem scTw : FnScope ["_law_low", "_law_high", "_law_cell", "_law_first"] ["_law_low", "_law_high", "_law_cell"] (defScope s_law_two) := ⟨rfl, rfl, rfl, by decide +kernel, rfl, by decide +kernel, by decide +kernel⟩
theorem ok_two (F : Fun K "_law_two" "_law_two" s_law_two f fd) : FnOk P w K mg base CX0 1 f fd ["_law_low", "_law_high", "_law_cell"] spTwo := by
  refine F.ok scTw (fun vs H Q E h => ?_) (fun cdv A outer s H vs Q E hr h => ?_)
  · obtain ⟨lo, hi, c, rfl, _⟩ := h
    rfl
  obtain ⟨lo, hi, c, rfl, hlh, q⟩ := h
  refine ⟨_, pss_cons (ps_set (i := 3) scTw.nd rfl (Or.inl rfl) (pe_op op_add (pe_op op_add (pv 0) pe_int) (pe_op op_mod (pv 2) (pe_op op_sub (pe_op op_sub (pv 1) (pv 0)) pe_int))))
    (pss_one (ps_ret (pe_tup (pa_cons (pv 3) (pa_cons (pe_op op_add (pe_op op_add (pv 3) pe_int) (pe_op op_mod (pe_op op_fdiv (pv 2) pe_int) (pe_op op_sub (pe_op op_sub (pv 1) (pv 3)) pe_int))) pa_nil))))), ?_⟩
  have h1 : (0 : Int) < hi - lo - 2 := by omega
  have a0 := Int.emod_nonneg c (Int.ne_of_gt h1)
  have a1 := Int.emod_lt_of_pos c h1
  refine ⟨_, rfl, _, _, rfl, rfl, _, rfl, _, rfl, _, rfl, _, _, rfl, rfl, _, _, rfl, rfl, _, _, rfl, rfl, h1, _, _, rfl, rfl, ?_⟩
  (try dsimp only)
  generalize hx : lo + 1 + c % (hi - lo - 2) = x
  have h2 : (0 : Int) < hi - x - 1 := by omega
  have b0 := Int.emod_nonneg (c / 7) (Int.ne_of_gt h2)
  have b1 := Int.emod_lt_of_pos (c / 7) h2
  exact ⟨_, rfl, _, rfl, _, _, rfl, rfl, _, rfl, _, _, rfl, rfl, ⟨by decide, by decide⟩, _, rfl, _, rfl, _, _, rfl, rfl, _, _, rfl, rfl, _, _, rfl, rfl, h2, _, _, rfl, rfl, by show 2 ≤ sizeLine; decide, q x _ (by omega) (by omega) (by omega)⟩
noncomputable abbrev PtQ (H : Hp) (Q : VK) (b : Bx) (n m : Nat) : Prop := ∀ (p : Addr) (H' : Hp) (bs : List Bx), Same H H' → LstR BoxR H' p bs → n ≤ bs.length → bs.length ≤ m → Parts b bs → Q (.ref p) H'
inductive SpWheelR (vs : List V) (H : Hp) (Q : VK) : Prop
  | mk (pb px py : Addr) (b : Bx) (x0 x1 y0 y1 way : Int) (h_0 : vs = [.ref pb, .ref px, .ref py, .int way]) (h_1 : BoxR H pb b) (h_2 : H px = some (.tup [.int x0, .int x1])) (h_3 : H py = some (.tup [.int y0, .int y1])) (h_4 : (b.l < x0 ∧ x0 < x1 ∧ x1 < b.r ∧ b.d < y0 ∧ y0 < y1 ∧ y1 < b.u)) (h_5 : PtQ H Q b 5 5) : SpWheelR vs H Q
noncomputable def spWheel : Sp := fun vs H Q _ => SpWheelR vs H Q
theorem scWl : FnScope ["_law_box", "_law_x", "_law_y", "_law_way", "_law_left", "_law_low", "_law_right", "_law_high", "_law_outer"] ["_law_box", "_law_x", "_law_y", "_law_way"] (defScope s_law_wheel) := ⟨rfl, rfl, rfl, by decide +kernel, rfl, by decide +kernel, by decide +kernel⟩
set_option maxHeartbeats 4000000 in
theorem ok_wheel (F : Fun K "_law_wheel" "_law_wheel" s_law_wheel f fd) : FnOk P w K mg base CX0 1 f fd ["_law_box", "_law_x", "_law_y", "_law_way"] spWheel := by
  refine F.ok scWl (fun vs H Q E h => ?_) (fun cdv A outer s H vs Q E hr h => ?_)
  · obtain ⟨pb, px, py, b, x0, x1, y0, y1, way, rfl, _⟩ := h
    rfl
  obtain ⟨pb, px, py, ⟨l, lo, r, hi⟩, x0, x1, y0, y1, way, rfl, hb, hx, hy, ⟨i1, i2, i3, i4, i5, i6⟩, q⟩ := h
  dsimp only [Box.l, Box.d, Box.r, Box.u] at i1 i2 i3 i4 i5 i6
  refine ⟨_, pss_cons (ps_asg (pv 0) (pgTup (n := 4) (K := K) rfl (pgs_cons (pg_name (i := 4) scWl.nd rfl (Or.inl rfl)) (pgs_cons (pg_name (i := 5) scWl.nd rfl (Or.inl rfl)) (pgs_cons (pg_name (i := 6) scWl.nd rfl (Or.inl rfl)) (pgs_cons (pg_name (i := 7) scWl.nd rfl (Or.inl rfl)) pgs_nil))))))
    (pss_cons (ps_if (pt_cmpR op_eq (pv 3) pe_int (nomark _))
      (pss_one (ps_set (i := 8) scWl.nd rfl (Or.inl rfl) (pe_lst (pa_cons (pe_tup (pa_cons (pv 4) (pa_cons (pv 5) (pa_cons (pe_ix (ixT (K := K)) (pv 1) pe_int (fun _ _ => rfl)) (pa_cons (pe_ix (ixT (K := K)) (pv 2) pe_int (fun _ _ => rfl)) pa_nil)))))
        (pa_cons (pe_tup (pa_cons (pe_ix (ixT (K := K)) (pv 1) pe_int (fun _ _ => rfl)) (pa_cons (pv 5) (pa_cons (pv 6) (pa_cons (pe_ix (ixT (K := K)) (pv 2) pe_int (fun _ _ => rfl)) pa_nil)))))
        (pa_cons (pe_tup (pa_cons (pe_ix (ixT (K := K)) (pv 1) pe_int (fun _ _ => rfl)) (pa_cons (pe_ix (ixT (K := K)) (pv 2) pe_int (fun _ _ => rfl)) (pa_cons (pv 6) (pa_cons (pv 7) pa_nil)))))
        (pa_cons (pe_tup (pa_cons (pv 4) (pa_cons (pe_ix (ixT (K := K)) (pv 2) pe_int (fun _ _ => rfl)) (pa_cons (pe_ix (ixT (K := K)) (pv 1) pe_int (fun _ _ => rfl)) (pa_cons (pv 7) pa_nil))))) pa_nil)))))))
      (pss_one (ps_set (i := 8) scWl.nd rfl (Or.inl rfl) (pe_lst (pa_cons (pe_tup (pa_cons (pe_ix (ixT (K := K)) (pv 1) pe_int (fun _ _ => rfl)) (pa_cons (pv 5) (pa_cons (pv 6) (pa_cons (pe_ix (ixT (K := K)) (pv 2) pe_int (fun _ _ => rfl)) pa_nil)))))
        (pa_cons (pe_tup (pa_cons (pe_ix (ixT (K := K)) (pv 1) pe_int (fun _ _ => rfl)) (pa_cons (pe_ix (ixT (K := K)) (pv 2) pe_int (fun _ _ => rfl)) (pa_cons (pv 6) (pa_cons (pv 7) pa_nil)))))
        (pa_cons (pe_tup (pa_cons (pv 4) (pa_cons (pe_ix (ixT (K := K)) (pv 2) pe_int (fun _ _ => rfl)) (pa_cons (pe_ix (ixT (K := K)) (pv 1) pe_int (fun _ _ => rfl)) (pa_cons (pv 7) pa_nil)))))
        (pa_cons (pe_tup (pa_cons (pv 4) (pa_cons (pv 5) (pa_cons (pe_ix (ixT (K := K)) (pv 1) pe_int (fun _ _ => rfl)) (pa_cons (pe_ix (ixT (K := K)) (pv 2) pe_int (fun _ _ => rfl)) pa_nil))))) pa_nil))))))))
    (pss_one (ps_ret (pe_op op_cat (pv 8) (pe_lst (pa_cons (pe_tup (pa_cons (pe_ix (ixT (K := K)) (pv 1) pe_int (fun _ _ => rfl)) (pa_cons (pe_ix (ixT (K := K)) (pv 2) pe_int (fun _ _ => rfl)) (pa_cons (pe_ix (ixT (K := K)) (pv 1) pe_int (fun _ _ => rfl)) (pa_cons (pe_ix (ixT (K := K)) (pv 2) pe_int (fun _ _ => rfl)) pa_nil))))) pa_nil)))))), ?_⟩
  refine ⟨_, rfl, pb, _, rfl, SqT.of hb, rfl, _, _, rfl, _, _, rfl, _, _, rfl, _, _, rfl, rfl, ?_⟩
  -- the middle one, and all together
  have fin : ∀ (H1 : Hp) (p : Addr) (cs : List Addr) (bs : List Bx), Same H H1 → H1 p = some (.lst (cs.map V.ref)) → At BoxR H1 cs bs → bs.length = 4 → Parts (l, lo, r, hi) (bs ++ [(x0, y0, x1, y1)]) →
      tRet (tOp rCat (tVar 8) (tLst (tCons (tTup (tCons (tOp (rIxT K) (tVar 1) (tC (.int 0))) (tCons (tOp (rIxT K) (tVar 2) (tC (.int 0))) (tCons (tOp (rIxT K) (tVar 1) (tC (.int 1))) (tCons (tOp (rIxT K) (tVar 2) (tC (.int 1))) tNil))))) tNil)))
      { nx := fun _ H' => Q .non H', rt := Q } [some (.ref pb), some (.ref px), some (.ref py), some (.int way), some (.int l), some (.int lo), some (.int r), some (.int hi), some (.ref p)] H1 := by
    intro H1 p cs bs s1 hp hA h4 hk
    refine ⟨_, rfl, _, rfl, px, _, _, _, rfl, rfl, SqT.of (s1 _ _ hx), at0, _, rfl, py, _, _, _, rfl, rfl, SqT.of (s1 _ _ hy), at0, _, rfl, px, _, _, _, rfl, rfl, SqT.of (s1 _ _ hx), at1, _, rfl, py, _, _, _, rfl, rfl, SqT.of (s1 _ _ hy), at1, by show 4 ≤ sizeLine; decide, fun c hc => ?_⟩
    have s2 := same_new hc (.tup [.int x0, .int y0, .int x1, .int y1])
    have f2 : BoxR (upd H1 c (.tup [.int x0, .int y0, .int x1, .int y1])) c (x0, y0, x1, y1) := upd_same
    (try dsimp only)
    generalize upd H1 c (.tup [.int x0, .int y0, .int x1, .int y1]) = H2 at s2 f2
    refine ⟨by show 1 ≤ sizeLine; decide, fun c2 hc2 => ?_⟩
    have s3 := same_new hc2 (.lst [.ref c])
    have f3 : (upd H2 c2 (.lst [.ref c])) c2 = some (.lst [.ref c]) := upd_same
    try dsimp only
    generalize upd H2 c2 (.lst [.ref c]) = H3 at s3 f3
    have s23 := s2.trans s3
    have lc : cs.length = 4 := by rw [hA.1]; exact h4
    refine ⟨p, c2, _, _, rfl, rfl, s23 _ _ hp, f3, by rw [List.length_map]; exact szle (by simp; omega), fun c4 hc4 => ?_⟩
    have s4 := same_new hc4 (.lst (cs.map V.ref ++ [.ref c]))
    refine q c4 _ (bs ++ [(x0, y0, x1, y1)]) (s1.trans (s23.trans s4)) ⟨cs ++ [c], by rw [upd_same]; simp, ((hA.keep mo_bxR s23).snoc (s3 _ _ f2)).keep mo_bxR s4⟩ (by simp [h4]) (by simp [h4]) hk
  refine ⟨_, rfl, rfl, _, rfl, ?_⟩
  refine ite2 (fun _ => ?_) (fun _ => ?_)
  · refine ⟨_, rfl, _, rfl, _, rfl, px, _, _, _, rfl, rfl, SqT.of hx, at1, _, rfl, py, _, _, _, rfl, rfl, SqT.of hy, at0, by show 4 ≤ sizeLine; decide, fun c1 hc1 => ?_⟩
    have s1 := same_new hc1 (.tup [.int l, .int lo, .int x1, .int y0])
    have g1 : BoxR (upd H c1 (.tup [.int l, .int lo, .int x1, .int y0])) c1 (l, lo, x1, y0) := upd_same
    (try dsimp only)
    generalize upd H c1 (.tup [.int l, .int lo, .int x1, .int y0]) = H1 at s1 g1
    refine ⟨_, rfl, px, _, _, _, rfl, rfl, SqT.of (s1 _ _ hx), at1, _, rfl, _, rfl, _, rfl, py, _, _, _, rfl, rfl, SqT.of (s1 _ _ hy), at1, by show 4 ≤ sizeLine; decide, fun c2 hc2 => ?_⟩
    have s2 := same_new hc2 (.tup [.int x1, .int lo, .int r, .int y1])
    have g2 : BoxR (upd H1 c2 (.tup [.int x1, .int lo, .int r, .int y1])) c2 (x1, lo, r, y1) := upd_same
    (try dsimp only)
    generalize upd H1 c2 (.tup [.int x1, .int lo, .int r, .int y1]) = H2 at s2 g2
    have s12 := s1.trans s2
    refine ⟨_, rfl, px, _, _, _, rfl, rfl, SqT.of (s12 _ _ hx), at0, _, rfl, py, _, _, _, rfl, rfl, SqT.of (s12 _ _ hy), at1, _, rfl, _, rfl, by show 4 ≤ sizeLine; decide, fun c3 hc3 => ?_⟩
    have s3 := same_new hc3 (.tup [.int x0, .int y1, .int r, .int hi])
    have g3 : BoxR (upd H2 c3 (.tup [.int x0, .int y1, .int r, .int hi])) c3 (x0, y1, r, hi) := upd_same
    (try dsimp only)
    generalize upd H2 c3 (.tup [.int x0, .int y1, .int r, .int hi]) = H3 at s3 g3
    have s13 := s12.trans s3
    refine ⟨_, rfl, _, rfl, py, _, _, _, rfl, rfl, SqT.of (s13 _ _ hy), at0, _, rfl, px, _, _, _, rfl, rfl, SqT.of (s13 _ _ hx), at0, _, rfl, by show 4 ≤ sizeLine; decide, fun c4 hc4 => ?_⟩
    have s4 := same_new hc4 (.tup [.int l, .int y0, .int x0, .int hi])
    have g4 : BoxR (upd H3 c4 (.tup [.int l, .int y0, .int x0, .int hi])) c4 (l, y0, x0, hi) := upd_same
    (try dsimp only)
    generalize upd H3 c4 (.tup [.int l, .int y0, .int x0, .int hi]) = H4 at s4 g4
    refine ⟨by show 4 ≤ sizeLine; decide, fun c5 hc5 => ?_⟩
    have s5 := same_new hc5 (.lst [.ref c1, .ref c2, .ref c3, .ref c4])
    have g5 : (upd H4 c5 (.lst [.ref c1, .ref c2, .ref c3, .ref c4])) c5 = some (.lst [.ref c1, .ref c2, .ref c3, .ref c4]) := upd_same
    try dsimp only
    generalize upd H4 c5 (.lst [.ref c1, .ref c2, .ref c3, .ref c4]) = H5 at s5 g5
    have A : At BoxR H5 [c1, c2, c3, c4] [(l, lo, x1, y0), (x1, lo, r, y1), (x0, y1, r, hi), (l, y0, x0, hi)] :=
      (((At.nil.snoc (R := BoxR) (b := c1) (x := (l, lo, x1, y0)) ((s2.trans (s3.trans (s4.trans s5))) _ _ g1)).snoc (b := c2) (x := (x1, lo, r, y1)) ((s3.trans (s4.trans s5)) _ _ g2)).snoc (b := c3) (x := (x0, y1, r, hi)) ((s4.trans s5) _ _ g3)).snoc (b := c4) (x := (l, y0, x0, hi)) (s5 _ _ g4)
    refine fin H5 c5 [c1, c2, c3, c4] _ (s13.trans (s4.trans s5)) g5 A rfl (cut_5 (b := (l, lo, r, hi)) i1 i2 i3 i4 i5 i6)
  · refine ⟨_, rfl, px, _, _, _, rfl, rfl, SqT.of hx, at0, _, rfl, _, rfl, _, rfl, py, _, _, _, rfl, rfl, SqT.of hy, at0, by show 4 ≤ sizeLine; decide, fun c1 hc1 => ?_⟩
    have s1 := same_new hc1 (.tup [.int x0, .int lo, .int r, .int y0])
    have g1 : BoxR (upd H c1 (.tup [.int x0, .int lo, .int r, .int y0])) c1 (x0, lo, r, y0) := upd_same
    (try dsimp only)
    generalize upd H c1 (.tup [.int x0, .int lo, .int r, .int y0]) = H1 at s1 g1
    refine ⟨_, rfl, px, _, _, _, rfl, rfl, SqT.of (s1 _ _ hx), at1, _, rfl, py, _, _, _, rfl, rfl, SqT.of (s1 _ _ hy), at0, _, rfl, _, rfl, by show 4 ≤ sizeLine; decide, fun c2 hc2 => ?_⟩
    have s2 := same_new hc2 (.tup [.int x1, .int y0, .int r, .int hi])
    have g2 : BoxR (upd H1 c2 (.tup [.int x1, .int y0, .int r, .int hi])) c2 (x1, y0, r, hi) := upd_same
    (try dsimp only)
    generalize upd H1 c2 (.tup [.int x1, .int y0, .int r, .int hi]) = H2 at s2 g2
    have s12 := s1.trans s2
    refine ⟨_, rfl, _, rfl, py, _, _, _, rfl, rfl, SqT.of (s12 _ _ hy), at1, _, rfl, px, _, _, _, rfl, rfl, SqT.of (s12 _ _ hx), at1, _, rfl, by show 4 ≤ sizeLine; decide, fun c3 hc3 => ?_⟩
    have s3 := same_new hc3 (.tup [.int l, .int y1, .int x1, .int hi])
    have g3 : BoxR (upd H2 c3 (.tup [.int l, .int y1, .int x1, .int hi])) c3 (l, y1, x1, hi) := upd_same
    (try dsimp only)
    generalize upd H2 c3 (.tup [.int l, .int y1, .int x1, .int hi]) = H3 at s3 g3
    have s13 := s12.trans s3
    refine ⟨_, rfl, _, rfl, _, rfl, px, _, _, _, rfl, rfl, SqT.of (s13 _ _ hx), at0, _, rfl, py, _, _, _, rfl, rfl, SqT.of (s13 _ _ hy), at1, by show 4 ≤ sizeLine; decide, fun c4 hc4 => ?_⟩
    have s4 := same_new hc4 (.tup [.int l, .int lo, .int x0, .int y1])
    have g4 : BoxR (upd H3 c4 (.tup [.int l, .int lo, .int x0, .int y1])) c4 (l, lo, x0, y1) := upd_same
    (try dsimp only)
    generalize upd H3 c4 (.tup [.int l, .int lo, .int x0, .int y1]) = H4 at s4 g4
    refine ⟨by show 4 ≤ sizeLine; decide, fun c5 hc5 => ?_⟩
    have s5 := same_new hc5 (.lst [.ref c1, .ref c2, .ref c3, .ref c4])
    have g5 : (upd H4 c5 (.lst [.ref c1, .ref c2, .ref c3, .ref c4])) c5 = some (.lst [.ref c1, .ref c2, .ref c3, .ref c4]) := upd_same
    try dsimp only
    generalize upd H4 c5 (.lst [.ref c1, .ref c2, .ref c3, .ref c4]) = H5 at s5 g5
    have A : At BoxR H5 [c1, c2, c3, c4] [(x0, lo, r, y0), (x1, y0, r, hi), (l, y1, x1, hi), (l, lo, x0, y1)] :=
      (((At.nil.snoc (R := BoxR) (b := c1) (x := (x0, lo, r, y0)) ((s2.trans (s3.trans (s4.trans s5))) _ _ g1)).snoc (b := c2) (x := (x1, y0, r, hi)) ((s3.trans (s4.trans s5)) _ _ g2)).snoc (b := c3) (x := (l, y1, x1, hi)) ((s4.trans s5) _ _ g3)).snoc (b := c4) (x := (l, lo, x0, y1)) (s5 _ _ g4)
    refine fin H5 c5 [c1, c2, c3, c4] _ (s13.trans (s4.trans s5)) g5 A rfl (cut_5' (b := (l, lo, r, hi)) i1 i2 i3 i4 i5 i6)
inductive SpBrokenR (vs : List V) (H : Hp) (Q : VK) : Prop
  | mk (pb : Addr) (b : Bx) (c : Int) (h_0 : vs = [.ref pb, .int c]) (h_1 : BoxR H pb b) (h_2 : b.l < b.r) (h_3 : b.d < b.u) (h_4 : PtQ H Q b 1 5) : SpBrokenR vs H Q
noncomputable def spBroken : Sp := fun vs H Q _ => SpBrokenR vs H Q
theorem scBk : FnScope ["_law_box", "_law_cell", "_law_left", "_law_low", "_law_right", "_law_high", "_law_how", "_law_x", "_law_y"] ["_law_box", "_law_cell"] (defScope s_law_broken) := ⟨rfl, rfl, rfl, by decide +kernel, rfl, by decide +kernel, by decide +kernel⟩
set_option maxHeartbeats 4000000 in
theorem ok_broken (F : Fun K "_law_broken" "_law_broken" s_law_broken f fd) (G1 : FnOk P w K mg base CX0 1 f1 d1 ["_law_low", "_law_high", "_law_cell"] spTwo) (b1 : Binds K d1 ["_law_low", "_law_high", "_law_cell"] []) (k1 : PySem.W.keepIn K (.ref f1) = true) (m1 : mg "_law_two" = some (.ref f1))
    (G2 : FnOk P w K mg base CX0 1 f2 d2 ["_law_box", "_law_x", "_law_y", "_law_way"] spWheel) (b2 : Binds K d2 ["_law_box", "_law_x", "_law_y", "_law_way"] []) (k2 : PySem.W.keepIn K (.ref f2) = true) (m2 : mg "_law_wheel" = some (.ref f2)) :
    FnOk P w K mg base CX0 2 f fd ["_law_box", "_law_cell"] spBroken := by
  refine F.ok scBk (fun vs H Q E h => ?_) (fun cdv A outer s H vs Q E hr h => ?_)
  · obtain ⟨pb, b, c, rfl, _⟩ := h
    rfl
  obtain ⟨pb, ⟨l, lo, r, hi⟩, c, rfl, hb, t1, t2, q⟩ := h
  dsimp only [Box.l, Box.d, Box.r, Box.u] at t1 t2
  refine ⟨_, pss_cons (ps_asg (pv 0) (pgTup (n := 4) (K := K) rfl (pgs_cons (pg_name (i := 2) scBk.nd rfl (Or.inl rfl)) (pgs_cons (pg_name (i := 3) scBk.nd rfl (Or.inl rfl)) (pgs_cons (pg_name (i := 4) scBk.nd rfl (Or.inl rfl)) (pgs_cons (pg_name (i := 5) scBk.nd rfl (Or.inl rfl)) pgs_nil))))))
    (pss_cons (ps_set (i := 6) scBk.nd rfl (Or.inl rfl) (pe_op op_mod (pv 1) pe_int))
    (pss_cons (ps_set (i := 1) scBk.nd rfl (Or.inl rfl) (pe_op op_fdiv (pv 1) pe_int))
    (pss_cons (ps_if (PW.pt (pw_and (pt_cmpR op_eq (pv 6) pe_int (nomark _)) (pw_and (pt_cmpR op_gt (pe_op op_sub (pv 4) (pv 2)) pe_int (nomark _)) (pw_and1 (pt_cmpR op_gt (pe_op op_sub (pv 5) (pv 3)) pe_int (nomark _))))))
      (pss_cons (ps_set (i := 7) scBk.nd rfl (Or.inl rfl) (pe_call G1 hr (by rfl) m1 k1 b1 .nil pass0 (pa_cons (pv 2) (pa_cons (pv 4) (pa_cons (pe_op op_fdiv (pv 1) pe_int) pa_nil)))))
      (pss_cons (ps_set (i := 8) scBk.nd rfl (Or.inl rfl) (pe_call G1 hr (by rfl) m1 k1 b1 .nil pass0 (pa_cons (pv 3) (pa_cons (pv 5) (pa_cons (pe_op op_fdiv (pv 1) pe_int) pa_nil)))))
      (pss_one (ps_ret (pe_call G2 hr (by rfl) m2 k2 b2 .nil pass0 (pa_cons (pv 0) (pa_cons (pv 7) (pa_cons (pv 8) (pa_cons (pe_op op_mod (pv 1) pe_int) pa_nil))))))))) pss_nil)
    (pss_cons (ps_if (PW.pt (pw_and (pt_cmpR op_eq (pe_op op_mod (pv 6) pe_int) pe_int (nomark _)) (pw_and1 (pt_cmpR op_gt (pe_op op_sub (pv 4) (pv 2)) pe_int (nomark _)))))
      (pss_cons (ps_set (i := 7) scBk.nd rfl (Or.inl rfl) (pe_op op_add (pe_op op_add (pv 2) pe_int) (pe_op op_mod (pv 1) (pe_op op_sub (pe_op op_sub (pv 4) (pv 2)) pe_int))))
      (pss_one (ps_ret (pe_lst (pa_cons (pe_tup (pa_cons (pv 2) (pa_cons (pv 3) (pa_cons (pv 7) (pa_cons (pv 5) pa_nil))))) (pa_cons (pe_tup (pa_cons (pv 7) (pa_cons (pv 3) (pa_cons (pv 4) (pa_cons (pv 5) pa_nil))))) pa_nil)))))) pss_nil)
    (pss_cons (ps_if (pt_cmpR op_gt (pe_op op_sub (pv 5) (pv 3)) pe_int (nomark _))
      (pss_cons (ps_set (i := 8) scBk.nd rfl (Or.inl rfl) (pe_op op_add (pe_op op_add (pv 3) pe_int) (pe_op op_mod (pv 1) (pe_op op_sub (pe_op op_sub (pv 5) (pv 3)) pe_int))))
      (pss_one (ps_ret (pe_lst (pa_cons (pe_tup (pa_cons (pv 2) (pa_cons (pv 3) (pa_cons (pv 4) (pa_cons (pv 8) pa_nil))))) (pa_cons (pe_tup (pa_cons (pv 2) (pa_cons (pv 8) (pa_cons (pv 4) (pa_cons (pv 5) pa_nil))))) pa_nil)))))) pss_nil)
    (pss_one (ps_ret (pe_lst (pa_cons (pv 0) pa_nil))))))))), ?_⟩
  refine ⟨_, rfl, pb, _, rfl, SqT.of hb, rfl, _, _, rfl, _, _, rfl, _, _, rfl, _, _, rfl, rfl, ?_⟩
  refine ⟨_, rfl, _, _, rfl, rfl, (show (0 : Int) < 5 by decide), _, rfl, _, _, rfl, rfl, ⟨by decide, by decide⟩, ?_⟩
  -- two boxes
  have fin2 : ∀ (a1 b1 c1 d1 a2 b2 c2 d2 : Int), Parts (l, lo, r, hi) [(a1, b1, c1, d1), (a2, b2, c2, d2)] → ∀ p, H p = none → ∀ p2, (upd H p (.tup [.int a1, .int b1, .int c1, .int d1])) p2 = none → ∀ p3, (upd (upd H p (.tup [.int a1, .int b1, .int c1, .int d1])) p2 (.tup [.int a2, .int b2, .int c2, .int d2])) p3 = none →
      Q (.ref p3) (upd (upd (upd H p (.tup [.int a1, .int b1, .int c1, .int d1])) p2 (.tup [.int a2, .int b2, .int c2, .int d2])) p3 (.lst [.ref p, .ref p2])) := by
    intro a1 b1 c1 d1 a2 b2 c2 d2 pt p hp p2 hp2 p3 hp3
    obtain ⟨H1, e1, s1, g1⟩ := new_box hp a1 b1 c1 d1
    rw [e1] at hp2 hp3 ⊢
    obtain ⟨H2, e2, s2, g2⟩ := new_box hp2 a2 b2 c2 d2
    rw [e2] at hp3 ⊢
    have s3 := same_new hp3 (.lst [.ref p, .ref p2])
    refine q p3 _ [(a1, b1, c1, d1), (a2, b2, c2, d2)] (s1.trans (s2.trans s3)) ⟨[p, p2], upd_same, (At.nil.snoc (R := BoxR) (b := p) (x := (a1, b1, c1, d1)) ((s2.trans s3) _ _ g1)).snoc (b := p2) (x := (a2, b2, c2, d2)) (s3 _ _ g2)⟩ (by simp) (by simp) pt
  refine ⟨_, rfl, rfl, _, rfl, ?_⟩
  apply joinP
  case m =>
    intro rest
    refine ite2 (fun _ => ⟨_, rfl, _, rfl, _, _, rfl, rfl, _, _, rfl, rfl, _, rfl, ?_⟩) (fun _ => rest)
    by_cases h2 : (2 : Int) < r - l
    · refine iteDT h2 ⟨_, rfl, _, rfl, _, _, rfl, rfl, _, _, rfl, rfl, _, rfl, ?_⟩
      by_cases h3 : (2 : Int) < hi - lo
      · refine iteDT h3 ?_
        refine ⟨_, rfl, _, rfl, _, rfl, _, _, rfl, rfl, ⟨by decide, by decide⟩, l, r, _, rfl, by omega, fun x0 x1 q1 q2 q3 px hpx => ?_⟩
        have s1 := same_new hpx (.tup [.int x0, .int x1])
        have g1 : (upd H px (.tup [.int x0, .int x1])) px = some (.tup [.int x0, .int x1]) := upd_same
        generalize upd H px (.tup [.int x0, .int x1]) = H1 at s1 g1
        refine ⟨_, rfl, _, rfl, _, rfl, _, _, rfl, rfl, ⟨by decide, by decide⟩, lo, hi, _, rfl, by omega, fun y0 y1 q4 q5 q6 py hpy => ?_⟩
        have s2 := same_new hpy (.tup [.int y0, .int y1])
        have g2 : (upd H1 py (.tup [.int y0, .int y1])) py = some (.tup [.int y0, .int y1]) := upd_same
        generalize upd H1 py (.tup [.int y0, .int y1]) = H2 at s2 g2
        exact ⟨_, rfl, _, rfl, _, rfl, _, rfl, _, _, rfl, rfl, (show (0 : Int) < 2 by decide), pb, px, py, (l, lo, r, hi), x0, x1, y0, y1, _, rfl, mo_bxR (s1.trans s2) hb, s2 _ _ g1, g2, ⟨q1, q2, q3, q4, q5, q6⟩, fun p H' bs s3 hL n1 n2 hk => q p H' bs ((s1.trans s2).trans s3) hL (by omega) n2 hk⟩
      · exact iteDF h3 rest
    · exact iteDF h2 rest
  case r =>
    refine ⟨_, rfl, _, _, rfl, rfl, (show (0 : Int) < 2 by decide), rfl, _, rfl, ?_⟩
    apply joinP
    case m =>
      intro rest
      refine ite2 (fun _ => ⟨_, rfl, _, rfl, _, _, rfl, rfl, _, _, rfl, rfl, _, rfl, ?_⟩) (fun _ => rest)
      by_cases h2 : (1 : Int) < r - l
      · refine iteDT h2 ?_
        have h1 : (0 : Int) < r - l - 1 := by omega
        have a0 := Int.emod_nonneg (c / 5) (Int.ne_of_gt h1)
        have a1 := Int.emod_lt_of_pos (c / 5) h1
        refine ⟨_, rfl, _, _, rfl, rfl, _, rfl, _, rfl, _, rfl, _, _, rfl, rfl, _, _, rfl, rfl, _, _, rfl, rfl, h1, _, _, rfl, rfl, ?_⟩
        (try dsimp only)
        generalize hx : l + 1 + c / 5 % (r - l - 1) = x
        refine ⟨_, rfl, _, rfl, _, rfl, _, rfl, by show 4 ≤ sizeLine; decide, fun p hp => ⟨_, rfl, _, rfl, _, rfl, _, rfl, by show 4 ≤ sizeLine; decide, fun p2 hp2 => ⟨by show 2 ≤ sizeLine; decide, fun p3 hp3 => ?_⟩⟩⟩
        exact fin2 l lo x hi x lo r hi (cut_x (b := (l, lo, r, hi)) (by show l < x; omega) (by show x < r; omega) t2) p hp p2 hp2 p3 hp3
      · exact iteDF h2 rest
    case r =>
      refine ⟨_, rfl, _, rfl, _, _, rfl, rfl, _, _, rfl, rfl, _, rfl, ?_⟩
      by_cases h2 : (1 : Int) < hi - lo
      · refine iteDT h2 ?_
        have h1 : (0 : Int) < hi - lo - 1 := by omega
        have a0 := Int.emod_nonneg (c / 5) (Int.ne_of_gt h1)
        have a1 := Int.emod_lt_of_pos (c / 5) h1
        refine ⟨_, rfl, _, _, rfl, rfl, _, rfl, _, rfl, _, rfl, _, _, rfl, rfl, _, _, rfl, rfl, _, _, rfl, rfl, h1, _, _, rfl, rfl, ?_⟩
        (try dsimp only)
        generalize hy : lo + 1 + c / 5 % (hi - lo - 1) = y
        refine ⟨_, rfl, _, rfl, _, rfl, _, rfl, by show 4 ≤ sizeLine; decide, fun p hp => ⟨_, rfl, _, rfl, _, rfl, _, rfl, by show 4 ≤ sizeLine; decide, fun p2 hp2 => ⟨by show 2 ≤ sizeLine; decide, fun p3 hp3 => ?_⟩⟩⟩
        exact fin2 l lo r y l y r hi (cut_y (b := (l, lo, r, hi)) (by show lo < y; omega) (by show y < hi; omega) t1) p hp p2 hp2 p3 hp3
      · refine iteDF h2 ⟨_, rfl, by show 1 ≤ sizeLine; decide, fun p hp => ?_⟩
        have s1 := same_new hp (.lst [.ref pb])
        refine q p _ [(l, lo, r, hi)] s1 ⟨[pb], upd_same, At.nil.snoc (R := BoxR) (b := pb) (x := (l, lo, r, hi)) (s1 _ _ hb)⟩ (by simp) (by simp) (parts_one t1 t2)
end
end My
namespace My
open PySem PySem.Spec PyProof.Rows L2 Mth Wd Fl
noncomputable def PcR (H : Hp) (b : Addr) (p : Pc) : Prop := H b = some (.tup [.int p.1, .int p.2.1, .int p.2.2])
theorem mo_pc : Mo PcR := fun s h => s _ _ h
theorem atLst {xs : List V} {q : V} : atI (xs ++ [q]) (-1) = some q := by
  unfold atI ixN
  rw [if_neg (by decide), if_pos (by simp; omega)]
  have e : (-1 + (((xs ++ [q]).length : Nat) : Int)).toNat = xs.length := by simp; omega
  show (xs ++ [q])[(-1 + (((xs ++ [q]).length : Nat) : Int)).toNat]? = some q
  rw [e]
  simp
theorem ixLst {xs : List V} {q : V} : ixN (xs ++ [q]).length (-1) = some xs.length := by
  unfold ixN
  rw [if_neg (by decide), if_pos (by simp; omega)]
  congr 1
  simp; omega
theorem pc_upd {H H' : Hp} {l : Addr} {ys : List V} {cs : List Addr} {ps : List Pc} (hl : H l = some (.lst ys)) (sb : SameB l H H') (h : At PcR H cs ps) : At PcR H' cs ps :=
  ⟨h.1, fun i b x e1 e2 => by
    have g := h.2 i b x e1 e2
    unfold PcR at g ⊢
    exact sb _ _ (fun z => by rw [z, hl] at g; cases g) g⟩
theorem bx_upd {H H' : Hp} {l : Addr} {ys : List V} {cs : List Addr} {bs : List Bx} (hl : H l = some (.lst ys)) (sb : SameB l H H') (h : At BoxR H cs bs) : At BoxR H' cs bs :=
  ⟨h.1, fun i b x e1 e2 => by
    have g := h.2 i b x e1 e2
    unfold BoxR at g ⊢
    exact sb _ _ (fun z => by rw [z, hl] at g; cases g) g⟩
noncomputable def pcD (p : Pc) : PyData := .tuple [.int p.1, .int p.2.1, .int p.2.2]
theorem rd_pc {H : Hp} {b : Addr} {p : Pc} (h : PcR H b p) : RdD H (.ref b) (pcD p) := by
  refine .tup h rfl fun i v d e1 e2 => ?_
  match i with
  | 0 => obtain rfl := Option.some.inj e1; obtain rfl := Option.some.inj e2; exact .int _
  | 1 => obtain rfl := Option.some.inj e1; obtain rfl := Option.some.inj e2; exact .int _
  | 2 => obtain rfl := Option.some.inj e1; obtain rfl := Option.some.inj e2; exact .int _
  | i + 3 => simp at e1
theorem shp_pc (p : Pc) : Shp 1 (pcD p) := .tup fun d hd => by
  simp only [List.mem_cons, List.not_mem_nil, or_false] at hd
  rcases hd with rfl | rfl | rfl <;> exact .int _
theorem ls_pc {H : Hp} {l : Addr} {cs : List Addr} {ps : List Pc} (hl : H l = some (.lst (cs.map V.ref))) (h : At PcR H cs ps) : LsD H l (ps.map pcD) := by
  refine ⟨_, hl, by rw [List.length_map, List.length_map, h.1], fun i x d e1 e2 => ?_⟩
  rw [List.getElem?_map] at e1 e2
  obtain ⟨b, hb, rfl⟩ := Option.map_eq_some_iff.mp e1
  obtain ⟨r, hr, rfl⟩ := Option.map_eq_some_iff.mp e2
  exact rd_pc (h.2 i b r hb hr)
theorem shp_pcs (ps : List Pc) : ∀ d ∈ ps.map pcD, Shp 1 d := fun d hd => by
  obtain ⟨p, _, rfl⟩ := List.mem_map.mp hd
  exact shp_pc p
theorem eqv_pc (p q : Pc) : PyData.eqv (pcD p) (pcD q) = decide (p = q) := by
  obtain ⟨a, b, c⟩ := p
  obtain ⟨d, e, f⟩ := q
  rw [Bool.eq_iff_iff]
  simp [pcD, PyData.eqv, PyData.eqvAll]
theorem eqv_pcs : ∀ ps qs : List Pc, PyData.eqv (.list (ps.map pcD)) (.list (qs.map pcD)) = decide (ps = qs)
  | [], [] => by simp [PyData.eqv, PyData.eqvAll]
  | [], q :: qs => by simp [PyData.eqv, PyData.eqvAll]
  | p :: ps, [] => by simp [PyData.eqv, PyData.eqvAll]
  | p :: ps, q :: qs => by
    have ih := eqv_pcs ps qs
    have e := eqv_pc p q
    have st : PyData.eqv (.list ((p :: ps).map pcD)) (.list ((q :: qs).map pcD)) = (PyData.eqv (pcD p) (pcD q) && PyData.eqv (.list (ps.map pcD)) (.list (qs.map pcD))) := by
      simp only [List.map_cons, PyData.eqv, PyData.eqvAll]
    rw [st, e, ih, Bool.eq_iff_iff]
    simp
section
variable {P : Program} {w : World} {K : PySem.W.Frag} {mg : Str → Option Value} {base : Heap} {f g h f1 f2 f3 : Addr} {fd gd hd d1 d2 d3 : FuncData}
noncomputable def spRaw (K : PySem.W.Frag) : Sp := fun vs H Q _ => ∃ (a : Addr) (ns : List Int) (k : Int), vs = [.ref a, .int k] ∧ ScA K H a ns ∧ 0 ≤ k ∧ ∀ z, Q (.int z) H
theorem scRw : FnScope ["_law_script", "_law_k"] ["_law_script", "_law_k"] (defScope s_law_raw) := ⟨rfl, rfl, rfl, by decide +kernel, rfl, by decide +kernel, by decide +kernel⟩
theorem ok_raw (F : Fun K "_law_raw" "_law_raw" s_law_raw f fd) (ml : mg "len" = none) : FnOk P w K mg base CX0 1 f fd ["_law_script", "_law_k"] (spRaw K) := by
  refine F.ok scRw (fun vs H Q E h => ?_) (fun cdv A outer s H vs Q E hr h => ?_)
  · obtain ⟨a, ns, k, rfl, _⟩ := h
    rfl
  obtain ⟨a, ns, k, rfl, ⟨hS, hl⟩, h0, q⟩ := h
  refine ⟨_, pss_cons (ps_if (pt_cmpR op_lt (pv 1) (pe_callB (callLen (K := K)) (by rfl) ml bt_len (pa_cons (pv 0) pa_nil)) (nomark _)) (pss_one (ps_ret (pe_ix (ixL (K := K)) (pv 0) (pv 1) (fun _ _ => rfl)))) pss_nil) (pss_one (ps_ret pe_int)), ?_⟩
  refine ⟨_, rfl, _, rfl, a, _, rfl, .inl hS, _, _, rfl, rfl, _, rfl, ?_⟩
  by_cases hk : k < (((ns.map V.int).length : Nat) : Int)
  · refine iteDT hk ?_
    rw [List.length_map] at hk
    have hk' : k.toNat < ns.length := by omega
    have e : atI (ns.map V.int) ((k.toNat : Nat) : Int) = some (.int ns[k.toNat]) := atI_nat (by rw [List.getElem?_map, List.getElem?_eq_getElem hk']; rfl)
    rw [show ((k.toNat : Nat) : Int) = k by omega] at e
    exact ⟨_, rfl, _, rfl, a, _, _, _, rfl, rfl, hS, e, q _⟩
  · exact iteDF hk (q 0)
noncomputable def spLJ : Sp := fun vs H Q _ => ∃ (a : Addr) (ps : List Pc), vs = [.ref a] ∧ LstR PcR H a ps ∧ ps.length ≤ 1000 ∧ ∀ l H', H l = none → Same H H' → LstR PcR H' l (joinF ps) → Q (.ref l) H'
theorem scLJ : FnScope ["_law_pieces", "_law_border", "_law_piece"] ["_law_pieces"] (defScope s_law_joined) := ⟨rfl, rfl, rfl, by decide +kernel, rfl, by decide +kernel, by decide +kernel⟩
theorem ok_ljoin (F : Fun K "_law_joined" "_law_joined" s_law_joined f fd) : FnOk P w K mg base CX0 1 f fd ["_law_pieces"] spLJ := by
  refine F.ok scLJ (fun vs H Q E h => ?_) (fun cdv A outer s H vs Q E hr h => ?_)
  · obtain ⟨a, ps, rfl, _⟩ := h
    rfl
  obtain ⟨a, ps, rfl, ⟨cs, ha, hB⟩, hl, q⟩ := h
  refine ⟨_, pss_cons (ps_set (i := 1) scLJ.nd rfl (Or.inl rfl) (pe_lst pa_nil))
    (pss_cons (ps_for PassesOwn.never rfl (piLst (K := K) (pv 0)) (pg_name (i := 2) scLJ.nd rfl (Or.inl rfl))
      (pss_one (ps_if (PW.pt (pw_and (pt_cmpR (op_neLs hr.units) (pv 1) (pe_lst pa_nil) (nomark _)) (pw_and1 (pt_cmpR op_eq (pe_ix (ixT (K := K)) (pe_ix (ixL (K := K)) (pv 1) (pe_un un_neg pe_int) (fun _ _ => rfl)) pe_int (fun _ _ => rfl)) (pe_ix (ixT (K := K)) (pv 2) pe_int (fun _ _ => rfl)) (nomark _)))))
        (pss_one (ps_asg (pe_tup (pa_cons (pe_ix (ixT (K := K)) (pe_ix (ixL (K := K)) (pv 1) (pe_un un_neg pe_int) (fun _ _ => rfl)) pe_int (fun _ _ => rfl)) (pa_cons (pe_ix (ixT (K := K)) (pv 2) pe_int (fun _ _ => rfl)) (pa_cons (pe_ix (ixT (K := K)) (pv 2) pe_int (fun _ _ => rfl)) pa_nil)))) (pg_sub (pv 1) (pe_un un_neg pe_int) set_list)))
        (pss_one (ps_expr (pe_bmK K PySem.F.plainAttrs_list PySem.F.slot_list_append PySem.F.type_list_append mt_append (pv 1) (pa_cons (pv 2) pa_nil)))))))
    (pss_one (ps_ret (pv 1)))), ?_⟩
  refine ⟨by show 0 ≤ sizeLine; decide, fun L hL => ?_⟩
  obtain ⟨H1, z1, sL, eL⟩ := newL hL []
  rw [z1]
  refine ⟨_, rfl, a, rfl, ⟨_, SqL.of (sL _ _ ha)⟩, ?_⟩
  refine for_list (K := K) (xs := cs.map V.ref) (fun i σ H2 => ∃ u gs, σ = [some (.ref a), some (.ref L), u] ∧ Same H H2 ∧ H2 L = some (.lst (gs.map V.ref)) ∧ At PcR H2 gs (joinF (ps.take i))) ⟨none, [], rfl, sL, eL, At.nil⟩ (fun i σ H2 _ ⟨_, _, _, s2, _⟩ => SqL.of (s2 _ _ ha)) ?_ ?_
  · rintro i x σ H2 hx ⟨u, gs, rfl, s2, eL2, aG⟩
    obtain ⟨c, pc, rfl, hc, hy, hC⟩ := hB.ref hx
    have hi : i < ps.length := (List.getElem?_eq_some_iff.mp hy).1
    have ej : joinF (ps.take (i + 1)) = jnS (joinF (ps.take i)) pc := by
      show (ps.take (i + 1)).foldl jnS [] = jnS ((ps.take i).foldl jnS []) pc
      rw [take_succ_of hy, List.foldl_append]
      rfl
    have jl := join_len (ps.take i)
    rw [List.length_take] at jl
    have gl := aG.1
    have szg : (gs.map V.ref).length < sizeLine := by rw [List.length_map, gl, sizeLine_eq]; omega
    refine ⟨_, rfl, by show 0 ≤ sizeLine; decide, fun e0 he0 => ?_⟩
    obtain ⟨H3, z3, s3, e3⟩ := newL he0 []
    rw [z3]
    have hC3 : H3 c = some (.tup [.int pc.1, .int pc.2.1, .int pc.2.2]) := s3 _ _ (s2 _ _ hC)
    have eL3 := s3 _ _ eL2
    have aG3 := aG.keep mo_pc s3
    have s23 := s2.trans s3
    refine ⟨1, L, e0, _, _, by decide, rfl, rfl, ls_pc eL3 aG3, ls_pc (cs := []) e3 At.nil, shp_pcs _, shp_pcs _, _, rfl, ?_⟩
    dsimp only
    rw [eqv_pcs, if_neg Bool.false_ne_true]
    rcases snoc_cases (joinF (ps.take i)) with hz | ⟨a0, q0, hz⟩
    · rw [hz] at aG3 ej gl
      have : gs = [] := List.length_eq_zero_iff.mp gl
      subst this
      refine iteNS hz ?_
      refine ⟨_, rfl, .inl ⟨rfl, _, SqL.of eL3⟩, _, rfl, L, _, _, rfl, rfl, eL3, szg, ?_⟩
      have sb : SameB L H3 (upd H3 L (.lst (([] : List Addr).map V.ref ++ [.ref c]))) := SameB.one
      refine ⟨_, [c], rfl, sb.same s23 hL, by rw [upd_same]; rfl, ?_⟩
      rw [ej]
      exact pc_upd eL3 sb (At.nil.snoc hC3)
    · rw [hz] at aG3 ej gl
      rcases snoc_cases gs with rfl | ⟨g0, gq, rfl⟩
      · simp at gl
      have hq : PcR H3 gq q0 := aG3.2 a0.length gq q0 (by simp at gl; rw [List.getElem?_append_right (by omega), gl]; simp) (by simp)
      have a00 : At PcR H3 g0 a0 := ⟨by simpa using gl, fun j bb x e1 e2 => aG3.2 j bb x (by rw [List.getElem?_append_left (List.getElem?_eq_some_iff.mp e1).1]; exact e1) (by rw [List.getElem?_append_left (List.getElem?_eq_some_iff.mp e2).1]; exact e2)⟩
      have em : (g0 ++ [gq]).map V.ref = g0.map V.ref ++ [.ref gq] := by simp
      rw [em] at eL3 szg
      have hq' : H3 gq = some (.tup [.int q0.1, .int q0.2.1, .int q0.2.2]) := hq
      refine iteNN (by rw [hz]; simp) ?_
      refine ⟨_, rfl, _, rfl, L, _, _, _, rfl, rfl, SqL.of eL3, atLst, gq, _, _, _, rfl, rfl, SqT.of hq', t3_2 _ _ _, _, rfl, c, _, _, _, rfl, rfl, SqT.of hC3, t3_2 _ _ _, rfl, _, rfl, ?_⟩
      rw [jnS_snoc] at ej
      by_cases heq : q0.2.2 = pc.2.2
      · rw [if_pos heq] at ej
        refine iteDT (iv heq) ?_
        refine ⟨_, rfl, _, rfl, L, _, _, _, rfl, rfl, SqL.of eL3, atLst, gq, _, _, _, rfl, rfl, SqT.of hq', t3_0 _ _ _, _, rfl, c, _, _, _, rfl, rfl, SqT.of hC3, t3_1 _ _ _, _, rfl, c, _, _, _, rfl, rfl, SqT.of hC3, t3_2 _ _ _, by show 3 ≤ sizeLine; decide, fun np hnp => ?_⟩
        have s4 := same_new hnp (.tup [.int q0.1, .int pc.2.1, .int pc.2.2])
        have e4 : PcR (upd H3 np (.tup [.int q0.1, .int pc.2.1, .int pc.2.2])) np (q0.1, pc.2.1, pc.2.2) := upd_same
        generalize upd H3 np (.tup [.int q0.1, .int pc.2.1, .int pc.2.2]) = H4 at s4 e4
        refine ⟨_, rfl, _, rfl, L, _, _, _, rfl, rfl, s4 _ _ eL3, ixLst, ?_⟩
        rw [show (g0.map V.ref ++ [V.ref gq]).set (g0.map V.ref).length (.ref np) = g0.map V.ref ++ [.ref np] by simp]
        have sb : SameB L H4 (upd H4 L (.lst (g0.map V.ref ++ [.ref np]))) := SameB.one
        refine ⟨_, g0 ++ [np], rfl, sb.same (s23.trans s4) hL, by rw [upd_same]; simp, ?_⟩
        rw [ej]
        exact pc_upd (s4 _ _ eL3) sb ((a00.keep mo_pc s4).snoc e4)
      · rw [if_neg heq] at ej
        refine iteDF (ivn heq) ?_
        refine ⟨_, rfl, .inl ⟨rfl, _, SqL.of eL3⟩, _, rfl, L, _, _, rfl, rfl, eL3, szg, ?_⟩
        have sb : SameB L H3 (upd H3 L (.lst (g0.map V.ref ++ [.ref gq] ++ [.ref c]))) := SameB.one
        refine ⟨_, g0 ++ [gq] ++ [c], rfl, sb.same s23 hL, by rw [upd_same]; simp, ?_⟩
        rw [ej]
        exact pc_upd eL3 sb (aG3.snoc hC3)
  · rintro σ H2 ⟨u, gs, rfl, s2, eL2, aG⟩
    rw [List.length_map, hB.1, List.take_length] at aG
    exact ⟨_, rfl, q L H2 hL s2 ⟨gs, eL2, aG⟩⟩
end
end My
namespace My
open PySem PySem.Spec PyProof.Rows L2 Mth Wd Fl
section
variable {P : Program} {w : World} {K : PySem.W.Frag} {mg : Str → Option Value} {base : Heap} {f g h f1 f2 f3 : Addr} {fd gd hd d1 d2 d3 : FuncData}
theorem lev_comp {H1 : Hp} {p acc : Addr} {cs : List Addr} {ps : List Pc} (hp : H1 p = some (.lst (cs.map V.ref))) (hC : At PcR H1 cs ps) (n30 : ps.length ≤ 100) (hacc : H1 acc = none) {G : Hp → Prop}
    (fin : ∀ (H2 : Hp), Same H1 H2 → H2 acc = some (.lst ((ps.map fun p => p.2.2).map V.int)) → G H2) :
    ∃ W : Nat → Nat → List V → L2.St → Hp → Prop, (∃ m, W 0 m [] [none] (upd H1 acc (.lst []))) ∧ ∀ i m ys σc H2, W i m ys σc H2 →
      ((Itl K p).stop i H2 ∧ G H2) ∨ ((Itl K p).go i H2 ∧ ∀ x H3, (Itl K p).yld i H2 x H3 → gName 0 x σc H3 fun σ4 H4 => tOp (rIxT K) (tVar 0) (tC (.int 2)) σ4 H4 fun v H5 => H5 acc = some (.lst ys) ∧ ys.length < sizeLine ∧ ∃ m', m' < m ∧ W (i + 1) m' (ys ++ [v]) σ4 (upd H5 acc (.lst (ys ++ [v])))) := by
  have lc : cs.length = ps.length := hC.1
  refine comp_run (run_list hp) (by rw [List.length_map]; omega) hacc (fun i ys σ _ => ys = ((ps.take i).map fun p => p.2.2).map V.int ∧ ∃ u, σ = [u]) ⟨rfl, none, rfl⟩ ?_ ?_
  · rintro i ys σ H3 y H4 hi sm hacc2 ⟨hys, u, rfl⟩ ⟨rfl, hy⟩ Cc hCc
    obtain ⟨c, b, rfl, _, hb, fb⟩ := hC.ref hy
    have fb' : H4 c = some (.tup [.int b.1, .int b.2.1, .int b.2.2]) := sm _ _ fb
    refine ⟨_, rfl, c, _, _, _, rfl, rfl, SqT.of fb', t3_2 _ _ _, ?_⟩
    refine hCc _ _ _ (Same.refl _) ⟨?_, _, rfl⟩
    rw [hys, take_succ_of hb, List.map_append, List.map_append]; rfl
  rintro ys σ H3 s3 hac3 _ ⟨hys, _⟩
  rw [List.length_map, lc, List.take_length] at hys
  exact fin H3 s3 (by rw [hac3, hys])
theorem nz_levels (ps : List Pc) : (ps.map fun p => p.2.2).countP (fun y => decide (y = 0)) + nzP ps = ps.length := by
  unfold nzP
  rw [List.countP_map]
  induction ps with
  | nil => rfl
  | cons p ps ih =>
    rw [List.countP_cons, List.countP_cons, List.length_cons]
    simp only [Function.comp]
    by_cases z : p.2.2 = 0 <;> simp [z] <;> omega
theorem split_at {α : Type} {l : List α} {j : Nat} {x : α} (h : l[j]? = some x) : l = l.take j ++ x :: l.drop (j+1) := by
  obtain ⟨hj, ej⟩ := List.getElem?_eq_some_iff.mp h
  rw [← ej, ← List.drop_eq_getElem_cons hj]; exact (List.take_append_drop j l).symm
noncomputable def spHU (K : PySem.W.Frag) (mo : Nat) : Sp := fun vs H Q _ => ∃ (a : Addr) (ns : List Int), vs = [.ref a, .int (mo : Int)] ∧ ScA K H a ns ∧ 1 ≤ mo ∧ mo ≤ 20 ∧ ∀ (t p : Addr) (H' : Hp) (bs : List Bx) (W U : Int), Same H H' → H' t = some (.tup [.ref p, .int W, .int U]) → LstR BoxR H' p bs → bs.length ≤ mo → FlB W U bs → 0 < W → W ≤ 1000000 → 0 < U → U ≤ 1000000 → Q (.ref t) H'
theorem scHU : FnScope ["_law_script", "_law_most", "_law_wide", "_law_high", "_law_border", "_law_boxes", "_law_levels", "_law_at", "_law_left", "_law_right", "_law_level", "_law_size", "_law_deep", "_law_cell", "_law_rest"] ["_law_script", "_law_most"] (defScope s_law_hung_up) := ⟨rfl, rfl, rfl, by decide +kernel, rfl, by decide +kernel, by decide +kernel⟩
theorem ndPce : (["_law_piece"] : List Str).Nodup := by decide +kernel
set_option maxHeartbeats 8000000 in
seal L2.PSs L2.PS L2.PE L2.PA in
theorem ok_hung {mo : Nat} (F : Fun K "_law_hung_up" "_law_hung_up" s_law_hung_up f fd) (G1 : FnOk P w K mg base CX0 1 f1 d1 ["_law_script", "_law_k"] (spRaw K)) (b1 : Binds K d1 ["_law_script", "_law_k"] []) (k1 : PySem.W.keepIn K (.ref f1) = true) (m1 : mg "_law_raw" = some (.ref f1))
    (G2 : FnOk P w K mg base CX0 1 f2 d2 ["_law_pieces"] spLJ) (b2 : Binds K d2 ["_law_pieces"] []) (k2 : PySem.W.keepIn K (.ref f2) = true) (m2 : mg "_law_joined" = some (.ref f2)) (ml : mg "len" = none) (mx : mg "max" = none) (mi : mg "int" = none) : FnOk P w K mg base CX0 2 f fd ["_law_script", "_law_most"] (spHU K mo) := by
  refine F.ok scHU (fun vs H Q E h => ?_) (fun cdv A outer s H vs Q E hr h => ?_)
  · obtain ⟨a, ns, rfl, _⟩ := h
    rfl
  obtain ⟨a, ns, rfl, hS, mo1, mo2, q⟩ := h
  refine ⟨_, pss_cons (ps_set (i := 2) scHU.nd rfl (Or.inl rfl) (pe_op op_add pe_int (pe_op op_mod (pe_call G1 hr (by rfl) m1 k1 b1 .nil pass0 (pa_cons (pv 0) (pa_cons pe_int pa_nil))) pe_int)))
    (pss_cons (ps_set (i := 3) scHU.nd rfl (Or.inl rfl) (pe_op op_add pe_int (pe_op op_mod (pe_call G1 hr (by rfl) m1 k1 b1 .nil pass0 (pa_cons (pv 0) (pa_cons pe_int pa_nil))) pe_int)))
    (pss_cons (ps_set (i := 4) scHU.nd rfl (Or.inl rfl) (pe_lst (pa_cons (pe_tup (pa_cons pe_int (pa_cons (pv 2) (pa_cons (pv 3) pa_nil)))) pa_nil)))
    (pss_cons (ps_set (i := 5) scHU.nd rfl (Or.inl rfl) (pe_lst pa_nil))
    (pss_cons (ps_while PassesOwn.never (pt_cmpR (op_neLs hr.units) (pv 4) (pe_lst (pa_cons (pe_tup (pa_cons pe_int (pa_cons (pv 2) (pa_cons pe_int pa_nil)))) pa_nil)) (nomark _))
      (pss_cons (ps_setComp (i := 6) scHU.nd rfl (Or.inl rfl) (Nc := ["_law_piece"]) (cap := []) (g := gName 0) (te := tOp (rIxT K) (tVar 0) (tC (.int 2))) rfl (piLst (K := K) (pv 4)) (comp_mk rfl rfl (by decide +kernel) (by decide +kernel) (List.forall_mem_nil _) rfl (List.forall_mem_nil _)) (fun C fp pins s' H' => pg_name (i := 0) ndPce rfl (Or.inl rfl)) (fun C fp pins s' H' => pe_ix (ixT (K := K)) (pv 0) pe_int (fun _ _ => rfl)))
      (pss_cons (ps_set (i := 7) scHU.nd rfl (Or.inl rfl) (pe_bmK K PySem.F.plainAttrs_list PySem.F.slot_list_index PySem.F.type_list_index mt_index (pv 6) (pa_cons (pe_callB (call_maxL rfl) (by rfl) mx bt_max (pa_cons (pv 6) pa_nil)) pa_nil)))
      (pss_cons (ps_asg (pe_ix (ixL (K := K)) (pv 4) (pv 7) (fun _ _ => rfl)) (pgTup (n := 3) (K := K) rfl (pgs_cons (pg_name (i := 8) scHU.nd rfl (Or.inl rfl)) (pgs_cons (pg_name (i := 9) scHU.nd rfl (Or.inl rfl)) (pgs_cons (pg_name (i := 10) scHU.nd rfl (Or.inl rfl)) pgs_nil)))))
      (pss_cons (ps_set (i := 11) scHU.nd rfl (Or.inl rfl) (pe_op op_sub (pv 9) (pv 8)))
      (pss_cons (ps_set (i := 12) scHU.nd rfl (Or.inl rfl) (pv 10))
      (pss_cons (ps_if (PW.pt (pw_and (pt_cmpR op_lt (pe_op op_add pe_int (pe_callB (callLen (K := K)) (by rfl) ml bt_len (pa_cons (pv 5) pa_nil))) (pe_callB (callLen (K := K)) (by rfl) ml bt_len (pa_cons (pv 0) pa_nil)) (nomark _))
          (pw_and1 (pt_cmpR op_le (pe_op op_add (pe_op op_sub (pe_op op_add (pe_callB (callLen (K := K)) (by rfl) ml bt_len (pa_cons (pv 5) pa_nil)) (pe_callB (callLen (K := K)) (by rfl) ml bt_len (pa_cons (pv 4) pa_nil))) (pe_bmK K PySem.F.plainAttrs_list PySem.F.slot_list_count PySem.F.type_list_count mt_count (pv 6) (pa_cons pe_int pa_nil))) pe_int) (pv 1) (nomark _)))))
        (pss_cons (ps_set (i := 13) scHU.nd rfl (Or.inl rfl) (pe_op op_mod (pe_call G1 hr (by rfl) m1 k1 b1 .nil pass0 (pa_cons (pv 0) (pa_cons (pe_op op_add pe_int (pe_callB (callLen (K := K)) (by rfl) ml bt_len (pa_cons (pv 5) pa_nil))) pa_nil))) (pe_op op_pow pe_int pe_int)))
        (pss_cons (ps_set (i := 11) scHU.nd rfl (Or.inl rfl) (pe_op op_add pe_int (pe_op op_mod (pv 13) (pe_op op_sub (pv 9) (pv 8)))))
        (pss_one (ps_set (i := 12) scHU.nd rfl (Or.inl rfl) (pe_op op_add pe_int (pe_op op_mod (pe_op op_fdivB (pv 13) (pe_op op_sub (pv 9) (pv 8))) (pv 10))))))) pss_nil)
      (pss_cons (ps_expr (pe_bmK K PySem.F.plainAttrs_list PySem.F.slot_list_append PySem.F.type_list_append mt_append (pv 5) (pa_cons (pe_tup (pa_cons (pv 8) (pa_cons (pe_op op_sub (pv 10) (pv 12)) (pa_cons (pe_op op_add (pv 8) (pv 11)) (pa_cons (pv 10) pa_nil))))) pa_nil)))
      (pss_cons (ps_set (i := 14) scHU.nd rfl (Or.inl rfl) (pe_slice (slL (K := K)) (pe_lst (pa_cons (pe_tup (pa_cons (pv 8) (pa_cons (pe_op op_add (pv 8) (pv 11)) (pa_cons (pe_op op_sub (pv 10) (pv 12)) pa_nil)))) (pa_cons (pe_tup (pa_cons (pe_op op_add (pv 8) (pv 11)) (pa_cons (pv 9) (pa_cons (pv 10) pa_nil)))) pa_nil))) po_none (po_some (pe_op op_add pe_int (pe_callTy call_int1 (by rfl) mi bt_int (pa_cons (pe_cmpR op_lt (pe_op op_add (pv 8) (pv 11)) (pv 9) (nomark _)) pa_nil))))))
      (pss_one (ps_set (i := 4) scHU.nd rfl (Or.inl rfl) (pe_call G2 hr (by rfl) m2 k2 b2 .nil pass0 (pa_cons (pe_op op_cat (pe_op op_cat (pe_slice (slL (K := K)) (pv 4) po_none (po_some (pv 7))) (pv 14)) (pe_slice (slL (K := K)) (pv 4) (po_some (pe_op op_add (pv 7) pe_int)) po_none)) pa_nil)))))))))))))
    (pss_one (ps_ret (pe_tup (pa_cons (pv 5) (pa_cons (pv 2) (pa_cons (pv 3) pa_nil)))))))))), ?_⟩
  refine ⟨_, rfl, a, ns, 1, rfl, hS, by decide, fun z0 => ⟨_, _, rfl, rfl, (show (0 : Int) < 999983 by decide), _, _, rfl, rfl, ?_⟩⟩
  have w0 := Int.emod_nonneg z0 (show (999983 : Int) ≠ 0 by decide)
  have w1 := Int.emod_lt_of_pos z0 (show (0 : Int) < 999983 by decide)
  (try dsimp only)
  generalize hwd : 1 + z0 % 999983 = W
  refine name_go ?_
  refine ⟨_, rfl, a, ns, 2, rfl, hS, by decide, fun z1 => ⟨_, _, rfl, rfl, (show (0 : Int) < 999983 by decide), _, _, rfl, rfl, ?_⟩⟩
  have h0 := Int.emod_nonneg z1 (show (999983 : Int) ≠ 0 by decide)
  have h1 := Int.emod_lt_of_pos z1 (show (0 : Int) < 999983 by decide)
  (try dsimp only)
  generalize hhg : 1 + z1 % 999983 = U
  refine name_go ?_
  refine ⟨_, rfl, _, rfl, by show 3 ≤ sizeLine; decide, fun c0 hc0 => ?_⟩
  obtain ⟨H1, e1, s1, g1⟩ := new_tup hc0 [.int 0, .int W, .int U]
  rw [e1]
  refine ⟨by show 1 ≤ sizeLine; decide, fun L0 hL0 => ?_⟩
  obtain ⟨H2, e2, s2, g2⟩ := newL hL0 [.ref c0]
  rw [e2]
  refine ⟨by show 0 ≤ sizeLine; decide, fun lb hlb => ?_⟩
  obtain ⟨H3, e3, s3, g3⟩ := newL hlb []
  rw [e3]
  have s12 := s1.trans s2
  have hlb0 : H lb = none := by
    cases z : H lb with
    | none => rfl
    | some o => rw [s12 _ _ z] at hlb; cases hlb
  refine ⟨fun m σ H4 => ∃ (fn : Int → Int) (p : Addr) (cs ds : List Addr) (ps : List Pc) (bs : List Bx) (u6 u7 u8 u9 u10 u11 u12 u13 u14 : Option V), m = arS fn W.toNat ∧ σ = [some (.ref a), some (.int (mo : Int)), some (.int W), some (.int U), some (.ref p), some (.ref lb), u6, u7, u8, u9, u10, u11, u12, u13, u14] ∧ Same H H4 ∧ p ≠ lb ∧ H4 p = some (.lst (cs.map V.ref)) ∧ At PcR H4 cs ps ∧ H4 lb = some (.lst (ds.map V.ref)) ∧ At BoxR H4 ds bs ∧ Hg W U mo fn ps bs ∧ ps.length ≤ bs.length + 1,
    ⟨_, _, L0, [c0], [], [(0, W, U)], [], none, none, none, none, none, none, none, none, none, rfl, rfl, s12.trans s3, (fun z => by rw [z, hlb] at g2; cases g2), s3 _ _ g2, At.nil.snoc (R := PcR) (b := c0) (x := (0, W, U)) ((s2.trans s3) _ _ g1), g3, At.nil, Hg.first (by omega) (by omega) mo1, by simp⟩, ?_⟩
  rintro m σ H4 ⟨fn, p, cs, ds, ps, bs, u6, u7, u8, u9, u10, u11, u12, u13, u14, rfl, rfl, s4, pnl, hp, hC, hlb4, hD, kg, lps⟩
  have lc : cs.length = ps.length := hC.1
  have ld : ds.length = bs.length := hD.1
  have lbs : bs.length ≤ mo := by have := kg.num; omega
  refine ⟨_, rfl, _, rfl, by show 3 ≤ sizeLine; decide, fun c1 hc1 => ?_⟩
  obtain ⟨H5, e5, s5, g5⟩ := new_tup hc1 [.int 0, .int W, .int 0]
  rw [e5]
  refine ⟨by show 1 ≤ sizeLine; decide, fun L1 hL1 => ?_⟩
  obtain ⟨H6, e6, s6, g6⟩ := newL hL1 [.ref c1]
  rw [e6]
  have s56 := s5.trans s6
  refine ⟨1, p, L1, _, _, by decide, rfl, rfl, ls_pc (s56 _ _ hp) (hC.keep mo_pc s56), ls_pc (cs := [c1]) g6 (At.nil.snoc (R := PcR) (b := c1) (x := (0, W, 0)) (s6 _ _ g5)), shp_pcs _, shp_pcs _, _, rfl, ?_⟩
  (try dsimp only)
  rw [eqv_pcs, if_neg Bool.false_ne_true]
  have s46 := s4.trans s56
  replace hp := s56 _ _ hp
  replace hC := hC.keep mo_pc s56
  replace hlb4 := s56 _ _ hlb4
  replace hD := hD.keep mo_bxR s56
  clear g5 g6 hc1 hL1 s5 s6 s56 e5 e6
  by_cases hend : ps = [(0, W, 0)]
  · refine iteNS hend ?_
    subst hend
    obtain ⟨fl, ln⟩ := kg.done
    refine ⟨_, rfl, _, rfl, _, rfl, by show 3 ≤ sizeLine; decide, fun t ht => ?_⟩
    have s7 := same_new ht (.tup [.ref lb, .int W, .int U])
    exact q t lb _ bs W U (s46.trans s7) upd_same ⟨ds, s7 _ _ hlb4, hD.keep mo_bxR s7⟩ ln fl (by omega) (by omega) (by omega) (by omega)
  refine iteNN hend ?_
  refine ⟨fun σ' H' => ∃ (fn' : Int → Int) (p : Addr) (cs ds : List Addr) (ps : List Pc) (bs : List Bx) (u6 u7 u8 u9 u10 u11 u12 u13 u14 : Option V), arS fn' W.toNat < arS fn W.toNat ∧ σ' = [some (.ref a), some (.int (mo : Int)), some (.int W), some (.int U), some (.ref p), some (.ref lb), u6, u7, u8, u9, u10, u11, u12, u13, u14] ∧ Same H H' ∧ p ≠ lb ∧ H' p = some (.lst (cs.map V.ref)) ∧ At PcR H' cs ps ∧ H' lb = some (.lst (ds.map V.ref)) ∧ At BoxR H' ds bs ∧ Hg W U mo fn' ps bs ∧ ps.length ≤ bs.length + 1, ?_, ?_⟩
  · rintro σ' H' ⟨fn', p, cs, ds, ps, bs, u6, u7, u8, u9, u10, u11, u12, u13, u14, lt, rest⟩
    exact ⟨_, lt, fn', p, cs, ds, ps, bs, u6, u7, u8, u9, u10, u11, u12, u13, u14, rfl, rest⟩
  have pne : ps ≠ [] := fun z => by
    have := kg.rep
    rw [z] at this
    have : (0 : Int) = W := this
    omega
  have ln0 : 0 < ps.length := List.length_pos_iff.mpr pne
  refine ⟨_, rfl, p, rfl, ⟨_, SqL.of hp⟩, fun a6 ha6 => ?_⟩
  refine lev_comp (K := K) hp hC (by omega) ha6 fun H7 s7 h7 => ?_
  replace hp := s7 _ _ hp
  replace hC := hC.keep mo_pc s7
  replace hlb4 := s7 _ _ hlb4
  replace hD := hD.keep mo_bxR s7
  have s47 := s46.trans s7
  refine ⟨_, rfl, .inl ⟨rfl, _, SqL.of h7⟩, _, rfl, a6, _, rfl, h7, by rw [List.length_map]; omega, fun mxv mm ma => ?_⟩
  refine ⟨a6, _, mxv, rfl, rfl, h7, mm, by rw [List.length_map]; omega, ?_⟩
  have ix : (ps.map fun p => p.2.2).idxOf mxv < ps.length := by
    have := List.idxOf_lt_length_iff.mpr mm
    rwa [List.length_map] at this
  have ixv : (ps.map fun p => p.2.2)[(ps.map fun p => p.2.2).idxOf mxv]? = some mxv := by
    rw [List.getElem?_eq_getElem (by rw [List.length_map]; exact ix)]
    congr 1
    exact List.getElem_idxOf (by rw [List.length_map]; exact ix)
  generalize (ps.map fun p => p.2.2).idxOf mxv = j at ix ixv
  have ep : ps[j]? = some ps[j] := List.getElem?_eq_getElem ix
  generalize ps[j] = pc at ep
  obtain ⟨l, r, v⟩ := pc
  have ev : v = mxv := by
    rw [List.getElem?_map, ep] at ixv
    exact Option.some.inj ixv
  subst ev
  have vpos : 0 < v := kg.pos (by omega) hend fun p hp => ma _ (List.mem_map.mpr ⟨p, hp, rfl⟩)
  obtain ⟨l0, lr, rW, v0, vU⟩ := kg.lens (l, r, v) (List.mem_of_getElem? ep)
  dsimp only at l0 lr rW v0 vU
  obtain ⟨c, hcj, fc⟩ := hC.get ep
  have fc' : H7 c = some (.tup [.int l, .int r, .int v]) := fc
  refine ⟨_, rfl, _, rfl, p, _, _, _, rfl, rfl, SqL.of hp, atI_nat (ref_at hcj), c, _, rfl, SqT.of fc', rfl, _, _, rfl, _, _, rfl, _, _, rfl, rfl, ?_⟩
  refine ⟨_, rfl, _, rfl, _, _, rfl, rfl, _, rfl, ?_⟩
  (try dsimp only)
  refine name_go ?_
  (try dsimp only)
  have esp := split_at ep
  refine seq_join (G := fun σ H8 => H8 = H7 ∧ ∃ (sz dp : Int) (u13 : Option V), σ = [some (.ref a), some (.int (mo : Int)), some (.int W), some (.int U), some (.ref p), some (.ref lb), some (.ref a6), some (.int (j : Int)), some (.int l), some (.int r), some (.int v), some (.int sz), some (.int dp), u13, u14] ∧ 1 ≤ sz ∧ sz ≤ r - l ∧ 1 ≤ dp ∧ dp ≤ v ∧ ((bs.length + nzP ps + 2 ≤ mo) ∨ (sz = r - l ∧ dp = v))) (fun rr => ?_) ?_
  · refine ⟨_, rfl, lb, _, rfl, .inl (SqL.of hlb4), _, _, rfl, rfl, _, rfl, a, _, rfl, .inl (s47.seq hS.1), _, _, rfl, rfl, _, rfl, ?_⟩
    refine ite2 (fun _ => ?_) (fun _ => nx_go (rr _ _ ⟨rfl, _, _, _, rfl, by omega, by omega, by omega, by omega, .inr ⟨rfl, rfl⟩⟩))
    refine ⟨_, rfl, lb, _, rfl, .inl (SqL.of hlb4), _, rfl, p, _, rfl, .inl (SqL.of hp), _, _, rfl, rfl, _, rfl, .inl ⟨rfl, _, SqL.of h7⟩, a6, _, 0, rfl, rfl, h7, _, _, rfl, rfl, _, _, rfl, rfl, _, rfl, _, _, rfl, rfl, _, rfl, ?_⟩
    have nl := nz_levels ps
    by_cases cd : ((((ds.map V.ref).length : Nat) : Int) + (((cs.map V.ref).length : Nat) : Int) - (((ps.map fun p => p.2.2).countP (fun y => decide (y = 0)) : Nat) : Int) + 2 ≤ (mo : Int))
    · refine iteDT cd ?_
      rw [List.length_map, List.length_map] at cd
      refine ⟨_, rfl, _, rfl, lb, _, rfl, .inl (SqL.of hlb4), _, _, rfl, rfl, a, ns, _, rfl, ⟨s47.seq hS.1, hS.2⟩, by omega, fun z2 => ?_⟩
      refine ⟨_, _, rfl, rfl, ⟨by decide, by decide, by decide⟩, _, _, rfl, rfl, (show (0 : Int) < 10 ^ ((60 : Int).toNat) by decide), ?_⟩
      have cell0 := Int.emod_nonneg z2 (show (10 ^ ((60 : Int).toNat) : Int) ≠ 0 by decide)
      (try dsimp only)
      generalize z2 % 10 ^ ((60 : Int).toNat) = cell at cell0
      refine name_go ?_
      have rl : 0 < r - l := by omega
      have a0 := Int.emod_nonneg cell (Int.ne_of_gt rl)
      have a1 := Int.emod_lt_of_pos cell rl
      have b0 := Int.emod_nonneg (cell.fdiv (r - l)) (Int.ne_of_gt vpos)
      have b1 := Int.emod_lt_of_pos (cell.fdiv (r - l)) vpos
      refine ⟨_, rfl, _, rfl, _, rfl, _, _, rfl, rfl, _, _, rfl, rfl, rl, _, _, rfl, rfl, ?_⟩
      refine ⟨_, rfl, _, rfl, _, rfl, _, _, rfl, rfl, _, _, rfl, rfl, ⟨Int.ne_of_gt rl, big_of (n := 20) (by omega) (by decide)⟩, _, rfl, _, _, rfl, rfl, vpos, _, _, rfl, rfl, ?_⟩
      exact rr _ _ ⟨rfl, 1 + cell % (r - l), _, _, rfl, by omega, by omega, by omega, by omega, .inl (by omega)⟩
    · exact iteDF cd (nx_go (rr _ _ ⟨rfl, _, _, _, rfl, by omega, by omega, by omega, by omega, .inr ⟨rfl, rfl⟩⟩))
  rintro σ H7' ⟨rfl, sz, dp, u13', rfl, z1', z2', y1, y2, nm⟩
  refine ⟨_, rfl, .inl ⟨rfl, _, SqL.of hlb4⟩, _, rfl, _, rfl, _, rfl, _, _, rfl, rfl, _, rfl, _, rfl, _, _, rfl, rfl, _, rfl, by show 4 ≤ sizeLine; decide, fun cb hcb => ?_⟩
  obtain ⟨H8, e8, s8, g8⟩ := new_box hcb l (v - dp) (l + sz) v
  rw [e8]
  refine ⟨lb, _, _, rfl, rfl, s8 _ _ hlb4, by rw [List.length_map, sizeLine_eq]; omega, ?_⟩
  have sb9 : SameB lb H8 (upd H8 lb (.lst (ds.map V.ref ++ [.ref cb]))) := SameB.one
  have gl9 : upd H8 lb (.lst (ds.map V.ref ++ [.ref cb])) lb = some (.lst ((ds ++ [cb]).map V.ref)) := by rw [upd_same, List.map_append]; rfl
  generalize upd H8 lb (.lst (ds.map V.ref ++ [.ref cb])) = H9 at sb9 gl9
  have s9 : Same H H9 := sb9.same (s47.trans s8) hlb0
  replace hp := sb9 _ _ pnl (s8 _ _ hp)
  replace hC := pc_upd (s8 _ _ hlb4) sb9 (hC.keep mo_pc s8)
  have hD9 : At BoxR H9 (ds ++ [cb]) (bs ++ [(l, v - dp, l + sz, v)]) := bx_upd (s8 _ _ hlb4) sb9 ((hD.keep mo_bxR s8).snoc g8)
  clear hD g8 sb9 s8 e8 hcb h7 hlb4 fc fc'
  refine ⟨_, rfl, _, rfl, _, rfl, _, _, rfl, rfl, _, rfl, _, rfl, _, _, rfl, rfl, by show 3 ≤ sizeLine; decide, fun r1 hr1 => ?_⟩
  obtain ⟨H10, e10, s10, g10⟩ := new_tup hr1 [.int l, .int (l + sz), .int (v - dp)]
  rw [e10]
  refine ⟨_, rfl, _, rfl, _, _, rfl, rfl, _, rfl, _, rfl, by show 3 ≤ sizeLine; decide, fun r2 hr2 => ?_⟩
  obtain ⟨H11, e11, s11, g11⟩ := new_tup hr2 [.int (l + sz), .int r, .int v]
  rw [e11]
  refine ⟨by show 2 ≤ sizeLine; decide, fun r3 hr3 => ?_⟩
  obtain ⟨H12, e12, s12', g12⟩ := newL hr3 [.ref r1, .ref r2]
  rw [e12]
  refine ⟨_, rfl, _, rfl, _, _, rfl, rfl, _, rfl, _, _, rfl, rfl, .inr ⟨_, rfl, _, _, rfl, rfl, _, rfl, ?_⟩⟩
  have s912 := s10.trans (s11.trans s12')
  refine ⟨r3, _, rfl, SqL.of g12, fun r4 hr4 => ?_⟩
  obtain ⟨rs, qs, ers, erp, hA12, lq⟩ : ∃ (rs : List Addr) (qs : List Pc), cutV [V.ref r1, V.ref r2] none (some (1 + if decide (l + sz < r) = true then 1 else 0)) = rs.map V.ref ∧ qs = ([(l, l + sz, v - dp)] ++ if l + sz < r then [(l + sz, r, v)] else []) ∧ At PcR H12 rs qs ∧ qs.length ≤ 2 := by
    have A1 : At PcR H12 [r1] [(l, l + sz, v - dp)] := At.nil.snoc (R := PcR) (b := r1) (x := (l, l + sz, v - dp)) ((s11.trans s12') _ _ g10)
    by_cases z : l + sz < r
    · refine ⟨[r1, r2], _, ?_, rfl, ?_, ?_⟩
      · rw [decide_eq_true z, if_pos rfl]
        exact cut_take (j := 2) _ (by simp)
      · rw [if_pos z]
        exact A1.snoc (b := r2) (x := (l + sz, r, v)) (s12' _ _ g11)
      · rw [if_pos z]; simp
    · refine ⟨[r1], _, ?_, rfl, ?_, ?_⟩
      · rw [decide_eq_false z, if_neg Bool.false_ne_true]
        exact cut_take (j := 1) _ (by simp)
      · rw [if_neg z, List.append_nil]; exact A1
      · rw [if_neg z]; simp
  rw [ers]
  obtain ⟨H13, e13, s13, g13⟩ := newL hr4 (rs.map V.ref)
  rw [e13]
  have s913 := s912.trans s13
  refine ⟨_, rfl, _, rfl, _, rfl, p, _, rfl, SqL.of (s913 _ _ hp), fun r5 hr5 => ?_⟩
  rw [show cutV (cs.map V.ref) none (some ((j : Nat) : Int)) = (cs.take j).map V.ref from (cut_take _ (by rw [List.length_map]; omega)).trans (List.map_take ..).symm]
  obtain ⟨H14, e14, s14, g14⟩ := newL hr5 ((cs.take j).map V.ref)
  rw [e14]
  have lrs : rs.length = qs.length := hA12.1
  refine ⟨_, rfl, r5, r4, _, _, rfl, rfl, g14, s14 _ _ g13, by simp; exact szle (by omega), fun r6 hr6 => ?_⟩
  obtain ⟨H15, e15, s15, g15⟩ := newL hr6 ((cs.take j).map V.ref ++ rs.map V.ref)
  rw [e15]
  have s915 := s913.trans (s14.trans s15)
  refine ⟨_, rfl, _, rfl, _, _, rfl, rfl, _, rfl, p, _, rfl, SqL.of (s915 _ _ hp), fun r7 hr7 => ?_⟩
  rw [show cutV (cs.map V.ref) (some (((j : Nat) : Int) + 1)) none = (cs.drop (j+1)).map V.ref from (cut_drop (j := j + 1) _ (by rw [List.length_map]; omega)).trans (List.map_drop ..).symm]
  obtain ⟨H16, e16, s16, g16⟩ := newL hr7 ((cs.drop (j+1)).map V.ref)
  rw [e16]
  refine ⟨r6, r7, _, _, rfl, rfl, s16 _ _ g15, g16, by simp; exact szle (by omega), fun r8 hr8 => ?_⟩
  obtain ⟨H17, e17, s17, g17⟩ := newL hr8 ((cs.take j).map V.ref ++ rs.map V.ref ++ (cs.drop (j+1)).map V.ref)
  rw [e17]
  have s917 := s915.trans (s16.trans s17)
  have A17 : At PcR H17 (cs.take j ++ rs ++ cs.drop (j+1)) (prtH (ps.take j) (ps.drop (j+1)) l r v sz dp) := by
    unfold prtH
    rw [← erp]
    exact (((hC.keep mo_pc s917).take j).app (hA12.keep mo_pc (s13.trans (s14.trans (s15.trans (s16.trans s17)))))).app ((hC.keep mo_pc s917).drop (j+1))
  have lpr : (prtH (ps.take j) (ps.drop (j+1)) l r v sz dp).length ≤ ps.length + 1 := by
    have := A17.1
    rw [List.length_append, List.length_append, List.length_take, List.length_drop] at this
    omega
  refine ⟨r8, _, rfl, ⟨_, by rw [g17]; simp, A17⟩, by omega, fun r9 H18 hr9 s18 ⟨es, g18, A18⟩ => ?_⟩
  rw [esp] at kg nm
  obtain ⟨kg2, lt⟩ := kg.step z1' z2' y1 y2 nm
  have s918 := s917.trans s18
  have jl := join_len (prtH (ps.take j) (ps.drop (j+1)) l r v sz dp)
  exact ⟨_, r9, es, ds ++ [cb], _, bs ++ [(l, v - dp, l + sz, v)], _, _, _, _, _, _, _, _, _, lt, rfl, s9.trans s918, (fun z => by rw [z, s917 _ _ gl9] at hr9; cases hr9), g18, A18, s918 _ _ gl9, hD9.keep mo_bxR s918, kg2, by rw [List.length_append, List.length_singleton]; omega⟩
end
end My
namespace My
open PySem L2 Mth Wd Fl
theorem at_last {xs : List V} {x : V} (h : xs[xs.length - 1]? = some x) (n : 0 < xs.length) : atI xs (-1) = some x := by
  unfold atI ixN
  rw [if_neg (by omega), if_pos (by omega), show ((-1 : Int) + (xs.length : Int)).toNat = xs.length - 1 by omega]
  exact h
theorem cut_last (xs : List V) (n : 0 < xs.length) : cutV xs none (some (-1)) = xs.dropLast := by
  unfold cutV
  have e1 : HT.sIx xs.length 0 none = 0 := rfl
  have e2 : HT.sIx xs.length xs.length (some (-1)) = xs.length - 1 := by
    simp only [HT.sIx]
    split <;> omega
  rw [e1, e2, List.dropLast_eq_take]; simp
structure FlT (w h : Int) (bs : List Bx) : Prop where
  tile : Tile w h bs
  tru : ∀ b ∈ bs, b.l < b.r ∧ b.d < b.u
theorem FlT.cut {w h : Int} {bs ps : List Bx} {b pL : Bx} {j : Nat} (t : FlT w h bs) (eb : bs[j]? = some b) (p : Parts b ps) (pl : ps[ps.length - 1]? = some pL) : FlT w h (bs.take j ++ [pL] ++ bs.drop (j+1) ++ ps.dropLast) := by
  obtain ⟨hj, ej⟩ := List.getElem?_eq_some_iff.mp eb
  have e1 : bs = bs.take j ++ b :: bs.drop (j+1) := by rw [← ej, ← List.drop_eq_getElem_cons hj]; exact (List.take_append_drop j bs).symm
  have hn : ps ≠ [] := by rintro rfl; simp at pl
  have e2 : ps = ps.dropLast ++ [pL] := by
    have := List.dropLast_concat_getLast hn
    rw [List.getLast_eq_getElem] at this
    obtain ⟨q1, q2⟩ := List.getElem?_eq_some_iff.mp pl
    rw [q2] at this
    exact this.symm
  have tt := t.tile
  rw [e1] at tt
  have t2 := tt.cut p
  have pm : (bs.take j ++ [pL] ++ bs.drop (j+1) ++ ps.dropLast).Perm (bs.take j ++ ps ++ bs.drop (j+1)) := by
    conv => rhs; rw [e2]
    rw [List.append_assoc, List.append_assoc, List.append_assoc]
    refine List.Perm.append_left _ ?_
    rw [← List.append_assoc]
    refine (List.perm_append_comm).trans ?_
    rw [List.append_assoc, ← List.append_assoc]
  refine ⟨t2.perm pm, fun c hc => ?_⟩
  have hc2 := pm.mem_iff.mp hc
  simp only [List.mem_append] at hc2
  rcases hc2 with (z | z) | z
  · exact t.tru c (List.mem_of_mem_take z)
  · exact p.ok c z
  · exact t.tru c (List.mem_of_mem_drop z)
noncomputable abbrev FtQ (H : Hp) (Q : VK) (w h : Int) (n m : Nat) : Prop := ∀ (p : Addr) (H' : Hp) (bs : List Bx), Same H H' → LstR BoxR H' p bs → n ≤ bs.length → bs.length ≤ m → FlT w h bs → Q (.ref p) H'
section
variable {P : Program} {w : World} {K : PySem.W.Frag} {mg : Str → Option Value} {base : Heap} {f g h f1 f2 f3 : Addr} {fd gd hd d1 d2 d3 : FuncData}
inductive SpBuiltR (K : PySem.W.Frag) (vs : List V) (H : Hp) (Q : VK) : Prop
  | mk (a : Addr) (ns : List Int) (wd hg : Int) (h_0 : vs = [.ref a, .int 4, .int 30, .int wd, .int hg, .int 10]) (h_1 : ScA K H a ns) (h_2 : 0 < wd) (h_3 : 0 < hg) (h_4 : FtQ H Q wd hg 1 10) : SpBuiltR K vs H Q
noncomputable def spBuilt (K : PySem.W.Frag) : Sp := fun vs H Q _ => SpBuiltR K vs H Q
theorem scBu : FnScope ["_law_script", "_law_first", "_law_last", "_law_wide", "_law_high", "_law_most", "_law_boxes", "_law_k", "_law_cell", "_law_at", "_law_parts"] ["_law_script", "_law_first", "_law_last", "_law_wide", "_law_high", "_law_most"] (defScope s_law_built) := ⟨rfl, rfl, rfl, by decide +kernel, rfl, by decide +kernel, by decide +kernel⟩
set_option maxHeartbeats 4000000 in
theorem ok_built (F : Fun K "_law_built" "_law_built" s_law_built f fd) (G1 : FnOk P w K mg base CX0 1 f1 d1 ["_law_script", "_law_k"] (spCell K)) (b1 : Binds K d1 ["_law_script", "_law_k"] []) (k1 : PySem.W.keepIn K (.ref f1) = true) (m1 : mg "_law_cell_at" = some (.ref f1))
    (G2 : FnOk P w K mg base CX0 2 f2 d2 ["_law_box", "_law_cell"] spBroken) (b2 : Binds K d2 ["_law_box", "_law_cell"] []) (k2 : PySem.W.keepIn K (.ref f2) = true) (m2 : mg "_law_broken" = some (.ref f2)) (ml : mg "len" = none) (mn : mg "min" = none) (mr : mg "range" = none) :
    FnOk P w K mg base CX0 3 f fd ["_law_script", "_law_first", "_law_last", "_law_wide", "_law_high", "_law_most"] (spBuilt K) := by
  refine F.ok scBu (fun vs H Q E h => ?_) (fun cdv A outer s H vs Q E hr h => ?_)
  · obtain ⟨a, ns, wd, hg, rfl, _⟩ := h
    rfl
  obtain ⟨a, ns, wd, hg, rfl, hS, kw, kh, q⟩ := h
  have hr1 := hr.mono (show 1 ≤ 2 by decide)
  refine ⟨_, pss_cons (ps_set (i := 6) scBu.nd rfl (Or.inl rfl) (pe_lst (pa_cons (pe_tup (pa_cons pe_int (pa_cons pe_int (pa_cons (pv 3) (pa_cons (pv 4) pa_nil))))) pa_nil)))
    (pss_cons (ps_for PassesOwn.never rfl (pi_range2 (by rfl) mr (pa_cons (pv 1) (pa_cons (pe_callB (call_min2 rfl) (by rfl) mn bt_min (pa_cons (pe_callB (callLen (K := K)) (by rfl) ml bt_len (pa_cons (pv 0) pa_nil)) (pa_cons (pv 2) pa_nil))) pa_nil))) (pg_name (i := 7) scBu.nd rfl (Or.inl rfl))
      (pss_cons (ps_set (i := 8) scBu.nd rfl (Or.inl rfl) (pe_call G1 hr1 (by rfl) m1 k1 b1 .nil pass0 (pa_cons (pv 0) (pa_cons (pv 7) pa_nil))))
      (pss_cons (ps_set (i := 9) scBu.nd rfl (Or.inl rfl) (pe_op op_mod (pv 8) (pe_callB (callLen (K := K)) (by rfl) ml bt_len (pa_cons (pv 6) pa_nil))))
      (pss_cons (ps_set (i := 10) scBu.nd rfl (Or.inl rfl) (pe_call G2 hr (by rfl) m2 k2 b2 .nil pass0 (pa_cons (pe_ix (ixL (K := K)) (pv 6) (pv 9) (fun _ _ => rfl)) (pa_cons (pe_op op_fdiv (pv 8) pe_int) pa_nil))))
      (pss_one (ps_if (pt_cmpR op_le (pe_op op_add (pe_callB (callLen (K := K)) (by rfl) ml bt_len (pa_cons (pv 6) pa_nil)) (pe_callB (callLen (K := K)) (by rfl) ml bt_len (pa_cons (pv 10) pa_nil))) (pe_op op_add (pv 5) pe_int) (nomark _))
        (pss_one (ps_set (i := 6) scBu.nd rfl (Or.inl rfl) (pe_op op_cat (pe_op op_cat (pe_op op_cat (pe_slice (slL (K := K)) (pv 6) po_none (po_some (pv 9))) (pe_lst (pa_cons (pe_ix (ixL (K := K)) (pv 10) (pe_un un_neg pe_int) (fun _ _ => rfl)) pa_nil))) (pe_slice (slL (K := K)) (pv 6) (po_some (pe_op op_add (pv 9) pe_int)) po_none)) (pe_slice (slL (K := K)) (pv 10) po_none (po_some (pe_un un_neg pe_int)))))) pss_nil))))))
    (pss_one (ps_ret (pv 6)))), ?_⟩
  refine ⟨_, rfl, _, rfl, by show 4 ≤ sizeLine; decide, fun c0 hc0 => ?_⟩
  obtain ⟨H1, e1, s1, g1⟩ := new_box hc0 0 0 wd hg
  rw [e1]
  refine ⟨by show 1 ≤ sizeLine; decide, fun L0 hL0 => ?_⟩
  obtain ⟨H2, e2, s2, g2⟩ := new_lst hL0 [.ref c0]
  rw [e2]
  have s12 := s1.trans s2
  refine ⟨_, rfl, _, rfl, a, _, rfl, .inl (s12.seq hS.1), _, rfl, _, _, rfl, ?_⟩
  obtain ⟨L, hL, L0', L1⟩ : ∃ L : Int, (if (30 : Int) < (((ns.map V.int).length : Nat) : Int) then (30 : Int) else (((ns.map V.int).length : Nat) : Int)) = L ∧ 0 ≤ L ∧ L ≤ 30 := ⟨_, rfl, by split <;> omega, by split <;> omega⟩
  rw [hL]
  refine ⟨_, _, rfl, ⟨by omega, by omega, by omega, by omega⟩, ?_⟩
  refine for_range (lo := 4) (n := (L - 4).toNat) (fun i σ H3 => Same H H3 ∧ ∃ (p : Addr) (bs : List Bx) (u7 u8 u9 u10 : Option V), σ = [some (.ref a), some (.int 4), some (.int 30), some (.int wd), some (.int hg), some (.int 10), some (.ref p), u7, u8, u9, u10] ∧ LstR BoxR H3 p bs ∧ 1 ≤ bs.length ∧ bs.length ≤ 10 ∧ FlT wd hg bs)
    ⟨s12, L0, [(0, 0, wd, hg)], none, none, none, none, rfl, ⟨[c0], g2, At.nil.snoc (R := BoxR) (b := c0) (x := (0, 0, wd, hg)) (s2 _ _ g1)⟩, by simp, by simp, ⟨first_tile kw kh, fun b hb => by rw [List.mem_singleton.mp hb]; exact ⟨kw, kh⟩⟩⟩ ?_ ?_
  · rintro i σ H3 hi ⟨s3, p, bs, u7, u8, u9, u10, rfl, ⟨cs, hp, hC⟩, n1, n2, kb⟩
    have lc : cs.length = bs.length := hC.1
    have lm : (cs.map V.ref).length = bs.length := by rw [List.length_map, lc]
    refine ⟨_, rfl, _, rfl, a, ns, _, rfl, ⟨s3.seq hS.1, hS.2⟩, by omega, fun z hz => ?_⟩
    have zp : (0 : Int) < ((cs.map V.ref).length : Int) := by omega
    refine ⟨_, rfl, _, rfl, p, _, rfl, .inl (SqL.of hp), _, _, rfl, rfl, zp, ?_⟩
    have y0 := Int.emod_nonneg z (Int.ne_of_gt zp)
    have y1 := Int.emod_lt_of_pos z zp
    obtain ⟨j, hj⟩ := Int.eq_ofNat_of_zero_le y0
    rw [hj] at y1
    have jl : j < bs.length := by omega
    have eb : bs[j]? = some bs[j] := List.getElem?_eq_getElem jl
    generalize bs[j] = b at eb
    obtain ⟨c, hc, fb⟩ := hC.get eb
    have hat : atI (cs.map V.ref) (z % ((cs.map V.ref).length : Int)) = some (.ref c) := by rw [hj]; exact atI_nat (ref_at hc)
    refine ⟨_, rfl, _, rfl, p, _, _, _, rfl, rfl, SqL.of hp, hat, _, rfl, _, _, rfl, rfl, ⟨by decide, by decide⟩, c, b, _, rfl, fb, (kb.tru b (List.mem_of_getElem? eb)).1, (kb.tru b (List.mem_of_getElem? eb)).2, fun pp H4 ps s4 ⟨ds, hpp, hD⟩ m1' m5 kp => ?_⟩
    have ld : ds.length = ps.length := hD.1
    have hp4 := s4 _ _ hp
    refine ⟨_, rfl, p, _, rfl, .inl (SqL.of hp4), _, rfl, pp, _, rfl, .inl (SqL.of hpp), _, _, rfl, rfl, _, rfl, _, _, rfl, rfl, _, _, rfl, rfl, _, rfl, ?_⟩
    by_cases hle : (((cs.map V.ref).length : Nat) : Int) + (((ds.map V.ref).length : Nat) : Int) ≤ 10 + 1
    · refine iteDT hle ?_
      rw [lm, List.length_map, ld] at hle
      refine ⟨_, rfl, _, rfl, _, rfl, p, _, rfl, SqL.of hp4, fun q1 hq1 => ?_⟩
      rw [show cutV (cs.map V.ref) none (some (z % ((cs.map V.ref).length : Int))) = (cs.take j).map V.ref by rw [hj]; exact (cut_take _ (by omega)).trans (List.map_take ..).symm]
      obtain ⟨H5, e5, s5, g5⟩ := new_lst hq1 ((cs.take j).map V.ref)
      rw [e5]
      have dl : ds[ds.length - 1]? = some ds[ds.length - 1] := List.getElem?_eq_getElem (by omega)
      generalize ds[ds.length - 1] = dL at dl
      refine ⟨_, rfl, _, rfl, pp, _, _, _, rfl, rfl, SqL.of (s5 _ _ hpp), at_last (by rw [List.length_map]; exact ref_at dl) (by rw [List.length_map]; omega), by show 1 ≤ sizeLine; decide, fun q2 hq2 => ?_⟩
      obtain ⟨H6, e6, s6, g6⟩ := new_lst hq2 [.ref dL]
      rw [e6]
      refine ⟨q1, q2, _, _, rfl, rfl, s6 _ _ g5, g6, by simp; exact szle (by omega), fun q3 hq3 => ?_⟩
      obtain ⟨H7, e7, s7, g7⟩ := new_lst hq3 ((cs.take j).map V.ref ++ [.ref dL])
      rw [e7]
      have s57 := s5.trans (s6.trans s7)
      refine ⟨_, rfl, _, rfl, _, _, rfl, rfl, _, rfl, p, _, rfl, SqL.of (s57 _ _ hp4), fun q4 hq4 => ?_⟩
      rw [show cutV (cs.map V.ref) (some (z % ((cs.map V.ref).length : Int) + 1)) none = (cs.drop (j+1)).map V.ref by rw [hj]; exact (cut_drop (j := j + 1) _ (by omega)).trans (List.map_drop ..).symm]
      obtain ⟨H8, e8, s8, g8⟩ := new_lst hq4 ((cs.drop (j+1)).map V.ref)
      rw [e8]
      refine ⟨q3, q4, _, _, rfl, rfl, s8 _ _ g7, g8, by simp; exact szle (by omega), fun q5 hq5 => ?_⟩
      obtain ⟨H9, e9, s9, g9⟩ := new_lst hq5 ((cs.take j).map V.ref ++ [.ref dL] ++ (cs.drop (j+1)).map V.ref)
      rw [e9]
      have s59 := s57.trans (s8.trans s9)
      refine ⟨_, rfl, _, rfl, _, rfl, pp, _, rfl, SqL.of (s59 _ _ hpp), fun q6 hq6 => ?_⟩
      rw [cut_last _ (by rw [List.length_map]; omega), ← List.map_dropLast]
      obtain ⟨H10, e10, s10, g10⟩ := new_lst hq6 (ds.dropLast.map V.ref)
      rw [e10]
      refine ⟨q5, q6, _, _, rfl, rfl, s10 _ _ g9, g10, by simp; exact szle (by omega), fun q7 hq7 => ?_⟩
      have s11 := same_new hq7 (.lst ((cs.take j).map V.ref ++ [.ref dL] ++ (cs.drop (j+1)).map V.ref ++ ds.dropLast.map V.ref))
      have s511 := s59.trans (s10.trans s11)
      have pl : ps[ps.length - 1]? = some ps[ps.length - 1] := List.getElem?_eq_getElem (by omega)
      generalize ps[ps.length - 1] = pL at pl
      have hdL : BoxR H4 dL pL := hD.2 _ _ _ dl (by rw [ld]; exact pl)
      have A1 : At BoxR H4 (cs.take j ++ [dL] ++ cs.drop (j+1) ++ ds.dropLast) (bs.take j ++ [pL] ++ bs.drop (j+1) ++ ps.dropLast) := by
        refine ((((hC.keep mo_bxR s4).take j).snoc hdL).app ((hC.keep mo_bxR s4).drop (j+1))).app ?_
        rw [List.dropLast_eq_take, List.dropLast_eq_take, ld]
        exact hD.take _
      refine ⟨s3.trans (s4.trans s511), q7, bs.take j ++ [pL] ++ bs.drop (j+1) ++ ps.dropLast, _, _, _, _, rfl, ⟨_, by rw [upd_same]; simp, A1.keep mo_bxR s511⟩, by simp; omega, by simp; omega, kb.cut eb kp pl⟩
    · exact iteDF hle ⟨s3.trans s4, p, bs, _, _, _, _, rfl, ⟨cs, hp4, hC.keep mo_bxR s4⟩, n1, n2, kb⟩
  · rintro σ H3 ⟨s3, p, bs, u7, u8, u9, u10, rfl, hL3, n1, n2, kb⟩
    exact ⟨_, rfl, q p H3 bs s3 hL3 n1 n2 kb⟩
inductive SpScOR (vs : List V) (H : Hp) (Q : VK) : Prop
  | mk (n : Int) (p : Addr) (c : Rat) (h_0 : vs = [.int n, .ref p]) (h_1 : FrR H p c) (h_2 : Sb 7 13 c) (h_3 : n.natAbs ≤ 2 ^ 20) (h_4 : GivQ H Q ((n : Rat) * c)) : SpScOR vs H Q
noncomputable def spScO : Sp := fun vs H Q _ => SpScOR vs H Q
theorem scSO : FnScope ["_law_number", "_law_scale"] ["_law_number", "_law_scale"] (defScope s_law_scaled_one) := ⟨rfl, rfl, rfl, by decide +kernel, rfl, by decide +kernel, by decide +kernel⟩
theorem sc_rat (n : Int) (c : Rat) : (((n * c.num : Int)) : Rat) / ((c.den : Int) : Rat) = (n : Rat) * c := by
  rw [Rat.intCast_mul, Rat.div_def, Rat.mul_assoc, ← Rat.div_def, rat_of]
theorem ok_scO (F : Fun K "_law_scaled_one" "_law_scaled_one" s_law_scaled_one f fd) (G : FnOk P w K mg base CX0 1 g gd ["_law_top", "_law_bottom"] spLow) (bG : Binds K gd ["_law_top", "_law_bottom"] []) (kG : PySem.W.keepIn K (.ref g) = true) (mG : mg "_law_lowest" = some (.ref g)) :
    FnOk P w K mg base CX0 2 f fd ["_law_number", "_law_scale"] spScO := by
  refine F.ok scSO (fun vs H Q E h => ?_) (fun cdv A outer s H vs Q E hr h => ?_)
  · obtain ⟨n, p, c, rfl, _⟩ := h
    rfl
  obtain ⟨n, p, c, rfl, hp, sc, nb, q⟩ := h
  refine ⟨_, pss_one (ps_ret (pe_call G hr (by rfl) mG kG bG .nil pass0 (pa_cons (pe_op op_mulB (pv 0) (pe_ix (ixT (K := K)) (pv 1) pe_int (fun _ _ => rfl))) (pa_cons (pe_ix (ixT (K := K)) (pv 1) pe_int (fun _ _ => rfl)) pa_nil)))), ?_⟩
  have dn := c.den_nz
  refine ⟨_, rfl, _, rfl, p, _, _, _, rfl, rfl, SqT.of hp, at0, _, _, rfl, rfl, ⟨big2 nb (by decide), big2 sc.1 (by decide)⟩, _, rfl, p, _, _, _, rfl, rfl, SqT.of hp, at1, _, _, rfl, by omega, big2 (n := 13) (by rw [Int.natAbs_natCast]; exact sc.2) (by decide), ?_⟩
  rw [sc_rat]
  exact q
noncomputable abbrev bxL (b : Bx) : List Int := [b.1, b.2.1, b.2.2.1, b.2.2.2]
noncomputable abbrev BxW (b : Bx) : Prop := ∀ x ∈ bxL b, x.natAbs ≤ 2 ^ 20
inductive SpScdR (vs : List V) (H : Hp) (Q : VK) : Prop
  | mk (pb p : Addr) (b : Bx) (c : Rat) (h_0 : vs = [.ref pb, .ref p]) (h_1 : BoxR H pb b) (h_2 : FrR H p c) (h_3 : Sb 7 13 c) (h_4 : BxW b) (h_5 : ∀ t H', Same H H' → TupR FrR H' t ((bxL b).map fun (x : Int) => (x : Rat) * c) → Q (.ref t) H') : SpScdR vs H Q
noncomputable def spScd : Sp := fun vs H Q _ => SpScdR vs H Q
theorem scSd : FnScope ["_law_box", "_law_scale"] ["_law_box", "_law_scale"] (defScope s_law_scaled) := ⟨rfl, rfl, rfl, by decide +kernel, rfl, by decide +kernel, by decide +kernel⟩
theorem ndPS : (["_law_part", "_law_scale"] : List Str).Nodup := by decide +kernel
theorem ok_scd (F : Fun K "_law_scaled" "_law_scaled" s_law_scaled f fd) (G : FnOk P w K mg base CX0 2 g gd ["_law_number", "_law_scale"] spScO) (bG : Binds K gd ["_law_number", "_law_scale"] []) (kG : PySem.W.keepIn K (.ref g) = true) (mG : mg "_law_scaled_one" = some (.ref g)) (mt : mg "tuple" = none) :
    FnOk P w K mg base CX0 3 f fd ["_law_box", "_law_scale"] spScd := by
  refine F.ok scSd (fun vs H Q E h => ?_) (fun cdv A outer s H vs Q E hr h => ?_)
  · obtain ⟨pb, p, b, c, rfl, _⟩ := h
    rfl
  obtain ⟨pb, p, b, c, rfl, hb, hp, sc, bw, q⟩ := h
  refine ⟨_, pss_one (ps_ret (pe_callTy call_tuple_of (by rfl) mt bt_tuple (pa_cons (pe_comp (Nc := ["_law_part", "_law_scale"]) (cap := [(1, 1)]) (g := gName 0) (te := tCall spScO [] E0 (tCons (tVar 0) (tCons (tVar 1) tNil))) rfl (pi_tup (pv 0))
      (comp_mk rfl rfl (by decide +kernel) (by decide +kernel) (List.forall_mem_cons.mpr ⟨⟨rfl, rfl⟩, List.forall_mem_nil _⟩) rfl (List.forall_mem_cons.mpr ⟨⟨_, _, rfl, rfl, rfl, rfl, rfl⟩, List.forall_mem_nil _⟩))
      (fun C fp pins s' H' => pg_name (i := 0) ndPS rfl (Or.inl rfl)) (fun C fp pins s' H' => pe_call G hr (by rfl) mG kG bG .nil pass0 (pa_cons (pv 0) (pa_cons (pv 1) pa_nil)))) pa_nil))), ?_⟩
  have hb' : H pb = some (.tup ((bxL b).map V.int)) := hb
  refine ⟨_, rfl, pb, rfl, ⟨_, SqT.of hb'⟩, fun acc hacc => ?_⟩
  refine comp_run (run_tup hb') (by show 4 ≤ 1000; decide) hacc (fun i ys σ hp => ∃ es : List Addr, ys = es.map V.ref ∧ At FrR hp es (((bxL b).map fun (x : Int) => (x : Rat) * c).take i) ∧ ∃ u, σ = [u, some (.ref p)]) ⟨[], rfl, At.nil, none, rfl⟩ ?_ ?_
  · rintro i ys σ H2 x H3 hi sm hacc2 ⟨es, rfl, hE, u, rfl⟩ ⟨rfl, hx⟩ Cc hC
    obtain ⟨e, rfl, he⟩ := ints_at hx
    refine ⟨_, rfl, _, rfl, e, p, c, rfl, sm _ _ hp, sc, bw e (List.mem_of_getElem? he), fun t ht => ?_⟩
    have st := same_new ht (.tup [.int ((e : Rat) * c).num, .int ((e : Rat) * c).den])
    refine hC _ _ _ st ⟨es ++ [t], by simp, ?_, _, rfl⟩
    have ec : ((bxL b).map fun (x : Int) => (x : Rat) * c)[i]? = some ((e : Rat) * c) := by rw [List.getElem?_map, he]; rfl
    rw [take_succ_of ec]
    exact (hE.keep mo_fr (del_mono acc st)).snoc (FrR.del (q := (e : Rat) * c) upd_same (st _ _ hacc2))
  rintro ys σ H2 s2 hacc2 hl2 ⟨es, rfl, hE, u, rfl⟩
  rw [List.take_of_length_le (by simp)] at hE
  refine ⟨acc, _, rfl, .inl ⟨SqL.of hacc2, fun t ht => ?_⟩⟩
  have st := same_new ht (.tup (es.map V.ref))
  exact q t _ (s2.trans st) ⟨es, upd_same, (hE.keep mo_fr (del_sub H2 acc)).keep mo_fr st⟩
noncomputable abbrev rowsOf (c : Rat) (bs : List Bx) : List (List Rat) := bs.map fun b => (bxL b).map fun (x : Int) => (x : Rat) * c
inductive SpFloR (vs : List V) (H : Hp) (Q : VK) : Prop
  | mk (pb p : Addr) (bs : List Bx) (wd hg : Int) (c : Rat) (h_0 : vs = [.ref pb, .int wd, .int hg, .ref p]) (h_1 : LstR BoxR H pb bs) (h_2 : bs.length ≤ 40) (h_3 : FrR H p c) (h_4 : Sb 7 13 c) (h_5 : wd.natAbs ≤ 2 ^ 20) (h_6 : hg.natAbs ≤ 2 ^ 20) (h_7 : (∀ b ∈ bs, BxW b)) (h_8 : ∀ t H', Same H H' → FloorR H' t ((wd : Rat) * c) ((hg : Rat) * c) (rowsOf c bs) → Q (.ref t) H') : SpFloR vs H Q
noncomputable def spFlo : Sp := fun vs H Q _ => SpFloR vs H Q
theorem scFo : FnScope ["_law_boxes", "_law_wide", "_law_high", "_law_scale", "_law_rectangles"] ["_law_boxes", "_law_wide", "_law_high", "_law_scale"] (defScope s_law_floor_of) := ⟨rfl, rfl, rfl, by decide +kernel, rfl, by decide +kernel, by decide +kernel⟩
theorem ndBS : (["_law_box", "_law_scale"] : List Str).Nodup := by decide +kernel
theorem ok_flo (F : Fun K "_law_floor_of" "_law_floor_of" s_law_floor_of f fd) (G1 : FnOk P w K mg base CX0 2 f1 d1 ["_law_number", "_law_scale"] spScO) (b1 : Binds K d1 ["_law_number", "_law_scale"] []) (k1 : PySem.W.keepIn K (.ref f1) = true) (m1 : mg "_law_scaled_one" = some (.ref f1))
    (G2 : FnOk P w K mg base CX0 3 f2 d2 ["_law_box", "_law_scale"] spScd) (b2 : Binds K d2 ["_law_box", "_law_scale"] []) (k2 : PySem.W.keepIn K (.ref f2) = true) (m2 : mg "_law_scaled" = some (.ref f2)) (mt : mg "tuple" = none) :
    FnOk P w K mg base CX0 4 f fd ["_law_boxes", "_law_wide", "_law_high", "_law_scale"] spFlo := by
  refine F.ok scFo (fun vs H Q E h => ?_) (fun cdv A outer s H vs Q E hr h => ?_)
  · obtain ⟨pb, p, bs, wd, hg, c, rfl, _⟩ := h
    rfl
  obtain ⟨pb, p, bs, wd, hg, c, rfl, ⟨cs, hb, hC⟩, hl, hp, sc, nw, nh, bw, q⟩ := h
  have hr2 := hr.mono (show 2 ≤ 3 by decide)
  refine ⟨_, pss_cons (ps_setComp (i := 4) scFo.nd rfl (Or.inl rfl) (Nc := ["_law_box", "_law_scale"]) (cap := [(1, 3)]) (g := gName 0) (te := tCall spScd [] E0 (tCons (tVar 0) (tCons (tVar 1) tNil))) rfl (pi_list (pv 0))
      (comp_mk rfl rfl (by decide +kernel) (by decide +kernel) (List.forall_mem_cons.mpr ⟨⟨rfl, rfl⟩, List.forall_mem_nil _⟩) rfl (List.forall_mem_cons.mpr ⟨⟨_, _, rfl, rfl, rfl, rfl, rfl⟩, List.forall_mem_nil _⟩))
      (fun C fp pins s' H' => pg_name (i := 0) ndBS rfl (Or.inl rfl)) (fun C fp pins s' H' => pe_call G2 hr (by rfl) m2 k2 b2 .nil pass0 (pa_cons (pv 0) (pa_cons (pv 1) pa_nil))))
    (pss_one (ps_ret (pe_tup (pa_cons (pe_call G1 hr2 (by rfl) m1 k1 b1 .nil pass0 (pa_cons (pv 1) (pa_cons (pv 3) pa_nil))) (pa_cons (pe_call G1 hr2 (by rfl) m1 k1 b1 .nil pass0 (pa_cons (pv 2) (pa_cons (pv 3) pa_nil))) (pa_cons (pe_callTy call_tuple_of (by rfl) mt bt_tuple (pa_cons (pv 4) pa_nil)) pa_nil)))))), ?_⟩
  have lc : cs.length = bs.length := hC.1
  refine ⟨_, rfl, pb, rfl, ⟨_, SqL.of hb⟩, fun acc hacc => ?_⟩
  refine comp_run (run_list hb) (by rw [List.length_map]; omega) hacc (fun i ys σ hp => ∃ es : List Addr, ys = es.map V.ref ∧ At (TupR FrR) hp es ((rowsOf c bs).take i) ∧ ∃ u, σ = [u, some (.ref p)]) ⟨[], rfl, At.nil, none, rfl⟩ ?_ ?_
  · rintro i ys σ H2 x H3 hi sm hacc2 ⟨es, rfl, hE, u, rfl⟩ ⟨rfl, hx⟩ Cc hCc
    obtain ⟨d, b, rfl, _, hy, fb⟩ := hC.ref hx
    refine ⟨_, rfl, _, rfl, d, p, b, c, rfl, sm _ _ fb, sm _ _ hp, sc, bw b (List.mem_of_getElem? hy), fun t H4 st ht => ?_⟩
    refine hCc _ _ _ st ⟨es ++ [t], by simp, ?_, _, rfl⟩
    have ec : (rowsOf c bs)[i]? = some ((bxL b).map fun (x : Int) => (x : Rat) * c) := by rw [List.getElem?_map, hy]; rfl
    rw [take_succ_of ec]
    exact (hE.keep mo_tf (del_mono acc st)).snoc (tfd ht (st _ _ hacc2))
  rintro ys σ H2 s2 hacc2 hl2 ⟨es, rfl, hE, u, rfl⟩
  rw [List.length_map, lc, List.take_of_length_le (by rw [List.length_map]; omega)] at hE
  refine ⟨_, rfl, _, rfl, wd, p, c, rfl, s2 _ _ hp, sc, nw, fun t1 ht1 => ?_⟩
  have v1 := same_new ht1 (.tup [.int ((wd : Rat) * c).num, .int ((wd : Rat) * c).den])
  have f1' : FrR (upd H2 t1 (.tup [.int ((wd : Rat) * c).num, .int ((wd : Rat) * c).den])) t1 ((wd : Rat) * c) := upd_same
  generalize upd H2 t1 (.tup [.int ((wd : Rat) * c).num, .int ((wd : Rat) * c).den]) = H3 at v1 f1'
  refine ⟨_, rfl, _, rfl, hg, p, c, rfl, (s2.trans v1) _ _ hp, sc, nh, fun t2 ht2 => ?_⟩
  have v2 := same_new ht2 (.tup [.int ((hg : Rat) * c).num, .int ((hg : Rat) * c).den])
  have f2' : FrR (upd H3 t2 (.tup [.int ((hg : Rat) * c).num, .int ((hg : Rat) * c).den])) t2 ((hg : Rat) * c) := upd_same
  generalize upd H3 t2 (.tup [.int ((hg : Rat) * c).num, .int ((hg : Rat) * c).den]) = H4 at v2 f2'
  have v12 := v1.trans v2
  refine ⟨_, rfl, acc, _, rfl, .inl ⟨SqL.of (v12 _ _ hacc2), fun t3 ht3 => ?_⟩⟩
  have v3 := same_new ht3 (.tup (es.map V.ref))
  have f3' : TupR (TupR FrR) (upd H4 t3 (.tup (es.map V.ref))) t3 (rowsOf c bs) := ⟨es, upd_same, (hE.keep mo_tf (del_sub H2 acc)).keep mo_tf (v12.trans v3)⟩
  generalize upd H4 t3 (.tup (es.map V.ref)) = H5 at v3 f3'
  refine ⟨by show 3 ≤ sizeLine; decide, fun pp hpp => ?_⟩
  have v4 := same_new hpp (.tup [.ref t1, .ref t2, .ref t3])
  exact q pp _ (s2.trans (v12.trans (v3.trans v4))) ⟨t1, t2, t3, upd_same, (v2.trans (v3.trans v4)) _ _ f1', (v3.trans v4) _ _ f2', mo_tup (R := TupR FrR) (fun s h => mo_tf s h) v4 f3'⟩
end
end My
namespace My
open PySem L2 Mth Wd Fl
noncomputable abbrev bxA (bs : List Box) (i : Nat) : Box := bs.getD i (0, 0, 0, 0)
noncomputable def thirdI (bs : List Box) (j k : Nat) (lev : Int) (n : Nat) : Bool := decide (n = j) || (decide (n = k) || !((decide (lev = (bxA bs n).d) || decide (lev = (bxA bs n).u)) && (decide ((bxA bs n).l ≤ (bxA bs j).r) && decide ((bxA bs j).l ≤ (bxA bs n).r))))
noncomputable def abvI (bs : List Box) (j k : Nat) : Bool := ((decide ((bxA bs j).l = (bxA bs k).l) && decide ((bxA bs j).r = (bxA bs k).r)) && (decide ((bxA bs j).d = (bxA bs k).u) || decide ((bxA bs k).d = (bxA bs j).u))) && (List.range bs.length).all (thirdI bs j k (max (bxA bs j).d (bxA bs k).d))
noncomputable def bsdI (bs : List Box) (j k : Nat) : Bool := (decide ((bxA bs j).d = (bxA bs k).d) && decide ((bxA bs j).u = (bxA bs k).u)) && (decide ((bxA bs j).r = (bxA bs k).l) || decide ((bxA bs k).r = (bxA bs j).l))
noncomputable def fitI (bs : List Box) (s : Stp) : Bool := if s.1 = 0 then abvI bs s.2.1 s.2.2 else bsdI bs s.2.1 s.2.2
section
variable {c : Rat} {bs : List Box}
theorem mulC_eq (hc : 0 < c) {x y : Int} : (x : Rat) * c = (y : Rat) * c ↔ x = y := by
  constructor
  · intro h
    have hn : c ≠ 0 := fun z => by rw [z] at hc; exact absurd hc (by decide)
    have : (x : Rat) = (y : Rat) := by grind
    exact_mod_cast this
  · rintro rfl; rfl
theorem mulC_lt (hc : 0 < c) {x y : Int} : (x : Rat) * c < (y : Rat) * c ↔ x < y := by
  rw [← Rat.intCast_lt_intCast (a := x) (b := y)]
  exact Rat.mul_lt_mul_right hc
theorem rows_at {n : Nat} (h : n < bs.length) : (rowsOf c bs).getD n [] = [((bxA bs n).l : Rat) * c, ((bxA bs n).d : Rat) * c, ((bxA bs n).r : Rat) * c, ((bxA bs n).u : Rat) * c] := by
  have e : (rowsOf c bs).getD n [] = (bxL (bxA bs n)).map fun (x : Int) => (x : Rat) * c := by
    simp [List.getD_eq_getElem?_getD, h]
  rw [e]; rfl
theorem third_eq (hc : 0 < c) {j k n : Nat} {x : Int} (hn : n < bs.length) : thirdR (rowsOf c bs) j k ((x : Rat) * c) (((bxA bs j).l : Rat) * c) (((bxA bs j).r : Rat) * c) n = thirdI bs j k x n := by
  unfold thirdR thirdI tchR
  rw [rows_at hn]
  show (_ || (_ || !((decide (((bxA bs n).d : Rat) * c = x * c) || decide (((bxA bs n).u : Rat) * c = x * c)) && (!decide (((bxA bs n).r : Rat) * c < ((bxA bs j).l : Rat) * c) && !decide (((bxA bs j).r : Rat) * c < ((bxA bs n).l : Rat) * c))))) = _
  rw [decide_eq_decide.mpr (mulC_eq hc), decide_eq_decide.mpr (mulC_eq hc), decide_eq_decide.mpr (mulC_lt hc), decide_eq_decide.mpr (mulC_lt hc)]
  congr 3
  have e1 : decide ((bxA bs n).d = x) = decide (x = (bxA bs n).d) := decide_eq_decide.mpr eq_comm
  have e2 : decide ((bxA bs n).u = x) = decide (x = (bxA bs n).u) := decide_eq_decide.mpr eq_comm
  have e3 : (!decide ((bxA bs n).r < (bxA bs j).l)) = decide ((bxA bs j).l ≤ (bxA bs n).r) := by rw [← decide_not]; exact decide_eq_decide.mpr Int.not_lt
  have e4 : (!decide ((bxA bs j).r < (bxA bs n).l)) = decide ((bxA bs n).l ≤ (bxA bs j).r) := by rw [← decide_not]; exact decide_eq_decide.mpr Int.not_lt
  rw [e1, e2, e3, e4, Bool.and_comm (decide ((bxA bs j).l ≤ (bxA bs n).r))]
theorem abv_eq (hc : 0 < c) {j k : Nat} (hj : j < bs.length) (hk : k < bs.length) (tj : (bxA bs j).d < (bxA bs j).u) (tk : (bxA bs k).d < (bxA bs k).u) : abvR (rowsOf c bs) j k = abvI bs j k := by
  unfold abvR
  rw [rows_at hj, rows_at hk]
  have el : lvlR [((bxA bs j).l : Rat) * c, ((bxA bs j).d : Rat) * c, ((bxA bs j).r : Rat) * c, ((bxA bs j).u : Rat) * c] [((bxA bs k).l : Rat) * c, ((bxA bs k).d : Rat) * c, ((bxA bs k).r : Rat) * c, ((bxA bs k).u : Rat) * c] = if (bxA bs j).d = (bxA bs k).u then some (((bxA bs j).d : Rat) * c) else if (bxA bs k).d = (bxA bs j).u then some (((bxA bs k).d : Rat) * c) else none := by
    show (if ((bxA bs j).d : Rat) * c = ((bxA bs k).u : Rat) * c then some (((bxA bs j).d : Rat) * c) else if ((bxA bs k).d : Rat) * c = ((bxA bs j).u : Rat) * c then some (((bxA bs k).d : Rat) * c) else none) = _
    simp only [mulC_eq hc]
  rw [el]
  have all : ∀ x : Int, (List.range (rowsOf c bs).length).all (thirdR (rowsOf c bs) j k ((x : Rat) * c) (((bxA bs j).l : Rat) * c) (((bxA bs j).r : Rat) * c)) = (List.range bs.length).all (thirdI bs j k x) := fun x => by
    rw [show (rowsOf c bs).length = bs.length from List.length_map ..]
    rw [Bool.eq_iff_iff, List.all_eq_true, List.all_eq_true]
    exact forall_congr' fun n => forall_congr' fun hn => by rw [third_eq hc (List.mem_range.mp hn)]
  unfold abvI
  by_cases z1 : (bxA bs j).d = (bxA bs k).u
  · rw [if_pos z1]
    show ((decide (((bxA bs j).l : Rat) * c = ((bxA bs k).l : Rat) * c) && decide (((bxA bs j).r : Rat) * c = ((bxA bs k).r : Rat) * c)) && _) = _
    rw [decide_eq_decide.mpr (mulC_eq hc), decide_eq_decide.mpr (mulC_eq hc), decide_eq_true z1, Bool.true_or, Bool.and_true]
    congr 1
    rw [show max (bxA bs j).d (bxA bs k).d = (bxA bs j).d by omega]
    exact all _
  · rw [if_neg z1, decide_eq_false z1, Bool.false_or]
    by_cases z2 : (bxA bs k).d = (bxA bs j).u
    · rw [if_pos z2, decide_eq_true z2, Bool.and_true]
      show ((decide (((bxA bs j).l : Rat) * c = ((bxA bs k).l : Rat) * c) && decide (((bxA bs j).r : Rat) * c = ((bxA bs k).r : Rat) * c)) && _) = _
      rw [decide_eq_decide.mpr (mulC_eq hc), decide_eq_decide.mpr (mulC_eq hc)]
      congr 1
      rw [show max (bxA bs j).d (bxA bs k).d = (bxA bs k).d by omega]
      exact all _
    · rw [if_neg z2, decide_eq_false z2, Bool.and_false, Bool.false_and]
theorem bsd_eq (hc : 0 < c) {j k : Nat} (hj : j < bs.length) (hk : k < bs.length) : bsdR (rowsOf c bs) j k = bsdI bs j k := by
  unfold bsdR bsdI
  rw [rows_at hj, rows_at hk]
  show ((decide (((bxA bs j).d : Rat) * c = ((bxA bs k).d : Rat) * c) && decide (((bxA bs j).u : Rat) * c = ((bxA bs k).u : Rat) * c)) && (decide (((bxA bs j).r : Rat) * c = ((bxA bs k).l : Rat) * c) || decide (((bxA bs k).r : Rat) * c = ((bxA bs j).l : Rat) * c))) = _
  rw [decide_eq_decide.mpr (mulC_eq hc), decide_eq_decide.mpr (mulC_eq hc), decide_eq_decide.mpr (mulC_eq hc), decide_eq_decide.mpr (mulC_eq hc)]
end
end My
namespace My
open PySem L2 Mth Wd Fl
noncomputable def oneS (bs : List Box) (s : Stp) : Nat := if s.1 = 0 then (if (bxA bs s.2.1).u = (bxA bs s.2.2).d then s.2.1 else s.2.2) else (if (bxA bs s.2.1).r = (bxA bs s.2.2).l then s.2.1 else s.2.2)
noncomputable def othS (bs : List Box) (s : Stp) : Nat := if s.1 = 0 then (if (bxA bs s.2.1).u = (bxA bs s.2.2).d then s.2.2 else s.2.1) else (if (bxA bs s.2.1).r = (bxA bs s.2.2).l then s.2.2 else s.2.1)
section
variable {bs : List Box}
theorem two_of (s : Stp) : (oneS bs s = s.2.1 ∧ othS bs s = s.2.2) ∨ (oneS bs s = s.2.2 ∧ othS bs s = s.2.1) := by
  unfold oneS othS
  split <;> split <;> simp
theorem fit_abv {s : Stp} (h0 : s.1 = 0) (h : fitI bs s = true) : (bxA bs (oneS bs s)).u = (bxA bs (othS bs s)).d ∧ (bxA bs (oneS bs s)).l = (bxA bs (othS bs s)).l ∧ (bxA bs (oneS bs s)).r = (bxA bs (othS bs s)).r := by
  unfold fitI at h
  rw [if_pos h0] at h
  unfold abvI at h
  simp only [Bool.and_eq_true, Bool.or_eq_true, decide_eq_true_eq] at h
  obtain ⟨⟨⟨h1, h2⟩, h3⟩, _⟩ := h
  unfold oneS othS
  rw [if_pos h0, if_pos h0]
  split
  · rename_i z
    exact ⟨z, h1, h2⟩
  · rename_i z
    rcases h3 with h3 | h3
    · exact ⟨h3.symm, h1.symm, h2.symm⟩
    · exact absurd h3.symm z
theorem fit_bsd {s : Stp} (h0 : ¬ s.1 = 0) (h : fitI bs s = true) : (bxA bs (oneS bs s)).r = (bxA bs (othS bs s)).l ∧ (bxA bs (oneS bs s)).d = (bxA bs (othS bs s)).d ∧ (bxA bs (oneS bs s)).u = (bxA bs (othS bs s)).u := by
  unfold fitI at h
  rw [if_neg h0] at h
  unfold bsdI at h
  simp only [Bool.and_eq_true, Bool.or_eq_true, decide_eq_true_eq] at h
  obtain ⟨⟨h1, h2⟩, h3⟩ := h
  unfold oneS othS
  rw [if_neg h0, if_neg h0]
  split
  · rename_i z
    exact ⟨z, h1, h2⟩
  · rename_i z
    rcases h3 with h3 | h3
    · exact absurd h3 z
    · exact ⟨h3, h1.symm, h2.symm⟩
theorem corner (nov : NoOv bs) (tru : ∀ b ∈ bs, b.l < b.r ∧ b.d < b.u) {i j : Nat} (hi : i < bs.length) (hj : j < bs.length) (e1 : (bxA bs i).l = (bxA bs j).l) (e2 : (bxA bs i).d = (bxA bs j).d) : i = j := by
  have gi : bxA bs i = bs[i] := by simp [hi]
  have gj : bxA bs j = bs[j] := by simp [hj]
  have ti := tru bs[i] (List.getElem_mem hi)
  have tj := tru bs[j] (List.getElem_mem hj)
  rw [gi, gj] at e1 e2
  have key : ovB bs[i] bs[j] = true := ov_iff.mpr ⟨by omega, by omega, by omega, by omega, by omega, by omega, by omega, by omega⟩
  have key2 : ovB bs[j] bs[i] = true := ov_iff.mpr ⟨by omega, by omega, by omega, by omega, by omega, by omega, by omega, by omega⟩
  have pw := List.pairwise_iff_getElem.mp nov
  rcases Nat.lt_trichotomy i j with z | z | z
  · have := pw i j hi hj z
    rw [key] at this
    cases this
  · exact z
  · have := pw j i hj hi z
    rw [key2] at this
    cases this
theorem fit_inj (nov : NoOv bs) (tru : ∀ b ∈ bs, b.l < b.r ∧ b.d < b.u) {s t : Stp} (hs : s ∈ stepsOf bs.length) (ht : t ∈ stepsOf bs.length) (fs : fitI bs s = true) (ft : fitI bs t = true) (e1 : s.1 = t.1) (e2 : oneS bs s = oneS bs t) : s = t := by
  obtain ⟨a1, a2, a3⟩ := mem_steps.mp hs
  obtain ⟨b1, b2, b3⟩ := mem_steps.mp ht
  have ls : othS bs s < bs.length := by rcases two_of (bs := bs) s with z | z <;> omega
  have lt : othS bs t < bs.length := by rcases two_of (bs := bs) t with z | z <;> omega
  have eo : othS bs s = othS bs t := by
    refine corner nov tru ls lt ?_ ?_
    · by_cases z : s.1 = 0
      · have p := fit_abv z fs
        have q := fit_abv (e1 ▸ z) ft
        rw [e2] at p
        omega
      · have p := fit_bsd z fs
        have q := fit_bsd (e1 ▸ z) ft
        rw [e2] at p
        omega
    · by_cases z : s.1 = 0
      · have p := fit_abv z fs
        have q := fit_abv (e1 ▸ z) ft
        rw [e2] at p
        omega
      · have p := fit_bsd z fs
        have q := fit_bsd (e1 ▸ z) ft
        rw [e2] at p
        omega
  obtain ⟨c, j, k⟩ := s
  obtain ⟨c', j', k'⟩ := t
  have ts := two_of (bs := bs) (c, j, k)
  have tt := two_of (bs := bs) (c', j', k')
  dsimp only at *
  simp only [Prod.mk.injEq]
  omega
theorem sub_permN {α : Type} [DecidableEq α] : ∀ {l m : List α}, l.Nodup → (∀ r ∈ l, r ∈ m) → ∃ k, m.Perm (l ++ k)
  | [], m, _, _ => ⟨m, .refl _⟩
  | x :: l, m, h1, h2 => by
    obtain ⟨n1, n2⟩ := List.nodup_cons.mp h1
    obtain ⟨k, p⟩ := sub_permN (l := l) (m := m.erase x) n2 fun r hr => by
      have ne : r ≠ x := fun z => n1 (z ▸ hr)
      exact (List.mem_erase_of_ne ne).mpr (h2 r (List.mem_cons_of_mem _ hr))
    exact ⟨k, (List.perm_cons_erase (h2 x List.mem_cons_self)).trans (p.cons x)⟩
theorem few_fit (nov : NoOv bs) (tru : ∀ b ∈ bs, b.l < b.r ∧ b.d < b.u) : ((stepsOf bs.length).filter (fitI bs)).length ≤ 2 * bs.length := by
  have nd : (((stepsOf bs.length).filter (fitI bs)).map fun s => 2 * oneS bs s + s.1).Nodup := by
    rw [List.Nodup, List.pairwise_map]
    refine List.Pairwise.imp_of_mem (fun {s t} hs ht ne z => ne ?_) ((nd_steps bs.length bs.length).sublist List.filter_sublist)
    obtain ⟨ms, fs⟩ := List.mem_filter.mp hs
    obtain ⟨mt, ft⟩ := List.mem_filter.mp ht
    have a1 := (mem_steps.mp ms).1
    have b1 := (mem_steps.mp mt).1
    exact fit_inj nov tru ms mt fs ft (by omega) (by omega)
  have sub : ∀ x ∈ (((stepsOf bs.length).filter (fitI bs)).map fun s => 2 * oneS bs s + s.1), x ∈ List.range (2 * bs.length) := fun x hx => by
    obtain ⟨s, hs, rfl⟩ := List.mem_map.mp hx
    obtain ⟨a1, a2, a3⟩ := mem_steps.mp (List.mem_filter.mp hs).1
    rw [List.mem_range]
    rcases two_of (bs := bs) s with z | z <;> omega
  obtain ⟨m, pm⟩ := sub_permN nd sub
  have := pm.length_eq
  rw [List.length_range, List.length_append, List.length_map] at this
  omega
end
end My
namespace My
open PySem PySem.Spec PyProof.Rows L2 Mth Wd Fl
structure BxF (bs : List Box) : Prop where
  tru : ∀ b ∈ bs, b.l < b.r ∧ b.d < b.u
  nov : NoOv bs
  inn : ∀ b ∈ bs, 0 ≤ b.l ∧ 0 ≤ b.d ∧ b.r ≤ 1000000 ∧ b.u ≤ 1000000
theorem small_C {c : Rat} (sc : Sb 7 13 c) {x : Int} (hx : x.natAbs ≤ 2 ^ 20) : ((x : Rat) * c).den ≤ 2 ^ 16 ∧ ((x : Rat) * c).num.natAbs ≤ 2 ^ 64 := by
  have dn := c.den_nz
  have e0 := frac_rat (x * c.num) (c.den : Int) (by omega)
  have l1 := frac_le_l (x * c.num) (c.den : Int) (by omega)
  have l2 := frac_le_r (x * c.num) (c.den : Int) (by omega)
  have er : (((x * c.num : Int)) : Rat) / (((c.den : Int)) : Rat) = (x : Rat) * c := by
    have a1 := rat_num c
    have a2 := rat_den_ne c
    simp only [Rat.intCast_mul, ic]
    grind
  rw [er] at e0
  rw [e0] at l1 l2
  dsimp only at l1 l2
  rw [Int.natAbs_natCast, Int.natAbs_natCast] at l2
  have s1 := sc.1
  have s2 := sc.2
  refine ⟨Nat.le_trans l2 (Nat.le_trans s2 (by decide)), Nat.le_trans l1 ?_⟩
  rw [Int.natAbs_mul]
  exact Nat.le_trans (Nat.mul_le_mul hx s1) (by decide)
theorem sf_C {c : Rat} (sc : Sb 7 13 c) {x : Int} (hx : x.natAbs ≤ 2 ^ 20) : Sf ((x : Rat) * c) := by
  obtain ⟨h1, h2⟩ := small_C sc hx
  exact ⟨Nat.le_trans h2 (Nat.pow_le_pow_right (by decide) (by decide)), Nat.le_trans h1 (Nat.pow_le_pow_right (by decide) (by decide))⟩
theorem BxF.bd {bs : List Box} (x : BxF bs) : ∀ b ∈ bs, BxW b := fun b hb y hy => by
  have i := x.inn b hb
  have t := x.tru b hb
  have p : (2 : Nat) ^ 20 = 1048576 := by decide
  simp only [List.mem_cons, List.not_mem_nil, or_false] at hy
  dsimp only [Box.l, Box.d, Box.r, Box.u] at i t
  rcases hy with rfl | rfl | rfl | rfl <;> omega
theorem rows_k {c : Rat} {bs : List Box} (sc : Sb 7 13 c) (n : bs.length ≤ 30) (x : BxF bs) : RowsK (rowsOf c bs) := by
  refine ⟨by rw [List.length_map]; exact n, fun r hr => ?_, fun r hr y hy => ?_⟩
  · obtain ⟨b, _, rfl⟩ := List.mem_map.mp hr; rfl
  · obtain ⟨b, hb, rfl⟩ := List.mem_map.mp hr
    obtain ⟨z, hz, rfl⟩ := List.mem_map.mp hy
    exact sf_C sc (x.bd b hb z hz)
theorem fit_one {c : Rat} (hc : 0 < c) {bs : List Box} (x : BxF bs) {s : Stp} (hs : s ∈ stepsOf bs.length) : fitB (rowsOf c bs) s = fitI bs s := by
  obtain ⟨h0, h1, h2⟩ := mem_steps.mp hs
  have tr : ∀ i, i < bs.length → (bxA bs i).d < (bxA bs i).u := fun i hi => by
    have e : bxA bs i = bs[i] := by simp [hi]
    rw [e]; exact (x.tru _ (List.getElem_mem hi)).2
  unfold fitB fitI
  rw [abv_eq hc (by omega) h2 (tr _ (by omega)) (tr _ h2), bsd_eq hc (by omega) h2]
theorem fit_same {c : Rat} (hc : 0 < c) {bs : List Box} (x : BxF bs) : (stepsOf (rowsOf c bs).length).filter (fitB (rowsOf c bs)) = (stepsOf bs.length).filter (fitI bs) := by
  rw [show (rowsOf c bs).length = bs.length from List.length_map ..]
  exact List.filter_congr fun s hs => fit_one hc x hs
theorem few64 {bs : List Box} (n : bs.length ≤ 30) (x : BxF bs) : ((stepsOf bs.length).filter (fitI bs)).length < 64 := by
  have := few_fit x.nov x.tru
  omega
noncomputable abbrev z4 : Box := (0, 0, 0, 0)
noncomputable abbrev dnI (bs : List Box) (s : Stp) : List Box := dnL uniB z4 bs s.2.1 s.2.2
theorem mn_C {c : Rat} (hc : 0 < c) (x y : Int) : mnR ((x : Rat) * c) ((y : Rat) * c) = ((min x y : Int) : Rat) * c := by
  unfold mnR
  simp only [mulC_lt hc]
  split
  · rw [Int.min_eq_right (by omega)]
  · rw [Int.min_eq_left (by omega)]
theorem mx_C {c : Rat} (hc : 0 < c) (x y : Int) : mxR ((x : Rat) * c) ((y : Rat) * c) = ((max x y : Int) : Rat) * c := by
  unfold mxR
  simp only [mulC_lt hc]
  split
  · rw [Int.max_eq_left (by omega)]
  · rw [Int.max_eq_right (by omega)]
theorem tog_C {c : Rat} (hc : 0 < c) (a b : Box) : togR ((bxL a).map fun (x : Int) => (x : Rat) * c) ((bxL b).map fun (x : Int) => (x : Rat) * c) = (bxL (uniB a b)).map fun (x : Int) => (x : Rat) * c := by
  show [mnR ((a.l : Rat) * c) ((b.l : Rat) * c), mnR ((a.d : Rat) * c) ((b.d : Rat) * c), mxR ((a.r : Rat) * c) ((b.r : Rat) * c), mxR ((a.u : Rat) * c) ((b.u : Rat) * c)] = [((min a.l b.l : Int) : Rat) * c, ((min a.d b.d : Int) : Rat) * c, ((max a.r b.r : Int) : Rat) * c, ((max a.u b.u : Int) : Rat) * c]
  rw [mn_C hc, mn_C hc, mx_C hc, mx_C hc]
theorem dn_C {c : Rat} (hc : 0 < c) {bs : List Box} {s : Stp} (hs : s ∈ stepsOf bs.length) : dnS (rowsOf c bs) s = rowsOf c (dnI bs s) := by
  obtain ⟨h0, h1, h2⟩ := mem_steps.mp hs
  show ((rowsOf c bs).set s.2.1 (togR ((rowsOf c bs).getD s.2.1 []) ((rowsOf c bs).getD s.2.2 []))).eraseIdx s.2.2 = _
  have e : ∀ i, i < bs.length → (rowsOf c bs).getD i [] = (bxL (bs.getD i z4)).map fun (x : Int) => (x : Rat) * c := fun i hi => by
    simp [List.getD_eq_getElem?_getD, hi]
  rw [e _ (by omega), e _ h2, tog_C hc]
  unfold dnI dnL
  rw [show rowsOf c ((bs.set s.2.1 (uniB (bs.getD s.2.1 z4) (bs.getD s.2.2 z4))).eraseIdx s.2.2) = ((rowsOf c (bs.set s.2.1 (uniB (bs.getD s.2.1 z4) (bs.getD s.2.2 z4)))).eraseIdx s.2.2) from (eraseMap ..).symm]
  congr 1
  exact (List.map_set ..).symm
structure KeepI (J : List Box → Prop) : Prop where
  n : ∀ bs, J bs → bs.length ≤ 30
  x : ∀ bs, J bs → BxF bs
  dn : ∀ bs s, J bs → s ∈ stepsOf bs.length → fitI bs s = true → J (dnI bs s)
noncomputable abbrev rowsJ (c : Rat) (J : List Box → Prop) (rows : List (List Rat)) : Prop := ∃ bs, rows = rowsOf c bs ∧ J bs
theorem KeepI.rows {c : Rat} (hc : 0 < c) (sc : Sb 7 13 c) {J : List Box → Prop} (k : KeepI J) : KeepR (rowsJ c J) := by
  refine ⟨?_, ?_, ?_⟩
  · rintro _ ⟨bs, rfl, j⟩
    exact rows_k sc (k.n bs j) (k.x bs j)
  · rintro _ ⟨bs, rfl, j⟩
    rw [fit_same hc (k.x bs j)]
    exact few64 (k.n bs j) (k.x bs j)
  · rintro _ s ⟨bs, rfl, j⟩ ⟨h1, h2⟩
    have h1' : s ∈ stepsOf bs.length := by rw [show (rowsOf c bs).length = bs.length from List.length_map ..] at h1; exact h1
    rw [fit_one hc (k.x bs j) h1'] at h2
    exact ⟨_, dn_C hc h1', k.dn bs s j h1' h2⟩
theorem fit_nbr {bs : List Box} {s : Stp} (h : fitI bs s = true) : Nbr (bxA bs s.2.1) (bxA bs s.2.2) ∨ Nbr (bxA bs s.2.2) (bxA bs s.2.1) := by
  have key : Nbr (bxA bs (oneS bs s)) (bxA bs (othS bs s)) := by
    by_cases z : s.1 = 0
    · exact .inr (fit_abv z h)
    · exact .inl (fit_bsd z h)
  rcases two_of (bs := bs) s with ⟨e1, e2⟩ | ⟨e1, e2⟩
  · rw [e1, e2] at key; exact .inl key
  · rw [e1, e2] at key; exact .inr key
theorem step_perm {bs : List Box} {s : Stp} (hs : s ∈ stepsOf bs.length) (ft : fitI bs s = true) : ∃ a b rest, Nbr a b ∧ bs.Perm (a :: b :: rest) ∧ (dnI bs s).Perm (uniB a b :: rest) := by
  obtain ⟨h0, h1, h2⟩ := mem_steps.mp hs
  obtain ⟨A, B, C, a, b, e1, ea, eb, e2⟩ := dn_split (f := uniB) (d := z4) h1 h2
  have p1 : bs.Perm (a :: b :: (A ++ B ++ C)) := by
    rw [e1]
    refine List.perm_middle.trans (List.Perm.cons a ?_)
    rw [← List.append_assoc]
    exact List.perm_middle
  have p2 : (dnI bs s).Perm (uniB a b :: (A ++ B ++ C)) := by
    show (dnL uniB z4 bs s.2.1 s.2.2).Perm _
    rw [e2, List.append_assoc]
    exact List.perm_middle
  rcases fit_nbr ft with n | n
  · rw [show bxA bs s.2.1 = a from ea, show bxA bs s.2.2 = b from eb] at n
    exact ⟨a, b, _, n, p1, p2⟩
  · rw [show bxA bs s.2.1 = a from ea, show bxA bs s.2.2 = b from eb] at n
    exact ⟨b, a, _, n, p1.trans (.swap b a _), by rw [uniB_comm]; exact p2⟩
theorem flb_bxf {w h : Int} {bs : List Box} (t : FlB w h bs) (w1 : w ≤ 1000000) (h1 : h ≤ 1000000) : BxF bs := by
  refine ⟨t.tru, t.tile.noOv, fun b hb => ?_⟩
  have := t.tile.inn b hb
  unfold inB at this
  omega
end My
namespace My
open PySem PySem.Spec PyProof.Rows L2 Mth Wd Fl
noncomputable abbrev Lb : Type := Nat × Box
noncomputable abbrev bxs (L : List Lb) : List Box := L.map Prod.snd
noncomputable def mrg (p q : Lb) : Lb := (min p.1 q.1, uniB p.2 q.2)
theorem mrg_comm (p q : Lb) : mrg p q = mrg q p := by unfold mrg; rw [Nat.min_comm, uniB_comm]
theorem uniB_assoc (a b c : Box) : uniB (uniB a b) c = uniB a (uniB b c) := by
  unfold uniB; refine box_eq ?_ ?_ ?_ ?_ <;> dsimp only [Box.l, Box.d, Box.r, Box.u] <;> omega
theorem mrg_assoc (p q r : Lb) : mrg (mrg p q) r = mrg p (mrg q r) := by
  unfold mrg; dsimp only; rw [uniB_assoc, Nat.min_assoc]
noncomputable def tchE (lev : Int) (b e : Box) : Prop := (lev = e.d ∨ lev = e.u) ∧ e.l ≤ b.r ∧ b.l ≤ e.r
structure AbvU (L : List Lb) (p q : Lb) : Prop where
  l : p.2.l = q.2.l
  r : p.2.r = q.2.r
  on : p.2.d = q.2.u ∨ q.2.d = p.2.u
  no : ∀ e ∈ L, e ≠ p → e ≠ q → ¬ tchE (max p.2.d q.2.d) p.2 e.2
noncomputable def BsdU (p q : Lb) : Prop := p.2.d = q.2.d ∧ p.2.u = q.2.u ∧ (p.2.r = q.2.l ∨ q.2.r = p.2.l)
noncomputable def FitU (L : List Lb) (c : Nat) (p q : Lb) : Prop := if c = 0 then AbvU L p q else BsdU p q
theorem AbvU.symm {L : List Lb} {p q : Lb} (h : AbvU L p q) : AbvU L q p :=
  ⟨h.l.symm, h.r.symm, h.on.symm, fun e he n1 n2 k => h.no e he n2 n1 (by unfold tchE at k ⊢; rw [Int.max_comm, h.l, h.r]; exact k)⟩
theorem BsdU.symm {p q : Lb} (h : BsdU p q) : BsdU q p := ⟨h.1.symm, h.2.1.symm, h.2.2.symm⟩
theorem FitU.symm {L : List Lb} {c : Nat} {p q : Lb} (h : FitU L c p q) : FitU L c q p := by
  unfold FitU at h ⊢
  split
  · rename_i z; rw [if_pos z] at h; exact h.symm
  · rename_i z; rw [if_neg z] at h; exact h.symm
structure LbF (w h : Int) (L : List Lb) : Prop where
  up : L.Pairwise fun a b => a.1 < b.1
  fl : FlB w h (bxs L)
section
variable {w h : Int} {L : List Lb}
theorem LbF.lab (t : LbF w h L) {p q : Lb} (hp : p ∈ L) (hq : q ∈ L) (e : p.1 = q.1) : p = q := by
  obtain ⟨i, hi, rfl⟩ := List.mem_iff_getElem.mp hp
  obtain ⟨j, hj, rfl⟩ := List.mem_iff_getElem.mp hq
  have pw := List.pairwise_iff_getElem.mp t.up
  rcases Nat.lt_trichotomy i j with z | z | z
  · have := pw i j hi hj z; omega
  · subst z; rfl
  · have := pw j i hj hi z; omega
theorem LbF.bx (t : LbF w h L) {p q : Lb} (hp : p ∈ L) (hq : q ∈ L) (h1 : p.2.l < q.2.r) (h2 : q.2.l < p.2.r) (h3 : p.2.d < q.2.u) (h4 : q.2.d < p.2.u) : p = q := by
  have e := t.fl.tlr.uniq p.2 q.2 (List.mem_map.mpr ⟨p, hp, rfl⟩) (List.mem_map.mpr ⟨q, hq, rfl⟩) h1 h2 h3 h4
  obtain ⟨i, hi, rfl⟩ := List.mem_iff_getElem.mp hp
  obtain ⟨j, hj, rfl⟩ := List.mem_iff_getElem.mp hq
  have nd := t.fl.nd
  have e' : (bxs L)[i]'(by rw [List.length_map]; exact hi) = (bxs L)[j]'(by rw [List.length_map]; exact hj) := by
    rw [List.getElem_map, List.getElem_map]; exact e
  have := (List.getElem_inj nd).mp e'
  subst this; rfl
theorem LbF.tru (t : LbF w h L) {p : Lb} (hp : p ∈ L) : p.2.l < p.2.r ∧ p.2.d < p.2.u := t.fl.tru _ (List.mem_map.mpr ⟨p, hp, rfl⟩)
theorem LbF.nd (t : LbF w h L) : L.Nodup := List.Pairwise.imp (fun {a b} k e => by rw [e] at k; omega) t.up
structure OneU (L : List Lb) (p q : Lb) (R : List Lb) : Prop where
  up : R.Pairwise fun a b => a.1 < b.1
  mem : ∀ e, e ∈ R ↔ (e ∈ L ∧ e ≠ p ∧ e ≠ q) ∨ e = mrg p q
theorem OneU.symm {p q : Lb} {R : List Lb} (h : OneU L p q R) : OneU L q p R := ⟨h.up, fun e => by rw [h.mem, mrg_comm]; exact ⟨fun z => z.imp (fun ⟨a, b, c⟩ => ⟨a, c, b⟩) id, fun z => z.imp (fun ⟨a, b, c⟩ => ⟨a, c, b⟩) id⟩⟩
theorem up_ext : ∀ {L M : List Lb}, L.Pairwise (fun a b => a.1 < b.1) → M.Pairwise (fun a b => a.1 < b.1) → (∀ e, e ∈ L ↔ e ∈ M) → L = M
  | [], [], _, _, _ => rfl
  | [], b :: M, _, _, h => absurd ((h b).mpr (by simp)) (by simp)
  | a :: L, [], _, _, h => absurd ((h a).mp (by simp)) (by simp)
  | a :: L, b :: M, h1, h2, h => by
    obtain ⟨a1, a2⟩ := List.pairwise_cons.mp h1
    obtain ⟨b1, b2⟩ := List.pairwise_cons.mp h2
    have e : a = b := by
      rcases List.mem_cons.mp ((h a).mp (by simp)) with z | z
      · exact z
      · rcases List.mem_cons.mp ((h b).mpr (by simp)) with y | y
        · exact y.symm
        · have := b1 a z; have := a1 b y; omega
    subst e
    congr 1
    refine up_ext a2 b2 fun e => ⟨fun he => ?_, fun he => ?_⟩
    · rcases List.mem_cons.mp ((h e).mp (by simp [he])) with z | z
      · subst z; have := a1 e he; omega
      · exact z
    · rcases List.mem_cons.mp ((h e).mpr (by simp [he])) with z | z
      · subst z; have := b1 e he; omega
      · exact z
theorem tch_mrg (t : LbF w h L) {c : Nat} {p q : Lb} (hp : p ∈ L) (hq : q ∈ L) (ft : FitU L c p q) {lev : Int} {b : Box} (hb : b.l ≤ b.r) (k : tchE lev b (mrg p q).2) : tchE lev b p.2 ∨ tchE lev b q.2 := by
  have tp := t.tru hp
  have tq := t.tru hq
  unfold tchE mrg uniB at k
  unfold tchE
  unfold FitU at ft
  dsimp only [Box.l, Box.d, Box.r, Box.u] at k tp tq hb ⊢
  split at ft
  · obtain ⟨f1, f2, f3, _⟩ := ft
    dsimp only [Box.l, Box.d, Box.r, Box.u] at f1 f2 f3
    omega
  · obtain ⟨f1, f2, f3⟩ := ft
    dsimp only [Box.l, Box.d, Box.r, Box.u] at f1 f2 f3
    omega
theorem dia_apart (t : LbF w h L) {c d : Nat} {p q u v : Lb} {R : List Lb} (hp : p ∈ L) (hq : q ∈ L) (hu : u ∈ L) (hv : v ∈ L) (n1 : u ≠ p) (n2 : u ≠ q) (n3 : v ≠ p) (n4 : v ≠ q) (f1 : FitU L c p q) (f2 : FitU L d u v) (o1 : OneU L p q R) : u ∈ R ∧ v ∈ R ∧ FitU R d u v ∧ ∀ T, OneU R u v T → ∀ e, e ∈ T ↔ (e ∈ L ∧ e ≠ p ∧ e ≠ q ∧ e ≠ u ∧ e ≠ v) ∨ e = mrg p q ∨ e = mrg u v := by
  have mu : u ∈ R := (o1.mem u).mpr (.inl ⟨hu, n1, n2⟩)
  have mv : v ∈ R := (o1.mem v).mpr (.inl ⟨hv, n3, n4⟩)
  have lab : ∀ x, x ∈ L → x ≠ p → x ≠ q → mrg p q ≠ x := fun x hx a b z => by
    have e : min p.1 q.1 = x.1 := congrArg Prod.fst z
    rcases Nat.le_total p.1 q.1 with k | k
    · rw [Nat.min_eq_left k] at e; exact a (t.lab hx hp e.symm)
    · rw [Nat.min_eq_right k] at e; exact b (t.lab hx hq e.symm)
  refine ⟨mu, mv, ?_, fun T o3 e => ?_⟩
  · unfold FitU at f2 ⊢
    split
    · rename_i z
      rw [if_pos z] at f2
      refine ⟨f2.l, f2.r, f2.on, fun e he a b k => ?_⟩
      rcases (o1.mem e).mp he with ⟨he', _, _⟩ | rfl
      · exact f2.no e he' a b k
      · rcases tch_mrg t hp hq f1 (Int.le_of_lt (t.tru hu).1) k with k | k
        · exact f2.no p hp (Ne.symm n1) (Ne.symm n3) k
        · exact f2.no q hq (Ne.symm n2) (Ne.symm n4) k
    · rename_i z
      rw [if_neg z] at f2
      exact f2
  · rw [o3.mem, o1.mem]
    constructor
    · rintro (⟨⟨a, b, c'⟩ | rfl, x, y⟩ | rfl)
      · exact .inl ⟨a, b, c', x, y⟩
      · exact .inr (.inl rfl)
      · exact .inr (.inr rfl)
    · rintro (⟨a, b, c', x, y⟩ | rfl | rfl)
      · exact .inl ⟨.inl ⟨a, b, c'⟩, x, y⟩
      · exact .inl ⟨.inr rfl, lab u hu n1 n2, lab v hv n3 n4⟩
      · exact .inr rfl
theorem dia_share (t : LbF w h L) {c d : Nat} {p q v : Lb} {R : List Lb} (hp : p ∈ L) (hq : q ∈ L) (hv : v ∈ L) (npq : p ≠ q) (nqv : q ≠ v) (npv : p ≠ v) (f1 : FitU L c p q) (f2 : FitU L d q v) (o1 : OneU L p q R) : mrg p q ∈ R ∧ v ∈ R ∧ mrg p q ≠ v ∧ FitU R d (mrg p q) v ∧ ∀ T, OneU R (mrg p q) v T → ∀ e, e ∈ T ↔ (e ∈ L ∧ e ≠ p ∧ e ≠ q ∧ e ≠ v) ∨ e = mrg (mrg p q) v := by
  have tp := t.tru hp
  have tq := t.tru hq
  have tv := t.tru hv
  have mv : v ∈ R := (o1.mem v).mpr (.inl ⟨hv, Ne.symm npv, Ne.symm nqv⟩)
  have lab : mrg p q ≠ v := fun z => by
    have e : min p.1 q.1 = v.1 := congrArg Prod.fst z
    rcases Nat.le_total p.1 q.1 with k | k
    · rw [Nat.min_eq_left k] at e; exact npv (t.lab hp hv e)
    · rw [Nat.min_eq_right k] at e; exact nqv (t.lab hq hv e)
  have labx : ∀ x, x ∈ L → x ≠ p → x ≠ q → x ≠ mrg p q := fun x hx a b z => by
    have e : x.1 = min p.1 q.1 := congrArg Prod.fst z
    rcases Nat.le_total p.1 q.1 with k | k
    · rw [Nat.min_eq_left k] at e; exact a (t.lab hx hp e)
    · rw [Nat.min_eq_right k] at e; exact b (t.lab hx hq e)
  refine ⟨(o1.mem _).mpr (.inr rfl), mv, lab, ?_, fun T o3 e => ?_⟩
  · unfold FitU at f1 f2 ⊢
    by_cases zc : c = 0
    · rw [if_pos zc] at f1
      obtain ⟨a1, a2, a3, a4⟩ := f1
      by_cases zd : d = 0
      · rw [if_pos zd] at f2 ⊢
        obtain ⟨b1, b2, b3, b4⟩ := f2
        -- p and v are not on one side of q
        have side : (p.2.u = q.2.d ∧ q.2.u = v.2.d) ∨ (v.2.u = q.2.d ∧ q.2.u = p.2.d) := by
          rcases a3 with a3 | a3 <;> rcases b3 with b3 | b3
          · exact .inr ⟨b3.symm, a3.symm⟩
          · exact absurd (t.bx hp hv (by omega) (by omega) (by omega) (by omega)) npv
          · exact absurd (t.bx hp hv (by omega) (by omega) (by omega) (by omega)) npv
          · exact .inl ⟨a3.symm, b3.symm⟩
        have eb : (mrg p q).2 = (q.2.l, min p.2.d q.2.d, q.2.r, max p.2.u q.2.u) := by
          show uniB p.2 q.2 = _
          unfold uniB; refine box_eq ?_ ?_ ?_ ?_ <;> dsimp only [Box.l, Box.d, Box.r, Box.u] at * <;> omega
        refine ⟨by rw [eb]; exact b1, by rw [eb]; exact b2, by rw [eb]; show min p.2.d q.2.d = v.2.u ∨ v.2.d = max p.2.u q.2.u; omega, fun e he n1 n2 k => ?_⟩
        rcases (o1.mem e).mp he with ⟨he', np, nq⟩ | z
        · refine b4 e he' nq n2 ?_
          rw [eb] at k
          unfold tchE at k ⊢
          dsimp only [Box.l, Box.d, Box.r, Box.u] at *
          omega
        · exact n1 z
      · rw [if_neg zd] at f2
        exfalso
        obtain ⟨b1, b2, b3⟩ := f2
        refine a4 v hv (Ne.symm npv) (Ne.symm nqv) ?_
        unfold tchE
        omega
    · rw [if_neg zc] at f1
      obtain ⟨a1, a2, a3⟩ := f1
      by_cases zd : d = 0
      · rw [if_pos zd] at f2
        exfalso
        obtain ⟨b1, b2, b3, b4⟩ := f2
        refine b4 p hp npq npv ?_
        unfold tchE
        omega
      · rw [if_neg zd] at f2 ⊢
        obtain ⟨b1, b2, b3⟩ := f2
        have side : (p.2.r = q.2.l ∧ q.2.r = v.2.l) ∨ (v.2.r = q.2.l ∧ q.2.r = p.2.l) := by
          rcases a3 with a3 | a3 <;> rcases b3 with b3 | b3
          · exact .inl ⟨a3, b3⟩
          · exact absurd (t.bx hp hv (by omega) (by omega) (by omega) (by omega)) npv
          · exact absurd (t.bx hp hv (by omega) (by omega) (by omega) (by omega)) npv
          · exact .inr ⟨b3, a3⟩
        have eb : (mrg p q).2 = (min p.2.l q.2.l, q.2.d, max p.2.r q.2.r, q.2.u) := by
          show uniB p.2 q.2 = _
          unfold uniB; refine box_eq ?_ ?_ ?_ ?_ <;> dsimp only [Box.l, Box.d, Box.r, Box.u] at * <;> omega
        refine ⟨by rw [eb]; exact b1, by rw [eb]; exact b2, by rw [eb]; show max p.2.r q.2.r = v.2.l ∨ v.2.r = min p.2.l q.2.l; omega⟩
  · rw [o3.mem, o1.mem]
    constructor
    · rintro (⟨⟨a, b, c'⟩ | rfl, x, y⟩ | rfl)
      · exact .inl ⟨a, b, c', y⟩
      · exact absurd rfl x
      · exact .inr rfl
    · rintro (⟨a, b, c', y⟩ | rfl)
      · exact .inl ⟨.inl ⟨a, b, c'⟩, labx e a b c', y⟩
      · exact .inr rfl
end
end My
namespace My
open PySem PySem.Spec PyProof.Rows L2 Mth Wd Fl
noncomputable abbrev zL : Lb := (0, z4)
noncomputable abbrev dnX (L : List Lb) (s : Stp) : List Lb := dnL mrg zL L s.2.1 s.2.2
noncomputable def stepL (L : List Lb) (s : Stp) : Prop := s ∈ stepsOf L.length ∧ fitI (bxs L) s = true
theorem bxs_get {L : List Lb} (i : Nat) : (bxs L).getD i z4 = (L.getD i zL).2 := by
  rw [List.getD_eq_getElem?_getD, List.getElem?_map, List.getD_eq_getElem?_getD]
  cases L[i]? <;> rfl
theorem bxs_dn (L : List Lb) (s : Stp) : bxs (dnX L s) = dnI (bxs L) s := by
  show ((L.set s.2.1 (mrg (L.getD s.2.1 zL) (L.getD s.2.2 zL))).eraseIdx s.2.2).map Prod.snd = ((bxs L).set s.2.1 (uniB ((bxs L).getD s.2.1 z4) ((bxs L).getD s.2.2 z4))).eraseIdx s.2.2
  rw [← eraseMap, List.map_set, bxs_get, bxs_get]
  rfl
section
variable {w h : Int} {L : List Lb}
theorem getL {i : Nat} (hi : i < L.length) : L.getD i zL = L[i] := by simp [hi]
theorem one_of (t : LbF w h L) {s : Stp} (hs : s ∈ stepsOf L.length) : OneU L (L.getD s.2.1 zL) (L.getD s.2.2 zL) (dnX L s) := by
  obtain ⟨h0, h1, h2⟩ := mem_steps.mp hs
  obtain ⟨A, B, C, p, q, e1, ep, eq, e2⟩ := dn_split (f := mrg) (d := zL) h1 h2
  have nd := t.nd
  have up := t.up
  rw [ep, eq]
  have pq : p.1 < q.1 := by
    rw [e1, List.pairwise_append] at up
    exact (List.pairwise_cons.mp up.2.1).1 q (by simp)
  refine ⟨?_, fun e => ?_⟩
  · have u1 : (L.map Prod.fst).Pairwise (· < ·) := List.pairwise_map.mpr up
    have u2 : ((dnX L s).map Prod.fst).Sublist (L.map Prod.fst) := by
      show ((dnL mrg zL L s.2.1 s.2.2).map Prod.fst).Sublist _
      rw [e2, e1]
      simp only [List.map_append, List.map_cons]
      have : (mrg p q).1 = p.1 := Nat.min_eq_left (by omega)
      rw [this]
      refine List.Sublist.append (List.Sublist.refl _) (List.Sublist.cons_cons _ (List.Sublist.append (List.Sublist.refl _) (List.sublist_cons_self _ _)))
    exact List.pairwise_map.mp (u1.sublist u2)
  · show e ∈ dnL mrg zL L s.2.1 s.2.2 ↔ _
    rw [e2]
    rw [e1] at nd ⊢
    simp only [List.mem_append, List.mem_cons]
    rw [List.nodup_append] at nd
    obtain ⟨_, nd2, nd3⟩ := nd
    obtain ⟨n1, nd2⟩ := List.nodup_cons.mp nd2
    rw [List.nodup_append] at nd2
    obtain ⟨_, nd4, nd5⟩ := nd2
    obtain ⟨n2, _⟩ := List.nodup_cons.mp nd4
    simp only [List.mem_append, List.mem_cons, not_or] at n1
    constructor
    · rintro (z | z | z | z)
      · exact .inl ⟨.inl z, fun k => nd3 e z p (by simp) k, fun k => nd3 e z q (by simp) k⟩
      · exact .inr z
      · exact .inl ⟨.inr (.inr (.inl z)), fun k => n1.1 (k ▸ z), fun k => nd5 e z q (by simp) k⟩
      · exact .inl ⟨.inr (.inr (.inr (.inr z))), fun k => n1.2.2 (k ▸ z), fun k => n2 (k ▸ z)⟩
    · rintro (⟨z | z | z | z | z, a, b⟩ | z)
      · exact .inl z
      · exact absurd z a
      · exact .inr (.inr (.inl z))
      · exact absurd z b
      · exact .inr (.inr (.inr z))
      · exact .inr (.inl z)
theorem fit_of (t : LbF w h L) {s : Stp} (hs : s ∈ stepsOf L.length) : fitI (bxs L) s = true ↔ FitU L s.1 (L.getD s.2.1 zL) (L.getD s.2.2 zL) := by
  obtain ⟨h0, h1, h2⟩ := mem_steps.mp hs
  have gj : bxA (bxs L) s.2.1 = (L.getD s.2.1 zL).2 := bxs_get _
  have gk : bxA (bxs L) s.2.2 = (L.getD s.2.2 zL).2 := bxs_get _
  unfold fitI FitU
  split
  · unfold abvI
    rw [gj, gk]
    have al : ((List.range (bxs L).length).all (thirdI (bxs L) s.2.1 s.2.2 (max (L.getD s.2.1 zL).2.d (L.getD s.2.2 zL).2.d)) = true) ↔ ∀ e ∈ L, e ≠ L.getD s.2.1 zL → e ≠ L.getD s.2.2 zL → ¬ tchE (max (L.getD s.2.1 zL).2.d (L.getD s.2.2 zL).2.d) (L.getD s.2.1 zL).2 e.2 := by
      rw [List.all_eq_true]
      constructor
      · intro k e he n1 n2 tc
        obtain ⟨i, hi, rfl⟩ := List.mem_iff_getElem.mp he
        have := k i (List.mem_range.mpr (by rw [List.length_map]; exact hi))
        unfold thirdI at this
        rw [gj, show bxA (bxs L) i = L[i].2 from (bxs_get i).trans (by rw [getL hi])] at this
        simp only [Bool.or_eq_true, decide_eq_true_eq, Bool.not_eq_true', Bool.and_eq_false_iff, Bool.or_eq_false_iff, decide_eq_false_iff_not] at this
        unfold tchE at tc
        rcases this with z | z | z
        · exact n1 (by rw [← z, getL hi])
        · exact n2 (by rw [← z, getL hi])
        · omega
      · intro k i hi
        have hi : i < L.length := by rw [List.mem_range, List.length_map] at hi; exact hi
        unfold thirdI
        rw [gj, show bxA (bxs L) i = L[i].2 from (bxs_get i).trans (by rw [getL hi])]
        simp only [Bool.or_eq_true, decide_eq_true_eq, Bool.not_eq_true', Bool.and_eq_false_iff, Bool.or_eq_false_iff, decide_eq_false_iff_not]
        by_cases z1 : i = s.2.1
        · exact .inl z1
        by_cases z2 : i = s.2.2
        · exact .inr (.inl z2)
        have nn := k L[i] (List.getElem_mem hi) (fun z => z1 ((List.getElem_inj t.nd).mp (z.trans (getL (show s.2.1 < L.length by omega))))) (fun z => z2 ((List.getElem_inj t.nd).mp (z.trans (getL h2))))
        unfold tchE at nn
        omega
    rw [Bool.and_eq_true, al]
    simp only [Bool.and_eq_true, Bool.or_eq_true, decide_eq_true_eq]
    constructor
    · rintro ⟨⟨⟨a, b⟩, c⟩, d⟩
      exact ⟨a, b, c, d⟩
    · rintro ⟨a, b, c, d⟩
      exact ⟨⟨⟨a, b⟩, c⟩, d⟩
  · unfold bsdI BsdU
    rw [gj, gk]
    simp only [Bool.and_eq_true, Bool.or_eq_true, decide_eq_true_eq]
    exact ⟨fun ⟨⟨a, b⟩, c⟩ => ⟨a, b, c⟩, fun ⟨a, b, c⟩ => ⟨⟨a, b⟩, c⟩⟩
theorem step_at (t : LbF w h L) {c : Nat} (hc : c = 0 ∨ c = 1) {p q : Lb} (hp : p ∈ L) (hq : q ∈ L) (n : p ≠ q) (f : FitU L c p q) : ∃ s, stepL L s ∧ OneU L p q (dnX L s) := by
  obtain ⟨i, hi, ei⟩ := List.mem_iff_getElem.mp hp
  obtain ⟨j, hj, ej⟩ := List.mem_iff_getElem.mp hq
  have gi : L.getD i zL = p := by rw [getL hi, ei]
  have gj : L.getD j zL = q := by rw [getL hj, ej]
  have ij : i ≠ j := fun z => by subst z; exact n (by rw [← ei, ej])
  rcases Nat.lt_or_gt_of_ne ij with z | z
  · have hs : ((c, i, j) : Stp) ∈ stepsOf L.length := mem_steps.mpr ⟨hc, z, hj⟩
    have o := one_of t hs
    have ft := (fit_of t hs).mpr
    dsimp only at o ft
    rw [gi, gj] at o ft
    exact ⟨_, ⟨hs, ft f⟩, o⟩
  · have hs : ((c, j, i) : Stp) ∈ stepsOf L.length := mem_steps.mpr ⟨hc, z, hi⟩
    have o := one_of t hs
    have ft := (fit_of t hs).mpr
    dsimp only at o ft
    rw [gi, gj] at o ft
    exact ⟨_, ⟨hs, ft f.symm⟩, o.symm⟩
theorem LbF.next (t : LbF w h L) {s : Stp} (st : stepL L s) : LbF w h (dnX L s) := by
  refine ⟨(one_of t st.1).up, ?_⟩
  rw [bxs_dn]
  have hs : s ∈ stepsOf (bxs L).length := by rw [List.length_map]; exact st.1
  obtain ⟨a, b, rest, nb, p1, p2⟩ := step_perm hs st.2
  exact (t.fl.join nb p1 p2).fl
theorem mem_get {i : Nat} (hi : i < L.length) : L.getD i zL ∈ L := by rw [getL hi]; exact List.getElem_mem hi
theorem diamond (t : LbF w h L) {s s' : Stp} (a : stepL L s) (b : stepL L s') (ne : s ≠ s') : ∃ r r', stepL (dnX L s) r ∧ stepL (dnX L s') r' ∧ dnX (dnX L s) r = dnX (dnX L s') r' := by
  obtain ⟨a0, a1, a2⟩ := mem_steps.mp a.1
  obtain ⟨b0, b1, b2⟩ := mem_steps.mp b.1
  have o1 := one_of t a.1
  have o2 := one_of t b.1
  have f1 := (fit_of t a.1).mp a.2
  have f2 := (fit_of t b.1).mp b.2
  have hp := mem_get (show s.2.1 < L.length by omega)
  have hq := mem_get a2
  have hu := mem_get (show s'.2.1 < L.length by omega)
  have hv := mem_get b2
  have inj : ∀ {i j : Nat}, i < L.length → j < L.length → L.getD i zL = L.getD j zL → i = j := fun {i j} hi hj e => by
    rw [getL hi, getL hj] at e
    exact (List.getElem_inj t.nd).mp e
  have npq : L.getD s.2.1 zL ≠ L.getD s.2.2 zL := fun z => by have := inj (by omega) a2 z; omega
  have nuv : L.getD s'.2.1 zL ≠ L.getD s'.2.2 zL := fun z => by have := inj (by omega) b2 z; omega
  have same : ¬ (L.getD s.2.1 zL = L.getD s'.2.1 zL ∧ L.getD s.2.2 zL = L.getD s'.2.2 zL) := fun ⟨z1, z2⟩ => by
    have e1 := inj (by omega) (by omega) z1
    have e2 := inj a2 b2 z2
    have tp := t.tru hp
    have tq := t.tru hq
    rw [← z1, ← z2] at f2
    have ec : s.1 ≠ s'.1 := fun z => ne (Prod.ext z (Prod.ext e1 e2))
    have key : ∀ {p q : Lb}, AbvU L p q → BsdU p q → p.2.l < p.2.r → q.2.l < q.2.r → False := fun {p q} x y k1 k2 => by
      have := x.l
      have := x.r
      rcases y.2.2 with z | z <;> omega
    unfold FitU at f1 f2
    rcases a0 with c1 | c1 <;> rcases b0 with c2 | c2
    · omega
    · rw [if_pos c1] at f1; rw [if_neg (by omega)] at f2; exact key f1 f2 tp.1 tq.1
    · rw [if_neg (by omega)] at f1; rw [if_pos c2] at f2; exact key f2 f1 tp.1 tq.1
    · omega
  have cross : ¬ (L.getD s.2.1 zL = L.getD s'.2.2 zL ∧ L.getD s.2.2 zL = L.getD s'.2.1 zL) := fun ⟨z1, z2⟩ => by
    have e1 := inj (by omega) b2 z1
    have e2 := inj a2 (by omega) z2
    omega
  generalize L.getD s.2.1 zL = p at *
  generalize L.getD s.2.2 zL = q at *
  generalize L.getD s'.2.1 zL = u at *
  generalize L.getD s'.2.2 zL = v at *
  have t1 := t.next a
  have t2 := t.next b
  -- the two pairs share y
  have share : ∀ {x y z : Lb}, x ∈ L → y ∈ L → z ∈ L → x ≠ y → y ≠ z → x ≠ z → FitU L s.1 x y → FitU L s'.1 y z → OneU L x y (dnX L s) → OneU L y z (dnX L s') → ∃ r r', stepL (dnX L s) r ∧ stepL (dnX L s') r' ∧ dnX (dnX L s) r = dnX (dnX L s') r' := fun {x y z} hx hy hz n1 n2 n3 g1 g2 p1 p2 => by
    obtain ⟨m1, m2, m3, m4, m5⟩ := dia_share t hx hy hz n1 n2 n3 g1 g2 p1
    obtain ⟨k1, k2, k3, k4, k5⟩ := dia_share t hz hy hx (Ne.symm n2) (Ne.symm n1) (Ne.symm n3) g2.symm g1.symm p2.symm
    obtain ⟨r, sr, or1⟩ := step_at t1 b0 m1 m2 m3 m4
    obtain ⟨r', sr', or2⟩ := step_at t2 a0 k1 k2 k3 k4
    refine ⟨r, r', sr, sr', up_ext or1.up or2.up fun e => ?_⟩
    rw [m5 _ or1, k5 _ or2, mrg_assoc, mrg_comm x, mrg_comm z y]
    constructor
    · rintro (⟨w1, w2, w3, w4⟩ | w)
      · exact .inl ⟨w1, w4, w3, w2⟩
      · exact .inr w
    · rintro (⟨w1, w2, w3, w4⟩ | w)
      · exact .inl ⟨w1, w4, w3, w2⟩
      · exact .inr w
  by_cases c1 : u = p
  · subst c1
    exact share hq hp hv (Ne.symm npq) nuv (fun z => same ⟨rfl, z⟩) f1.symm f2 o1.symm o2
  by_cases c2 : u = q
  · subst c2
    exact share hp hq hv npq nuv (fun z => cross ⟨z, rfl⟩) f1 f2 o1 o2
  by_cases c3 : v = p
  · subst c3
    exact share hq hp hu (Ne.symm npq) (Ne.symm nuv) (fun z => c2 z.symm) f1.symm f2.symm o1.symm o2.symm
  by_cases c4 : v = q
  · subst c4
    exact share hp hq hu npq (Ne.symm nuv) (fun z => c1 z.symm) f1 f2.symm o1 o2.symm
  obtain ⟨m1, m2, m3, m4⟩ := dia_apart t hp hq hu hv c1 c2 c3 c4 f1 f2 o1
  obtain ⟨k1, k2, k3, k4⟩ := dia_apart t hu hv hp hq (Ne.symm c1) (Ne.symm c3) (Ne.symm c2) (Ne.symm c4) f2 f1 o2
  obtain ⟨r, sr, or1⟩ := step_at t1 b0 m1 m2 nuv m3
  obtain ⟨r', sr', or2⟩ := step_at t2 a0 k1 k2 npq k3
  refine ⟨r, r', sr, sr', up_ext or1.up or2.up fun e => ?_⟩
  rw [m4 _ or1, k4 _ or2]
  constructor
  · rintro (⟨w1, w2, w3, w4, w5⟩ | w | w)
    · exact .inl ⟨w1, w4, w5, w2, w3⟩
    · exact .inr (.inr w)
    · exact .inr (.inl w)
  · rintro (⟨w1, w2, w3, w4, w5⟩ | w | w)
    · exact .inl ⟨w1, w4, w5, w2, w3⟩
    · exact .inr (.inr w)
    · exact .inr (.inl w)
end
inductive PthC : List Lb → List Stp → List Lb → Prop
  | nil (L : List Lb) : PthC L [] L
  | cons {L : List Lb} {s : Stp} {ss : List Stp} {E : List Lb} : stepL L s → PthC (dnX L s) ss E → PthC L (s :: ss) E
noncomputable abbrev endL (L : List Lb) : Prop := ∀ s, ¬ stepL L s
theorem some_end {w h : Int} : ∀ (n : Nat) {L : List Lb}, L.length ≤ n → LbF w h L → ∃ ss E, PthC L ss E ∧ endL E
  | 0, L, hn, t => ⟨[], L, .nil L, fun s a => by have := mem_steps.mp a.1; omega⟩
  | n+1, L, hn, t => by
    by_cases z : endL L
    · exact ⟨[], L, .nil L, z⟩
    · obtain ⟨s, a⟩ : ∃ s, stepL L s := Classical.byContradiction fun k => z fun s a => k ⟨s, a⟩
      have mm := mem_steps.mp a.1
      have := dn_len (f := mrg) (d := zL) (l := L) mm.2.1 mm.2.2
      obtain ⟨ss, E, p, e⟩ := some_end n (L := dnX L s) (by show (dnL mrg zL L s.2.1 s.2.2).length ≤ n; omega) (t.next a)
      exact ⟨s :: ss, E, .cons a p, e⟩
theorem one_end {w h : Int} : ∀ (n : Nat) {L E1 E2 : List Lb} {ss1 ss2 : List Stp}, L.length ≤ n → LbF w h L → PthC L ss1 E1 → endL E1 → PthC L ss2 E2 → endL E2 → E1 = E2 := by
  intro n
  induction n with
  | zero =>
    intro L E1 E2 ss1 ss2 hn t p1 e1 p2 e2
    cases p1 with
    | nil =>
      cases p2 with
      | nil => rfl
      | cons a _ => exact absurd a (e1 _)
    | cons a _ => have := mem_steps.mp a.1; omega
  | succ n ih =>
    intro L E1 E2 ss1 ss2 hn t p1 e1 p2 e2
    cases p1 with
    | nil =>
      cases p2 with
      | nil => rfl
      | cons a _ => exact absurd a (e1 _)
    | @cons _ s _ _ a p1 =>
      cases p2 with
      | nil => exact absurd a (e2 _)
      | @cons _ s' _ _ b p2 =>
        have ma := mem_steps.mp a.1
        have mb := mem_steps.mp b.1
        have la := dn_len (f := mrg) (d := zL) (l := L) ma.2.1 ma.2.2
        have lb := dn_len (f := mrg) (d := zL) (l := L) mb.2.1 mb.2.2
        have na : (dnX L s).length ≤ n := by show (dnL mrg zL L s.2.1 s.2.2).length ≤ n; omega
        have nb : (dnX L s').length ≤ n := by show (dnL mrg zL L s'.2.1 s'.2.2).length ≤ n; omega
        by_cases z : s = s'
        · subst z
          exact ih na (t.next a) p1 e1 p2 e2
        · obtain ⟨r, r', sr, sr', e⟩ := diamond t a b z
          obtain ⟨ss, E, p3, e3⟩ := some_end _ (Nat.le_refl _) ((t.next a).next sr)
          have q1 := ih na (t.next a) p1 e1 (.cons sr p3) e3
          rw [e] at p3
          have q2 := ih nb (t.next b) p2 e2 (.cons sr' p3) e3
          rw [q1, q2]
inductive PthB : List Box → List Stp → List Box → Prop
  | nil (bs : List Box) : PthB bs [] bs
  | cons {bs : List Box} {s : Stp} {ss : List Stp} {E : List Box} : s ∈ stepsOf bs.length → fitI bs s = true → PthB (dnI bs s) ss E → PthB bs (s :: ss) E
theorem PthB.snoc {bs E : List Box} {ss : List Stp} (p : PthB bs ss E) {s : Stp} (h1 : s ∈ stepsOf E.length) (h2 : fitI E s = true) : PthB bs (ss ++ [s]) (dnI E s) := by
  induction p with
  | nil bs => exact .cons h1 h2 (.nil _)
  | cons a b _ ih => exact .cons a b (ih h1 h2)
noncomputable def labF : Nat → List Box → List Lb
  | _, [] => []
  | n, b :: bs => (n, b) :: labF (n+1) bs
theorem lab_bxs : ∀ (n : Nat) (bs : List Box), bxs (labF n bs) = bs
  | _, [] => rfl
  | n, b :: bs => by show b :: bxs (labF (n+1) bs) = _; rw [lab_bxs]
theorem lab_ge : ∀ (n : Nat) (bs : List Box), ∀ e ∈ labF n bs, n ≤ e.1
  | _, [], e, he => by cases he
  | n, b :: bs, e, he => by
    rcases List.mem_cons.mp he with rfl | z
    · exact Nat.le_refl _
    · have := lab_ge (n+1) bs e z; omega
theorem lab_up : ∀ (n : Nat) (bs : List Box), (labF n bs).Pairwise fun a b => a.1 < b.1
  | _, [] => .nil
  | n, b :: bs => List.pairwise_cons.mpr ⟨fun e he => by have := lab_ge (n+1) bs e he; show n < e.1; omega, lab_up (n+1) bs⟩
theorem PthB.lift {bs E : List Box} {ss : List Stp} (p : PthB bs ss E) : ∀ {L : List Lb}, bxs L = bs → ∃ M, PthC L ss M ∧ bxs M = E := by
  induction p with
  | nil bs => exact fun {L} e => ⟨L, .nil L, e⟩
  | @cons bs s ss E a b _ ih =>
    intro L e
    subst e
    obtain ⟨M, p, eM⟩ := ih (bxs_dn L s)
    exact ⟨M, .cons ⟨by rw [← List.length_map (f := Prod.snd)]; exact a, b⟩ p, eM⟩
theorem PthB.fl {w h : Int} {bs E : List Box} {ss : List Stp} (p : PthB bs ss E) : FlB w h bs → FlB w h E ∧ ss.length + E.length = bs.length := by
  induction p with
  | nil bs => exact fun t => ⟨t, by simp⟩
  | @cons bs s ss E a b _ ih =>
    intro t
    obtain ⟨x, y, rest, nb, p1, p2⟩ := step_perm a b
    obtain ⟨t', l⟩ := ih (t.join nb p1 p2).fl
    have mm := mem_steps.mp a
    have := dn_len (f := uniB) (d := z4) (l := bs) mm.2.1 mm.2.2
    refine ⟨t', ?_⟩
    have l : ss.length + E.length = (dnL uniB z4 bs s.2.1 s.2.2).length := l
    rw [List.length_cons]; omega
theorem PthB.one {w h : Int} {bs E1 E2 : List Box} {ss1 ss2 : List Stp} (t : FlB w h bs) (p1 : PthB bs ss1 E1) (e1 : (stepsOf E1.length).filter (fitI E1) = []) (p2 : PthB bs ss2 E2) (e2 : (stepsOf E2.length).filter (fitI E2) = []) : E1 = E2 := by
  have t0 : LbF w h (labF 0 bs) := ⟨lab_up 0 bs, by rw [lab_bxs]; exact t⟩
  obtain ⟨M1, q1, f1⟩ := p1.lift (lab_bxs 0 bs)
  obtain ⟨M2, q2, f2⟩ := p2.lift (lab_bxs 0 bs)
  have fin : ∀ {M : List Lb} {E : List Box}, bxs M = E → (stepsOf E.length).filter (fitI E) = [] → endL M := fun {M E} e k s a => by
    subst e
    have : s ∈ (stepsOf (bxs M).length).filter (fitI (bxs M)) := List.mem_filter.mpr ⟨by rw [List.length_map]; exact a.1, a.2⟩
    rw [k] at this; cases this
  have := one_end _ (Nat.le_refl _) t0 q1 (fin f1 e1) q2 (fin f2 e2)
  rw [← f1, ← f2, this]
end My
namespace My
open PySem PySem.Spec PyProof.Rows L2 Mth Wd Fl
theorem pth_C {c : Rat} (hc : 0 < c) {w h : Int} (w1 : w ≤ 1000000) (h1 : h ≤ 1000000) {bs : List Box} (t : FlB w h bs) {ss : List Stp} {rows : List (List Rat)} (p : PthR (rowsOf c bs) ss rows) : ∃ b', rows = rowsOf c b' ∧ PthB bs ss b' := by
  induction p with
  | nil => exact ⟨bs, rfl, .nil bs⟩
  | @snoc ss r1 s _ ft ih =>
    obtain ⟨b1, rfl, pb⟩ := ih
    have fl := (pb.fl t).1
    have h1' : s ∈ stepsOf b1.length := by have := ft.1; rwa [show (rowsOf c b1).length = b1.length from List.length_map ..] at this
    have f := ft.2
    rw [fit_one hc (flb_bxf fl w1 h1) h1'] at f
    exact ⟨_, dn_C hc h1', pb.snoc h1' f⟩
theorem C_pth {c : Rat} (hc : 0 < c) {w h : Int} (w1 : w ≤ 1000000) (h1 : h ≤ 1000000) {bs b' : List Box} {ss : List Stp} (p : PthB bs ss b') : FlB w h bs → ∀ {rows : List (List Rat)} {s0 : List Stp}, PthR rows s0 (rowsOf c bs) → PthR rows (s0 ++ ss) (rowsOf c b') := by
  induction p with
  | nil bs => intro _ rows s0 q; rwa [List.append_nil]
  | @cons bs s ss E a b _ ih =>
    intro t rows s0 q
    have x := flb_bxf t w1 h1
    obtain ⟨x', y, rest, nb, p1, p2⟩ := step_perm a b
    have q2 : PthR rows (s0 ++ [s]) (rowsOf c (dnI bs s)) := by
      have := q.snoc (s := s) ⟨by rw [show (rowsOf c bs).length = bs.length from List.length_map ..]; exact a, by rw [fit_one hc x a]; exact b⟩
      rwa [dn_C hc a] at this
    have := ih (t.join nb p1 p2).fl q2
    rwa [List.append_assoc] at this
noncomputable def JPt (bs0 bs : List Box) : Prop := ∃ ss, PthB bs0 ss bs
theorem keep_pt {w h : Int} {bs0 : List Box} (t0 : FlB w h bs0) (n : bs0.length ≤ 30) (w1 : w ≤ 1000000) (h1 : h ≤ 1000000) : KeepI (JPt bs0) := by
  refine ⟨fun bs ⟨ss, p⟩ => by have := (p.fl t0).2; omega, fun bs ⟨ss, p⟩ => flb_bxf (p.fl t0).1 w1 h1, fun bs s ⟨ss, p⟩ hs ft => ⟨_, p.snoc hs ft⟩⟩
end My
namespace My
open PySem L2 Mth Wd Fl
theorem scale_ok {t b : Int} (t0 : 1 ≤ t) (t1 : t ≤ 128) (b0 : 1 ≤ b) (b1 : b ≤ 8192) : Sb 7 13 ((t : Rat) / (b : Rat)) ∧ 0 < ((t : Rat) / (b : Rat)).num := by
  have e0 := frac_rat t b (by omega)
  have l1 := frac_le_l t b (by omega)
  have l2 := frac_le_r t b (by omega)
  have fc := frac_cross t b
  have fp := frac_pos t b (by omega)
  rw [e0] at l1 l2 fc fp
  dsimp only at l1 l2 fc fp
  rw [Int.natAbs_natCast] at l2
  have p1 : (2 : Nat) ^ 7 = 128 := by decide
  have p2 : (2 : Nat) ^ 13 = 8192 := by decide
  refine ⟨⟨by omega, by omega⟩, ?_⟩
  by_cases h : 0 < ((t : Rat) / (b : Rat)).num
  · exact h
  · have h1 := Int.mul_le_mul_of_nonneg_right (Int.not_lt.mp h) (show 0 ≤ b by omega)
    have h2 := Int.mul_pos (show 0 < t by omega) fp
    omega
section
variable {P : Program} {w : World} {K : PySem.W.Frag} {mg : Str → Option Value} {base : Heap} {f g h f1 f2 f3 : Addr} {fd gd hd d1 d2 d3 : FuncData}
inductive SpSideR (vs : List V) (H : Hp) (Q : VK) : Prop
  | mk (z : Int) (h_0 : vs = [.int z]) (h_1 : CellR z) (h_2 : ∀ s, 4 ≤ s → s ≤ 9199 → Q (.int s) H) : SpSideR vs H Q
noncomputable def spSide : Sp := fun vs H Q _ => SpSideR vs H Q
theorem scSi : FnScope ["_law_cell"] ["_law_cell"] (defScope s_law_side) := ⟨rfl, rfl, rfl, by decide +kernel, rfl, by decide +kernel, by decide +kernel⟩
theorem ok_side (F : Fun K "_law_side" "_law_side" s_law_side f fd) : FnOk P w K mg base CX0 1 f fd ["_law_cell"] spSide := by
  refine F.ok scSi (fun vs H Q E h => ?_) (fun cdv A outer s H vs Q E hr h => ?_)
  · obtain ⟨z, rfl, _⟩ := h
    rfl
  obtain ⟨z, rfl, hz, q⟩ := h
  refine ⟨_, pss_cons (ps_if (pt_cmpR op_gt (pe_op op_mod (pv 0) pe_int) pe_int (nomark _)) (pss_one (ps_ret (pe_op op_add pe_int (pe_op op_mod (pe_op op_fdiv (pv 0) pe_int) pe_int)))) pss_nil) (pss_one (ps_ret (pe_op op_add pe_int (pe_op op_mod (pe_op op_fdiv (pv 0) pe_int) pe_int)))), ?_⟩
  refine ⟨_, rfl, _, _, rfl, rfl, (show (0 : Int) < 3 by decide), _, _, rfl, rfl, _, rfl, ?_⟩
  refine ite2 (fun _ => ?_) (fun _ => ?_)
  · have a0 := Int.emod_nonneg (z / 3) (show (9 : Int) ≠ 0 by decide)
    have a1 := Int.emod_lt_of_pos (z / 3) (show (0 : Int) < 9 by decide)
    exact ⟨_, rfl, _, _, rfl, rfl, ⟨by decide, by decide⟩, _, _, rfl, rfl, (show (0 : Int) < 9 by decide), _, _, rfl, rfl, q _ (by omega) (by omega)⟩
  · have a0 := Int.emod_nonneg (z / 3) (show (9000 : Int) ≠ 0 by decide)
    have a1 := Int.emod_lt_of_pos (z / 3) (show (0 : Int) < 9000 by decide)
    exact ⟨_, rfl, _, _, rfl, rfl, ⟨by decide, by decide⟩, _, _, rfl, rfl, (show (0 : Int) < 9000 by decide), _, _, rfl, rfl, q _ (by omega) (by omega)⟩
inductive SpScBR (vs : List V) (H : Hp) (Q : VK) : Prop
  | mk (z : Int) (h_0 : vs = [.int z]) (h_2 : ∀ c, Sb 7 13 c → 0 < c.num → GivQ H Q c) : SpScBR vs H Q
noncomputable def spScB : Sp := fun vs H Q _ => SpScBR vs H Q
theorem scSb : FnScope ["_law_cell"] ["_law_cell"] (defScope s_law_scale_by) := ⟨rfl, rfl, rfl, by decide +kernel, rfl, by decide +kernel, by decide +kernel⟩
theorem ok_scb (F : Fun K "_law_scale_by" "_law_scale_by" s_law_scale_by f fd) (G : FnOk P w K mg base CX0 1 g gd ["_law_top", "_law_bottom"] spLow) (bG : Binds K gd ["_law_top", "_law_bottom"] []) (kG : PySem.W.keepIn K (.ref g) = true) (mG : mg "_law_lowest" = some (.ref g)) : FnOk P w K mg base CX0 2 f fd ["_law_cell"] spScB := by
  refine F.ok scSb (fun vs H Q E h => ?_) (fun cdv A outer s H vs Q E hr h => ?_)
  · obtain ⟨z, rfl, _⟩ := h
    rfl
  obtain ⟨z, rfl, q⟩ := h
  refine ⟨_, pss_one (ps_ret (pe_call G hr (by rfl) mG kG bG .nil pass0 (pa_cons (pe_op op_add pe_int (pe_op op_mod (pv 0) pe_int)) (pa_cons (pe_op op_add pe_int (pe_op op_mod (pe_op op_fdiv (pv 0) pe_int) pe_int)) pa_nil)))), ?_⟩
  have t0 := Int.emod_nonneg z (show (99 : Int) ≠ 0 by decide)
  have t1 := Int.emod_lt_of_pos z (show (0 : Int) < 99 by decide)
  have b0 := Int.emod_nonneg (z / 99) (show (60 : Int) ≠ 0 by decide)
  have b1 := Int.emod_lt_of_pos (z / 99) (show (0 : Int) < 60 by decide)
  have so := scale_ok (t := 1 + z % 99) (b := 1 + z / 99 % 60) (by omega) (by omega) (by omega) (by omega)
  exact ⟨_, rfl, _, _, rfl, rfl, (show (0 : Int) < 99 by decide), _, _, rfl, rfl, _, rfl, _, _, rfl, rfl, ⟨by decide, by decide⟩, _, _, rfl, rfl, (show (0 : Int) < 60 by decide), _, _, rfl, rfl, _, _, rfl, by omega, big_of (n := 13) (by omega) (by decide), q _ so.1 so.2⟩
inductive SpTwoIR (t : List Box → Nat → Nat → Bool) (vs : List V) (H : Hp) (Q : VK) : Prop
  | mk (p : Addr) (bs : List Box) (j k : Nat) (h_0 : vs = [.ref p, .int (j : Int), .int (k : Int)]) (h_1 : LstR BoxR H p bs) (h_2 : bs.length ≤ 30) (h_3 : j < k) (h_4 : k < bs.length) (h_5 : ∀ H', Same H H' → Q (.bl (t bs j k)) H') : SpTwoIR t vs H Q
noncomputable def spTwoI (t : List Box → Nat → Nat → Bool) : Sp := fun vs H Q _ => SpTwoIR t vs H Q
theorem box_get {bs : List Box} {j : Nat} (h : j < bs.length) : bs[j]? = some (bxA bs j) := by
  rw [List.getElem?_eq_getElem h]; simp [h]
theorem scLB : FnScope ["_law_boxes", "_law_j", "_law_k"] ["_law_boxes", "_law_j", "_law_k"] (defScope s_law_beside) := ⟨rfl, rfl, rfl, by decide +kernel, rfl, by decide +kernel, by decide +kernel⟩
noncomputable abbrev xB (K : PySem.W.Frag) (i : Nat) (m : Int) : TE := tOp (rIxT K) (tOp (rIxL K) (tVar 0) (tVar i)) (tC (.int m))
theorem ok_lbeside (F : Fun K "_law_beside" "_law_beside" s_law_beside f fd) (ml : mg "len" = none) : FnOk P w K mg base CX0 1 f fd ["_law_boxes", "_law_j", "_law_k"] (spTwoI bsdI) := by
  refine F.ok scLB (fun vs H Q E h => ?_) (fun cdv A outer s H vs Q E hr h => ?_)
  · obtain ⟨p, bs, j, k, rfl, _⟩ := h
    rfl
  obtain ⟨p, bs, j, k, rfl, ⟨cs, hp, hC⟩, n30, jk, kn, q⟩ := h
  have q := q H (Same.refl _)
  have lm : (cs.map V.ref).length = bs.length := by rw [List.length_map, hC.1]
  obtain ⟨a, ea, ha⟩ := hC.get (box_get (show j < bs.length by omega))
  obtain ⟨b, eb, hb⟩ := hC.get (box_get kn)
  unfold bsdI at q
  generalize bxA bs j = X at ha q
  generalize bxA bs k = Y at hb q
  obtain ⟨x0, x1, x2, x3⟩ := X
  obtain ⟨y0, y1, y2, y3⟩ := Y
  refine ⟨_, pss_cons (ps_if (PW.pt (pw_or (pt_not (pt_chain3 op_le op_lt op_lt pe_int (pv 1) (pv 2) (pe_callB (callLen (K := K)) (by rfl) ml bt_len (pa_cons (pv 0) pa_nil))))
      (pw_or (pt_cmpR op_ne (pe_ix (ixT (K := K)) (pe_ix (ixL (K := K)) (pv 0) (pv 1) (fun _ _ => rfl)) pe_int (fun _ _ => rfl)) (pe_ix (ixT (K := K)) (pe_ix (ixL (K := K)) (pv 0) (pv 2) (fun _ _ => rfl)) pe_int (fun _ _ => rfl)) (nomark _))
      (pw_or1 (pt_cmpR op_ne (pe_ix (ixT (K := K)) (pe_ix (ixL (K := K)) (pv 0) (pv 1) (fun _ _ => rfl)) pe_int (fun _ _ => rfl)) (pe_ix (ixT (K := K)) (pe_ix (ixL (K := K)) (pv 0) (pv 2) (fun _ _ => rfl)) pe_int (fun _ _ => rfl)) (nomark _)))))) (pss_one (ps_ret pe_bl)) pss_nil)
    (pss_one (ps_ret (pe_or (pe_cmpR op_eq (pe_ix (ixT (K := K)) (pe_ix (ixL (K := K)) (pv 0) (pv 1) (fun _ _ => rfl)) pe_int (fun _ _ => rfl)) (pe_ix (ixT (K := K)) (pe_ix (ixL (K := K)) (pv 0) (pv 2) (fun _ _ => rfl)) pe_int (fun _ _ => rfl)) (nomark _))
      (pe_one (pe_cmpR op_eq (pe_ix (ixT (K := K)) (pe_ix (ixL (K := K)) (pv 0) (pv 2) (fun _ _ => rfl)) pe_int (fun _ _ => rfl)) (pe_ix (ixT (K := K)) (pe_ix (ixL (K := K)) (pv 0) (pv 1) (fun _ _ => rfl)) pe_int (fun _ _ => rfl)) (nomark _)))))), ?_⟩
  refine ⟨_, rfl, _, _, rfl, rfl, _, rfl, iteDT (show (0 : Int) ≤ (j : Int) by omega) ?_⟩
  refine ⟨_, rfl, _, _, rfl, rfl, _, rfl, iteDT (show (j : Int) < (k : Int) by omega) ?_⟩
  refine ⟨_, rfl, p, _, rfl, .inl (SqL.of hp), _, _, rfl, rfl, _, rfl, iteNS (show (k : Int) < ((cs.map V.ref).length : Int) by rw [lm]; omega) ?_⟩
  have q' : Q (.bl ((decide (x1 = y1) && decide (x3 = y3)) && (decide (x2 = y0) || decide (y2 = x0)))) H := q
  refine ⟨_, rfl, _, rfl, p, _, _, _, rfl, rfl, SqL.of hp, atI_nat (ref_at ea), a, _, _, _, rfl, rfl, SqT.of ha, t4_1 _ _ _ _, _, rfl, _, rfl, p, _, _, _, rfl, rfl, SqL.of hp, atI_nat (ref_at eb), b, _, _, _, rfl, rfl, SqT.of hb, t4_1 _ _ _ _, rfl, _, rfl, ?_⟩
  by_cases z1 : x1 = y1
  case neg =>
    refine iteNN (ivn z1) ?_
    rw [decide_eq_false z1, Bool.false_and, Bool.false_and] at q'
    exact q'
  refine iteNS (iv z1) ?_
  refine ⟨_, rfl, _, rfl, p, _, _, _, rfl, rfl, SqL.of hp, atI_nat (ref_at ea), a, _, _, _, rfl, rfl, SqT.of ha, t4_3 _ _ _ _, _, rfl, _, rfl, p, _, _, _, rfl, rfl, SqL.of hp, atI_nat (ref_at eb), b, _, _, _, rfl, rfl, SqT.of hb, t4_3 _ _ _ _, rfl, _, rfl, ?_⟩
  by_cases z3 : x3 = y3
  case neg =>
    refine iteNN (ivn z3) ?_
    rw [decide_eq_false z3, Bool.and_false, Bool.false_and] at q'
    exact q'
  refine iteNS (iv z3) ?_
  rw [decide_eq_true z1, decide_eq_true z3, Bool.true_and, Bool.true_and] at q'
  refine ⟨_, rfl, _, rfl, p, _, _, _, rfl, rfl, SqL.of hp, atI_nat (ref_at ea), a, _, _, _, rfl, rfl, SqT.of ha, t4_2 _ _ _ _, _, rfl, _, rfl, p, _, _, _, rfl, rfl, SqL.of hp, atI_nat (ref_at eb), b, _, _, _, rfl, rfl, SqT.of hb, t4_0 _ _ _ _, rfl, _, rfl, ?_⟩
  by_cases z2 : x2 = y0
  · refine iteDT (iv z2) ?_
    rw [decide_eq_true z2, Bool.true_or] at q'
    exact q'
  refine iteDF (ivn z2) ?_
  rw [decide_eq_false z2, Bool.false_or] at q'
  refine ⟨_, rfl, _, rfl, p, _, _, _, rfl, rfl, SqL.of hp, atI_nat (ref_at eb), b, _, _, _, rfl, rfl, SqT.of hb, t4_2 _ _ _ _, _, rfl, _, rfl, p, _, _, _, rfl, rfl, SqL.of hp, atI_nat (ref_at ea), a, _, _, _, rfl, rfl, SqT.of ha, t4_0 _ _ _ _, rfl, ?_⟩
  rw [show decide (V.int y2 = V.int x0) = decide (y2 = x0) from decide_eq_decide.mpr ⟨fun z => V.int.inj z, fun z => by rw [z]⟩]
  exact q'
end
end My
namespace My
open PySem L2 Mth Wd Fl
section
variable {P : Program} {w : World} {K : PySem.W.Frag} {mg : Str → Option Value} {base : Heap} {f g h f1 f2 f3 : Addr} {fd gd hd d1 d2 d3 : FuncData}
theorem scLA : FnScope ["_law_boxes", "_law_j", "_law_k", "_law_level", "_law_number", "_law_box"] ["_law_boxes", "_law_j", "_law_k"] (defScope s_law_above) := ⟨rfl, rfl, rfl, by decide +kernel, rfl, by decide +kernel, by decide +kernel⟩
theorem rd_two {H : Hp} {p : Addr} {x y : Int} (h : H p = some (.tup [.int x, .int y])) : RdD H (.ref p) (.tuple [.int x, .int y]) := by
  refine .tup h rfl fun i v d e1 e2 => ?_
  match i with
  | 0 => obtain rfl := Option.some.inj e1; obtain rfl := Option.some.inj e2; exact .int _
  | 1 => obtain rfl := Option.some.inj e1; obtain rfl := Option.some.inj e2; exact .int _
  | i + 2 => simp at e1
theorem in_two (x y z : Int) : (if false = true then !([PyData.int x, PyData.int y].any fun v => PyData.eqv v (.int z)) else [PyData.int x, PyData.int y].any fun v => PyData.eqv v (.int z)) = (decide (z = x) || decide (z = y)) := by
  rw [if_neg Bool.false_ne_true, Bool.eq_iff_iff]
  simp [PyData.eqv]
  constructor
  · rintro (h | h)
    · exact .inl h.symm
    · exact .inr h.symm
  · rintro (h | h)
    · exact .inl h.symm
    · exact .inr h.symm
set_option maxHeartbeats 4000000 in
theorem ok_labove (F : Fun K "_law_above" "_law_above" s_law_above f fd) (ml : mg "len" = none) (mx : mg "max" = none) (me : mg "enumerate" = none) : FnOk P w K mg base CX0 1 f fd ["_law_boxes", "_law_j", "_law_k"] (spTwoI abvI) := by
  refine F.ok scLA (fun vs H Q E h => ?_) (fun cdv A outer s H vs Q E hr h => ?_)
  · obtain ⟨p, bs, j, k, rfl, _⟩ := h
    rfl
  obtain ⟨p, bs, j, k, rfl, ⟨cs, hp, hC⟩, n30, jk, kn, q⟩ := h
  have lm : (cs.map V.ref).length = bs.length := by rw [List.length_map, hC.1]
  obtain ⟨a, ea, ha⟩ := hC.get (box_get (show j < bs.length by omega))
  obtain ⟨b, eb, hb⟩ := hC.get (box_get kn)
  refine ⟨_, pss_cons (ps_if (PW.pt (pw_or (pt_not (pt_chain3 op_le op_lt op_lt pe_int (pv 1) (pv 2) (pe_callB (callLen (K := K)) (by rfl) ml bt_len (pa_cons (pv 0) pa_nil))))
      (pw_or (pt_cmpR op_ne (pe_ix (ixT (K := K)) (pe_ix (ixL (K := K)) (pv 0) (pv 1) (fun _ _ => rfl)) pe_int (fun _ _ => rfl)) (pe_ix (ixT (K := K)) (pe_ix (ixL (K := K)) (pv 0) (pv 2) (fun _ _ => rfl)) pe_int (fun _ _ => rfl)) (nomark _))
      (pw_or1 (pt_cmpR op_ne (pe_ix (ixT (K := K)) (pe_ix (ixL (K := K)) (pv 0) (pv 1) (fun _ _ => rfl)) pe_int (fun _ _ => rfl)) (pe_ix (ixT (K := K)) (pe_ix (ixL (K := K)) (pv 0) (pv 2) (fun _ _ => rfl)) pe_int (fun _ _ => rfl)) (nomark _)))))) (pss_one (ps_ret pe_bl)) pss_nil)
    (pss_cons (ps_if (PW.pt (pw_and (pt_cmpR op_ne (pe_ix (ixT (K := K)) (pe_ix (ixL (K := K)) (pv 0) (pv 1) (fun _ _ => rfl)) pe_int (fun _ _ => rfl)) (pe_ix (ixT (K := K)) (pe_ix (ixL (K := K)) (pv 0) (pv 2) (fun _ _ => rfl)) pe_int (fun _ _ => rfl)) (nomark _)) (pw_and1 (pt_cmpR op_ne (pe_ix (ixT (K := K)) (pe_ix (ixL (K := K)) (pv 0) (pv 2) (fun _ _ => rfl)) pe_int (fun _ _ => rfl)) (pe_ix (ixT (K := K)) (pe_ix (ixL (K := K)) (pv 0) (pv 1) (fun _ _ => rfl)) pe_int (fun _ _ => rfl)) (nomark _))))) (pss_one (ps_ret pe_bl)) pss_nil)
    (pss_cons (ps_set (i := 3) scLA.nd rfl (Or.inl rfl) (pe_callB (call_max2 rfl) (by rfl) mx bt_max (pa_cons (pe_ix (ixT (K := K)) (pe_ix (ixL (K := K)) (pv 0) (pv 1) (fun _ _ => rfl)) pe_int (fun _ _ => rfl)) (pa_cons (pe_ix (ixT (K := K)) (pe_ix (ixL (K := K)) (pv 0) (pv 2) (fun _ _ => rfl)) pe_int (fun _ _ => rfl)) pa_nil))))
    (pss_cons (ps_for PassesOwn.never rfl (pi_enumL (by rfl) me (pa_cons (pv 0) pa_nil)) (pgTup (n := 2) (K := K) rfl (pgs_cons (pg_name (i := 4) scLA.nd rfl (Or.inl rfl)) (pgs_cons (pg_name (i := 5) scLA.nd rfl (Or.inl rfl)) pgs_nil)))
      (pss_one (ps_if (PW.pt (pw_and (pt_cmpR op_ne (pv 4) (pv 1) (nomark _)) (pw_and (pt_cmpR op_ne (pv 4) (pv 2) (nomark _)) (pw_and1 (pt_cmpR (op_inD hr.units) (pv 3) (pe_tup (pa_cons (pe_ix (ixT (K := K)) (pv 5) pe_int (fun _ _ => rfl)) (pa_cons (pe_ix (ixT (K := K)) (pv 5) pe_int (fun _ _ => rfl)) pa_nil))) (by with_unfolding_all rfl))))))
        (pss_one (ps_if (PW.pt (pw_and (pt_cmpR op_le (pe_ix (ixT (K := K)) (pv 5) pe_int (fun _ _ => rfl)) (pe_ix (ixT (K := K)) (pe_ix (ixL (K := K)) (pv 0) (pv 1) (fun _ _ => rfl)) pe_int (fun _ _ => rfl)) (nomark _)) (pw_and1 (pt_cmpR op_le (pe_ix (ixT (K := K)) (pe_ix (ixL (K := K)) (pv 0) (pv 1) (fun _ _ => rfl)) pe_int (fun _ _ => rfl)) (pe_ix (ixT (K := K)) (pv 5) pe_int (fun _ _ => rfl)) (nomark _))))) (pss_one (ps_ret pe_bl)) pss_nil)) pss_nil)))
    (pss_one (ps_ret pe_bl))))), ?_⟩
  obtain ⟨X, hX⟩ : ∃ X, bxA bs j = X := ⟨_, rfl⟩
  obtain ⟨Y, hY⟩ : ∃ Y, bxA bs k = Y := ⟨_, rfl⟩
  obtain ⟨x0, x1, x2, x3⟩ := X
  obtain ⟨y0, y1, y2, y3⟩ := Y
  rw [hX] at ha
  rw [hY] at hb
  have q' : ∀ H', Same H H' → Q (.bl (((decide (x0 = y0) && decide (x2 = y2)) && (decide (x1 = y3) || decide (y1 = x3))) && (List.range bs.length).all (thirdI bs j k (max x1 y1)))) H' := fun H' s => by
    have := q H' s
    unfold abvI at this
    rw [hX, hY] at this
    exact this
  refine ⟨_, rfl, _, _, rfl, rfl, _, rfl, iteDT (show (0 : Int) ≤ (j : Int) by omega) ?_⟩
  refine ⟨_, rfl, _, _, rfl, rfl, _, rfl, iteDT (show (j : Int) < (k : Int) by omega) ?_⟩
  refine ⟨_, rfl, p, _, rfl, .inl (SqL.of hp), _, _, rfl, rfl, _, rfl, iteNS (show (k : Int) < ((cs.map V.ref).length : Int) by rw [lm]; omega) ?_⟩
  refine ⟨_, rfl, _, rfl, p, _, _, _, rfl, rfl, SqL.of hp, atI_nat (ref_at ea), a, _, _, _, rfl, rfl, SqT.of ha, t4_0 _ _ _ _, _, rfl, _, rfl, p, _, _, _, rfl, rfl, SqL.of hp, atI_nat (ref_at eb), b, _, _, _, rfl, rfl, SqT.of hb, t4_0 _ _ _ _, rfl, _, rfl, ?_⟩
  by_cases z0 : x0 = y0
  case neg =>
    refine iteNN (ivn z0) ?_
    have := q' H (Same.refl _)
    rw [decide_eq_false z0, Bool.false_and, Bool.false_and, Bool.false_and] at this
    exact this
  refine iteNS (iv z0) ?_
  refine ⟨_, rfl, _, rfl, p, _, _, _, rfl, rfl, SqL.of hp, atI_nat (ref_at ea), a, _, _, _, rfl, rfl, SqT.of ha, t4_2 _ _ _ _, _, rfl, _, rfl, p, _, _, _, rfl, rfl, SqL.of hp, atI_nat (ref_at eb), b, _, _, _, rfl, rfl, SqT.of hb, t4_2 _ _ _ _, rfl, _, rfl, ?_⟩
  by_cases z2 : x2 = y2
  case neg =>
    refine iteNN (ivn z2) ?_
    have := q' H (Same.refl _)
    rw [decide_eq_false z2, Bool.and_false, Bool.false_and, Bool.false_and] at this
    exact this
  refine iteNS (iv z2) ?_
  rw [decide_eq_true z0, decide_eq_true z2, Bool.true_and, Bool.true_and] at q'
  dsimp only [L2.tNext]
  refine seq_join (G := fun σ H2 => σ = [some (.ref p), some (.int (j : Int)), some (.int (k : Int)), none, none, none] ∧ H2 = H ∧ (decide (x1 = y3) || decide (y1 = x3)) = true) (fun r => ?_) ?_
  · refine ⟨_, rfl, _, rfl, p, _, _, _, rfl, rfl, SqL.of hp, atI_nat (ref_at ea), a, _, _, _, rfl, rfl, SqT.of ha, t4_1 _ _ _ _, _, rfl, _, rfl, p, _, _, _, rfl, rfl, SqL.of hp, atI_nat (ref_at eb), b, _, _, _, rfl, rfl, SqT.of hb, t4_3 _ _ _ _, rfl, _, rfl, ?_⟩
    by_cases z1 : x1 = y3
    · refine iteNS (iv z1) ?_
      exact r _ _ ⟨rfl, rfl, by rw [decide_eq_true z1]; rfl⟩
    refine iteNN (ivn z1) ?_
    refine ⟨_, rfl, _, rfl, p, _, _, _, rfl, rfl, SqL.of hp, atI_nat (ref_at eb), b, _, _, _, rfl, rfl, SqT.of hb, t4_1 _ _ _ _, _, rfl, _, rfl, p, _, _, _, rfl, rfl, SqL.of hp, atI_nat (ref_at ea), a, _, _, _, rfl, rfl, SqT.of ha, t4_3 _ _ _ _, rfl, _, rfl, ?_⟩
    by_cases z3 : y1 = x3
    · refine iteNS (iv z3) ?_
      exact r _ _ ⟨rfl, rfl, by rw [decide_eq_true z3, Bool.or_true]⟩
    refine iteNN (ivn z3) ?_
    have := q' H (Same.refl _)
    rw [decide_eq_false z1, decide_eq_false z3, Bool.or_false, Bool.false_and] at this
    exact this
  rintro σ H0 ⟨rfl, rfl, zz⟩
  rw [zz, Bool.true_and] at q'
  refine ⟨_, rfl, _, rfl, p, _, _, _, rfl, rfl, SqL.of hp, atI_nat (ref_at ea), a, _, _, _, rfl, rfl, SqT.of ha, t4_1 _ _ _ _, _, rfl, _, rfl, p, _, _, _, rfl, rfl, SqL.of hp, atI_nat (ref_at eb), b, _, _, _, rfl, rfl, SqT.of hb, t4_1 _ _ _ _, _, _, rfl, ?_⟩
  rw [show (if y1 > x1 then y1 else x1) = max x1 y1 by split <;> omega]
  obtain ⟨lev, hlev⟩ : ∃ lev, max x1 y1 = lev := ⟨_, rfl⟩
  rw [hlev] at q' ⊢
  refine ⟨_, rfl, p, _, rfl, hp, ?_⟩
  refine for_enumL (fun i σ H2 => Same H0 H2 ∧ (List.range i).all (thirdI bs j k lev) = true ∧ ∃ u4 u5, σ = [some (.ref p), some (.int (j : Int)), some (.int (k : Int)), some (.int lev), u4, u5]) ⟨Same.refl _, rfl, none, none, rfl⟩ (fun i σ H2 _ z => z.1 _ _ hp) ?_ ?_
  · rintro i v σ H2 pe hi ⟨s2, al, u4, u5, rfl⟩ hpe
    have s3 := same_new hpe (.tup [.int (i : Int), v])
    have gpe : upd H2 pe (.tup [.int (i : Int), v]) pe = some (.tup [.int (i : Int), v]) := upd_same
    generalize upd H2 pe (.tup [.int (i : Int), v]) = H3 at s3 gpe
    have s03 := s2.trans s3
    obtain ⟨c, B, rfl, hc, hrow, hB⟩ := hC.ref hi
    have il : i < bs.length := (List.getElem?_eq_some_iff.mp hrow).1
    obtain rfl : B = bxA bs i := by
      have := box_get il
      rw [hrow] at this
      exact Option.some.inj this
    refine ⟨pe, _, rfl, SqT.of gpe, rfl, _, _, rfl, _, _, rfl, rfl, ?_⟩
    have nxt : thirdI bs j k lev i = true → (List.range (i + 1)).all (thirdI bs j k lev) = true := fun z => by
      rw [List.range_succ, List.all_append, al, Bool.true_and, List.all_cons, z]; rfl
    refine ⟨_, rfl, _, rfl, rfl, _, rfl, ?_⟩
    by_cases zj : i = j
    · refine iteNS (by rw [zj]) ?_
      exact ⟨s03, nxt (by unfold thirdI; rw [decide_eq_true zj]; rfl), _, _, rfl⟩
    refine iteNN (fun z => zj (by have := V.int.inj z; omega)) ?_
    refine ⟨_, rfl, _, rfl, rfl, _, rfl, ?_⟩
    by_cases zk : i = k
    · refine iteNS (by rw [zk]) ?_
      exact ⟨s03, nxt (by unfold thirdI; rw [decide_eq_true zk, Bool.true_or, Bool.or_true]), _, _, rfl⟩
    refine iteNN (fun z => zk (by have := V.int.inj z; omega)) ?_
    have et : thirdI bs j k lev i = !((decide (lev = (bxA bs i).d) || decide (lev = (bxA bs i).u)) && (decide ((bxA bs i).l ≤ x2) && decide (x0 ≤ (bxA bs i).r))) := by
      unfold thirdI; rw [decide_eq_false zj, decide_eq_false zk, Bool.false_or, Bool.false_or, hX]
    have hB3 : H3 c = some (.tup [.int (bxA bs i).l, .int (bxA bs i).d, .int (bxA bs i).r, .int (bxA bs i).u]) := s03 _ _ hB
    have ha3 := s03 _ _ ha
    have hp3 := s03 _ _ hp
    generalize bxA bs i = B at et hB3
    refine ⟨_, rfl, _, rfl, c, _, _, _, rfl, rfl, SqT.of hB3, t4_1 _ _ _ _, _, rfl, c, _, _, _, rfl, rfl, SqT.of hB3, t4_3 _ _ _ _, by show 2 ≤ sizeLine; decide, fun tp htp => ?_⟩
    have s4 := same_new htp (.tup [.int B.d, .int B.u])
    have gtp : upd H3 tp (.tup [.int B.d, .int B.u]) tp = some (.tup [.int B.d, .int B.u]) := upd_same
    generalize upd H3 tp (.tup [.int B.d, .int B.u]) = H4 at s4 gtp
    have s04 := s03.trans s4
    refine ⟨0, .int lev, [.int B.d, .int B.u], by decide, .int lev, rd_two gtp, .int _, .tup (fun d hd => by
      simp only [List.mem_cons, List.not_mem_nil, or_false] at hd
      rcases hd with rfl | rfl <;> exact .int _), _, rfl, ?_⟩
    rw [in_two]
    cases zl : (decide (lev = B.d) || decide (lev = B.u)) with
    | false =>
      refine iteF ?_
      exact ⟨s04, nxt (by rw [et, zl]; rfl), _, _, rfl⟩
    | true =>
      refine iteT ?_
      rw [zl, Bool.true_and] at et
      have hB4 := s4 _ _ hB3
      have ha4 : H4 a = some (.tup [.int x0, .int x1, .int x2, .int x3]) := s4 _ _ ha3
      have hp4 := s4 _ _ hp3
      refine ⟨_, rfl, c, _, _, _, rfl, rfl, SqT.of hB4, t4_0 _ _ _ _, _, rfl, _, rfl, p, _, _, _, rfl, rfl, SqL.of hp4, atI_nat (ref_at ea), a, _, _, _, rfl, rfl, SqT.of ha4, t4_2 _ _ _ _, _, _, rfl, rfl, _, rfl, ?_⟩
      by_cases w0 : B.l ≤ x2
      case neg =>
        refine iteDF w0 ?_
        exact ⟨s04, nxt (by rw [et, decide_eq_false w0]; rfl), _, _, rfl⟩
      refine iteDT w0 ?_
      refine ⟨_, rfl, _, rfl, p, _, _, _, rfl, rfl, SqL.of hp4, atI_nat (ref_at ea), a, _, _, _, rfl, rfl, SqT.of ha4, t4_0 _ _ _ _, _, rfl, c, _, _, _, rfl, rfl, SqT.of hB4, t4_2 _ _ _ _, _, _, rfl, rfl, _, rfl, ?_⟩
      by_cases w2 : x0 ≤ B.r
      case neg =>
        refine iteDF w2 ?_
        exact ⟨s04, nxt (by rw [et, decide_eq_false w2, Bool.and_false]; rfl), _, _, rfl⟩
      refine iteDT w2 ?_
      have q4 := q' H4 s04
      have fl : (List.range bs.length).all (thirdI bs j k lev) = false := by
        rw [Bool.eq_false_iff]
        intro z
        have := List.all_eq_true.mp z i (List.mem_range.mpr il)
        rw [et, decide_eq_true w0, decide_eq_true w2] at this
        cases this
      rw [fl] at q4
      exact q4
  · rintro σ H2 ⟨s2, al, u4, u5, rfl⟩
    rw [lm] at al
    have q4 := q' H2 s2
    rw [al] at q4
    exact q4
end
end My
namespace My
open PySem L2 Mth Wd Fl
noncomputable abbrev Prs : Type := Nat × Nat
noncomputable def prsTo (i : Nat) : List Prs := (List.range i).flatMap fun k => (List.range k).map fun j => (j, k)
theorem prsTo_succ (i : Nat) : prsTo (i + 1) = prsTo i ++ (List.range i).map fun j => (j, i) := by
  unfold prsTo
  rw [List.range_succ, List.flatMap_append, List.flatMap_cons, List.flatMap_nil, List.append_nil]
theorem mem_prs {n : Nat} {x : Prs} : x ∈ prsTo n ↔ x.1 < x.2 ∧ x.2 < n := by
  obtain ⟨j, k⟩ := x
  simp only [prsTo, List.mem_flatMap, List.mem_range, List.mem_map, Prod.mk.injEq]
  constructor
  · rintro ⟨k', hk, j', hj, rfl, rfl⟩; exact ⟨hj, hk⟩
  · rintro ⟨h1, h2⟩; exact ⟨k, h2, j, h1, rfl, rfl⟩
theorem nd_prs (n : Nat) : (prsTo n).Nodup := by
  induction n with
  | zero => exact .nil
  | succ n ih =>
    rw [prsTo_succ, List.nodup_append]
    refine ⟨ih, ?_, fun a ha b hb e => ?_⟩
    · rw [List.Nodup, List.pairwise_map]
      exact List.nodup_range.imp fun {a b} ne z => ne (by have := congrArg Prod.fst z; exact this)
    · subst e
      have h1 := (mem_prs.mp ha).2
      obtain ⟨j, hj, rfl⟩ := List.mem_map.mp hb
      exact absurd h1 (Nat.lt_irrefl _)
theorem len_prs {n : Nat} (h : n ≤ 30) : ∀ i, i ≤ n → (prsTo i).length ≤ 30 * i := by
  intro i
  induction i with
  | zero => intro _; exact Nat.le_refl _
  | succ i ih =>
    intro hi
    have := ih (by omega)
    rw [prsTo_succ, List.length_append, List.length_map, List.length_range]
    omega
noncomputable def kS (c : Nat) (x : Prs) : Stp := (c, x.1, x.2)
noncomputable def lawL (bs : List Box) : List Stp := ((prsTo bs.length).filter fun x => abvI bs x.1 x.2).map (kS 0) ++ ((prsTo bs.length).filter fun x => bsdI bs x.1 x.2).map (kS 1)
theorem nd_kS (c : Nat) {l : List Prs} (h : l.Nodup) : (l.map (kS c)).Nodup := by
  rw [List.Nodup, List.pairwise_map]
  exact List.Pairwise.imp (fun {a b} ne z => ne (by
    obtain ⟨a1, a2⟩ := a
    obtain ⟨b1, b2⟩ := b
    simp only [kS, Prod.mk.injEq, true_and] at z
    rw [z.1, z.2])) h
theorem lawL_nd (bs : List Box) : (lawL bs).Nodup := by
  unfold lawL
  rw [List.nodup_append]
  refine ⟨nd_kS 0 ((nd_prs _).sublist List.filter_sublist), nd_kS 1 ((nd_prs _).sublist List.filter_sublist), fun a ha b hb e => ?_⟩
  obtain ⟨x, _, rfl⟩ := List.mem_map.mp ha
  obtain ⟨y, _, rfl⟩ := List.mem_map.mp hb
  have := congrArg Prod.fst e
  exact absurd (show (0 : Nat) = 1 from this) (by decide)
theorem lawL_perm (bs : List Box) : (lawL bs).Perm ((stepsOf bs.length).filter (fitI bs)) := by
  refine (List.perm_ext_iff_of_nodup (lawL_nd bs) ((nd_steps _ _).sublist List.filter_sublist)).mpr fun s => ?_
  obtain ⟨c, j, k⟩ := s
  rw [List.mem_filter, show stepsTo bs.length bs.length = stepsOf bs.length from rfl, mem_steps]
  unfold lawL
  simp only [List.mem_append, List.mem_map, List.mem_filter, mem_prs, kS, Prod.mk.injEq]
  constructor
  · rintro (⟨⟨a, b⟩, ⟨⟨h1, h2⟩, h3⟩, rfl, rfl, rfl⟩ | ⟨⟨a, b⟩, ⟨⟨h1, h2⟩, h3⟩, rfl, rfl, rfl⟩)
    · exact ⟨⟨.inl rfl, h1, h2⟩, h3⟩
    · exact ⟨⟨.inr rfl, h1, h2⟩, h3⟩
  · rintro ⟨⟨h0, h1, h2⟩, h3⟩
    rcases h0 with rfl | rfl
    · exact .inl ⟨(j, k), ⟨⟨h1, h2⟩, h3⟩, rfl, rfl, rfl⟩
    · exact .inr ⟨(j, k), ⟨⟨h1, h2⟩, h3⟩, rfl, rfl, rfl⟩
noncomputable def PairR (H : Hp) (p : Addr) (x : Prs) : Prop := H p = some (.tup [.int (x.1 : Int), .int (x.2 : Int)])
theorem mo_pair : Mo PairR := fun s h => s _ _ h
theorem PairR.del {H : Hp} {a b : Addr} {x : Prs} {ys : List V} (h : PairR H b x) (e : H a = some (.lst ys)) : PairR (del H a) b x := del_at h fun z => by
  rw [z] at h; unfold PairR at h; rw [e] at h; cases h
section
variable {P : Program} {w : World} {K : PySem.W.Frag} {mg : Str → Option Value} {base : Heap} {f g h f1 f2 f3 : Addr} {fd gd hd d1 d2 d3 : FuncData}
inductive SpLFR (vs : List V) (H : Hp) (Q : VK) : Prop
  | mk (p : Addr) (bs : List Box) (h_0 : vs = [.ref p]) (h_1 : LstR BoxR H p bs) (h_2 : bs.length ≤ 30) (h_3 : ((stepsOf bs.length).filter (fitI bs)).length < 64) (h_4 : ∀ t cs rs H', Same H H' → H' t = some (.tup (cs.map V.ref)) → At (TupS wdS S01) H' cs rs → rs.Perm (((stepsOf bs.length).filter (fitI bs)).map codeS) → rs.Pairwise (fun a b => lexI a b = true) → Q (.ref t) H') : SpLFR vs H Q
noncomputable def spLF : Sp := fun vs H Q _ => SpLFR vs H Q
theorem scLF : FnScope ["_law_boxes", "_law_pairs", "_law_k", "_law_found"] ["_law_boxes"] (defScope s_law_fitting) := ⟨rfl, rfl, rfl, by decide +kernel, rfl, by decide +kernel, by decide +kernel⟩
theorem ndJK : (["_law_j", "_law_k"] : List Str).Nodup := by decide +kernel
theorem ndJKB : (["_law_j", "_law_k", "_law_boxes"] : List Str).Nodup := by decide +kernel
noncomputable abbrev gJK (K : PySem.W.Frag) (n : Nat) : TG := gTup K n (gCons (gName 0) (gCons (gName 1) gNil))
theorem fit_comp {t : List Box → Nat → Nat → Bool} {c : Nat} {wdc : Str} (hw : wdS (c : Int) = wdc) (hc : S01 (c : Int)) {H1 : Hp} {l acc p : Addr} {ds : List Addr} {bs : List Box} (hl : H1 l = some (.lst (ds.map V.ref))) (hD : At PairR H1 ds (prsTo bs.length)) (hL : LstR BoxR H1 p bs) (n30 : bs.length ≤ 30) (hacc : H1 acc = none) {G : Hp → Prop}
    (fin : ∀ (gs : List Addr) (H2 : Hp), Same H1 H2 → H2 acc = some (.lst (gs.map V.ref)) → At (TupS wdS S01) H2 gs ((((prsTo bs.length).filter fun x => t bs x.1 x.2).map (kS c)).map codeS) → G H2) :
    ∃ W : Nat → Nat → List V → St → Hp → Prop, (∃ m, W 0 m [] [none, none, some (.ref p)] (upd H1 acc (.lst []))) ∧ ∀ i m ys σc H2, W i m ys σc H2 →
      ((Itl K l).stop i H2 ∧ G H2) ∨ ((Itl K l).go i H2 ∧ ∀ x H3, (Itl K l).yld i H2 x H3 → gJK K 2 x σc H3 fun σ4 H4 => tB (tCall (spTwoI t) [] E0 (tCons (tVar 2) (tCons (tVar 0) (tCons (tVar 1) tNil)))) σ4 H4 fun ok H5 => if ok = true then (tTup (tCons (tC (.str wdc)) (tCons (tVar 0) (tCons (tVar 1) tNil))) σ4 H5 fun v H6 => H6 acc = some (.lst ys) ∧ ys.length < sizeLine ∧ ∃ m', m' < m ∧ W (i + 1) m' (ys ++ [v]) σ4 (upd H6 acc (.lst (ys ++ [v])))) else ∃ m', m' < m ∧ W (i + 1) m' ys σ4 H5) := by
  have ld : ds.length = (prsTo bs.length).length := hD.1
  have ln := len_prs n30 bs.length (Nat.le_refl _)
  refine comp_runF (run_list hl) (by rw [List.length_map]; omega) hacc (fun i ys σ hp => ∃ gs : List Addr, ys = gs.map V.ref ∧ At (TupS wdS S01) hp gs (((((prsTo bs.length).take i).filter fun x => t bs x.1 x.2).map (kS c)).map codeS) ∧ ∃ u v, σ = [u, v, some (.ref p)]) ⟨[], rfl, At.nil, none, none, rfl⟩ ?_ ?_
  · rintro i ys σ H3 x H4 hi sm hacc3 ⟨gs, rfl, hG, u, v, rfl⟩ ⟨rfl, hx⟩ Cc Nn hCc hNn
    obtain ⟨b, ⟨j, k⟩, rfl, _, hy, hb⟩ := hD.ref hx
    have mem := mem_prs.mp (List.mem_of_getElem? hy)
    dsimp only at mem
    have hb3 : H4 b = some (.tup [.int (j : Int), .int (k : Int)]) := sm _ _ hb
    have fs := filter_snocS (fun x : Prs => t bs x.1 x.2) hy
    refine ⟨b, _, rfl, SqT.of hb3, rfl, _, _, rfl, _, _, rfl, rfl, ?_⟩
    refine ⟨_, rfl, _, rfl, _, rfl, p, bs, j, k, rfl, mo_lst (R := BoxR) (fun s h => mo_bxR s h) sm hL, n30, mem.1, mem.2, fun H5 s5 => ⟨_, rfl, ?_⟩⟩
    (try dsimp only)
    by_cases hf : t bs j k = true
    · rw [if_pos hf]
      refine ⟨_, rfl, _, rfl, by show 3 ≤ sizeLine; decide, fun a ha => ?_⟩
      have s6 := same_new ha (.tup [.str wdc, .int (j : Int), .int (k : Int)])
      refine hCc _ _ _ (s5.trans s6) ⟨gs ++ [a], by simp, ?_, _, _, rfl⟩
      rw [fs, if_pos hf, List.map_append, List.map_append]
      refine (hG.keep mo_tupS (del_mono acc (s5.trans s6))).snoc ⟨(c : Int), [(j : Int), (k : Int)], rfl, hc, ?_⟩
      rw [hw]
      exact del_at upd_same (fun z => by rw [z, (s5 _ _ hacc3)] at ha; cases ha)
    · rw [if_neg hf]
      refine hNn _ _ s5 ⟨gs, rfl, ?_, _, _, rfl⟩
      rw [fs, if_neg hf, List.append_nil]
      exact hG.keep mo_tupS (del_mono acc s5)
  · rintro ys σ H3 s3 ha3 ⟨gs, rfl, hG, u, v, rfl⟩
    rw [List.length_map, ld, List.take_length] at hG
    exact fin gs H3 s3 ha3 (hG.keep mo_tupS (del_sub H3 acc))
set_option maxHeartbeats 4000000 in
theorem ok_lfit (F : Fun K "_law_fitting" "_law_fitting" s_law_fitting f fd) (G1 : FnOk P w K mg base CX0 1 f1 d1 ["_law_boxes", "_law_j", "_law_k"] (spTwoI abvI)) (b1 : Binds K d1 ["_law_boxes", "_law_j", "_law_k"] []) (k1 : PySem.W.keepIn K (.ref f1) = true) (m1 : mg "_law_above" = some (.ref f1))
    (G2 : FnOk P w K mg base CX0 1 f2 d2 ["_law_boxes", "_law_j", "_law_k"] (spTwoI bsdI)) (b2 : Binds K d2 ["_law_boxes", "_law_j", "_law_k"] []) (k2 : PySem.W.keepIn K (.ref f2) = true) (m2 : mg "_law_beside" = some (.ref f2))
    (ml : mg "len" = none) (mr : mg "range" = none) (mt : mg "tuple" = none) (mso : mg "sorted" = none) : FnOk P w K mg base CX0 2 f fd ["_law_boxes"] spLF := by
  refine F.ok scLF (fun vs H Q E h => ?_) (fun cdv A outer s H vs Q E hr h => ?_)
  · obtain ⟨p, bs, rfl, _⟩ := h
    rfl
  obtain ⟨p, bs, rfl, hL, n30, l64, q⟩ := h
  obtain ⟨cs, hp, hC⟩ := id hL
  have lm : (cs.map V.ref).length = bs.length := by rw [List.length_map, hC.1]
  refine ⟨_, pss_cons (ps_set (i := 1) scLF.nd rfl (Or.inl rfl) (pe_lst pa_nil))
    (pss_cons (ps_for PassesOwn.never rfl (pi_range1 (by rfl) mr (pa_cons (pe_callB (callLen (K := K)) (by rfl) ml bt_len (pa_cons (pv 0) pa_nil)) pa_nil)) (pg_name (i := 2) scLF.nd rfl (Or.inr rfl))
      (pss_one (ps_set (i := 1) scLF.nd rfl (Or.inl rfl) (pe_op op_cat (pv 1) (pe_comp (Nc := ["_law_j", "_law_k"]) (cap := [(1, 2)]) (g := gName 0) (te := tTup (tCons (tVar 0) (tCons (tVar 1) tNil))) rfl (pi_range1 (by rfl) mr (pa_cons (pv 2) pa_nil))
        (comp_mk rfl rfl (by decide +kernel) (by decide +kernel) (List.forall_mem_cons.mpr ⟨⟨rfl, rfl⟩, List.forall_mem_nil _⟩) rfl (List.forall_mem_cons.mpr ⟨⟨_, _, rfl, rfl, rfl, rfl, rfl⟩, List.forall_mem_nil _⟩))
        (fun C fp pins s' H' => pg_name (i := 0) ndJK rfl (Or.inl rfl)) (fun C fp pins s' H' => pe_tup (pa_cons (pv 0) (pa_cons (pv 1) pa_nil))))))))
    (pss_cons (ps_setCompF (i := 3) scLF.nd rfl (Or.inl rfl) (Nc := ["_law_j", "_law_k", "_law_boxes"]) (cap := [(2, 0)]) (g := gJK K 2) (tt := tB (tCall (spTwoI abvI) [] E0 (tCons (tVar 2) (tCons (tVar 0) (tCons (tVar 1) tNil))))) (te := tTup (tCons (tC (.str "above")) (tCons (tVar 0) (tCons (tVar 1) tNil)))) rfl (piLst (K := K) (pv 1))
        (comp_mk rfl rfl (by decide +kernel) (by decide +kernel) (List.forall_mem_cons.mpr ⟨⟨rfl, rfl⟩, List.forall_mem_nil _⟩) rfl (List.forall_mem_cons.mpr ⟨⟨_, _, rfl, rfl, rfl, rfl, rfl⟩, List.forall_mem_nil _⟩))
        (fun C fp pins s' H' => pgTup (n := 2) (K := K) rfl (pgs_cons (pg_name (i := 0) ndJKB rfl (Or.inl rfl)) (pgs_cons (pg_name (i := 1) ndJKB rfl (Or.inl rfl)) pgs_nil)))
        (fun C fp pins s' H' => pt_val (pe_call G1 hr (by rfl) m1 k1 b1 .nil pass0 (pa_cons (pv 2) (pa_cons (pv 0) (pa_cons (pv 1) pa_nil)))))
        (fun C fp pins s' H' => pe_tup (pa_cons pe_str (pa_cons (pv 0) (pa_cons (pv 1) pa_nil)))))
    (pss_one (ps_ret (pe_callTy (callTup (K := K)) (by rfl) mt bt_tuple (pa_cons (pe_callB (call_sortS' wd_ok) (by rfl) mso bt_sorted (pa_cons (pe_op op_cat (pv 3)
      (pe_compF (Nc := ["_law_j", "_law_k", "_law_boxes"]) (cap := [(2, 0)]) (g := gJK K 2) (tt := tB (tCall (spTwoI bsdI) [] E0 (tCons (tVar 2) (tCons (tVar 0) (tCons (tVar 1) tNil))))) (te := tTup (tCons (tC (.str "beside")) (tCons (tVar 0) (tCons (tVar 1) tNil)))) rfl (piLst (K := K) (pv 1))
        (comp_mk rfl rfl (by decide +kernel) (by decide +kernel) (List.forall_mem_cons.mpr ⟨⟨rfl, rfl⟩, List.forall_mem_nil _⟩) rfl (List.forall_mem_cons.mpr ⟨⟨_, _, rfl, rfl, rfl, rfl, rfl⟩, List.forall_mem_nil _⟩))
        (fun C fp pins s' H' => pgTup (n := 2) (K := K) rfl (pgs_cons (pg_name (i := 0) ndJKB rfl (Or.inl rfl)) (pgs_cons (pg_name (i := 1) ndJKB rfl (Or.inl rfl)) pgs_nil)))
        (fun C fp pins s' H' => pt_val (pe_call G2 hr (by rfl) m2 k2 b2 .nil pass0 (pa_cons (pv 2) (pa_cons (pv 0) (pa_cons (pv 1) pa_nil)))))
        (fun C fp pins s' H' => pe_tup (pa_cons pe_str (pa_cons (pv 0) (pa_cons (pv 1) pa_nil)))))) pa_nil)) pa_nil)))))), ?_⟩
  obtain ⟨n, hn⟩ : ∃ n, bs.length = n := ⟨_, rfl⟩
  refine ⟨by show 0 ≤ sizeLine; decide, fun l0 hl0 => ?_⟩
  obtain ⟨H1, e1, s1, g1⟩ := new_lst hl0 []
  rw [e1]
  refine ⟨_, rfl, p, _, rfl, .inl (SqL.of (s1 _ _ hp)), _, rfl, by rw [lm]; omega, by rw [lm]; omega, ?_⟩
  rw [lm, hn, show ((n : Nat) : Int).toNat = n by omega]
  refine for_range (lo := 0) (n := n) (fun i σ H2 => Same H H2 ∧ ∃ (l : Addr) (ds : List Addr) (u2 : Option V), σ = [some (.ref p), some (.ref l), u2, none] ∧ H2 l = some (.lst (ds.map V.ref)) ∧ At PairR H2 ds (prsTo i)) ⟨s1, l0, [], none, rfl, g1, At.nil⟩ ?_ ?_
  · rintro i σ H2 hi ⟨s2, l, ds, u2, rfl, hl2, hD⟩
    have ld : ds.length = (prsTo i).length := hD.1
    have ln := len_prs (n := n) (by omega) i (by omega)
    rw [show (0 : Int) + (i : Int) = (i : Int) by omega]
    refine ⟨_, rfl, _, rfl, (i : Int), rfl, by omega, by omega, fun acc hacc => ?_⟩
    rw [show ((i : Nat) : Int).toNat = i by omega]
    refine comp_run run_range (by omega) hacc (fun m ys σ hp => ∃ gs : List Addr, ys = gs.map V.ref ∧ At PairR hp gs ((List.range m).map fun j => (j, i)) ∧ ∃ u, σ = [u, some (.int (i : Int))]) ⟨[], rfl, At.nil, none, rfl⟩ ?_ ?_
    · rintro m ys σ H3 x H4 hm sm hacc3 ⟨gs, rfl, hG, u, rfl⟩ ⟨rfl, rfl⟩ Cc hCc
      refine ⟨_, rfl, _, rfl, by show 2 ≤ sizeLine; decide, fun t ht => ?_⟩
      have s5 := same_new ht (.tup [.int (0 + (m : Int)), .int (i : Int)])
      refine hCc _ _ _ s5 ⟨gs ++ [t], by simp, ?_, _, rfl⟩
      rw [List.range_succ, List.map_append]
      refine (hG.keep mo_pair (del_mono acc s5)).snoc ?_
      show del _ acc t = some (.tup [.int (m : Int), .int (i : Int)])
      rw [del_at upd_same (fun z => by rw [z, hacc3] at ht; cases ht)]
      rw [show (0 : Int) + (m : Int) = (m : Int) by omega]
    rintro ys σ H3 s3 ha3 _ ⟨gs, rfl, hG, u, rfl⟩
    have lg : gs.length = i := by have := hG.1; rw [List.length_map, List.length_range] at this; exact this
    refine ⟨l, acc, _, _, rfl, rfl, s3 _ _ hl2, ha3, by rw [List.length_map, List.length_map]; exact szle (by omega), fun q2 hq2 => ?_⟩
    have s4 := same_new hq2 (.lst (ds.map V.ref ++ gs.map V.ref))
    refine ⟨s2.trans (s3.trans s4), q2, ds ++ gs, _, rfl, by rw [upd_same, List.map_append], ?_⟩
    rw [prsTo_succ]
    exact ((hD.keep mo_pair (s3.trans s4)).app ((hG.keep mo_pair (del_sub H3 acc)).keep mo_pair s4))
  rintro σ H2 ⟨s2, l, ds, u2, rfl, hl2, hD⟩
  rw [← hn] at hD
  have hL2 : LstR BoxR H2 p bs := mo_lst (R := BoxR) (fun s h => mo_bxR s h) s2 hL
  refine ⟨_, rfl, l, rfl, ⟨_, SqL.of hl2⟩, fun acc hacc => ?_⟩
  refine fit_comp (K := K) (t := abvI) (c := 0) (wdc := "above") rfl (.inl rfl) hl2 hD hL2 n30 hacc fun gs H3 s3 ha3 hG => ?_
  refine ⟨_, rfl, _, rfl, l, rfl, ⟨_, SqL.of (s3 _ _ hl2)⟩, fun acc2 hacc2 => ?_⟩
  refine fit_comp (K := K) (t := bsdI) (c := 1) (wdc := "beside") rfl (.inr rfl) (s3 _ _ hl2) (hD.keep mo_pair s3) (mo_lst (R := BoxR) (fun s h => mo_bxR s h) s3 hL2) n30 hacc2 fun gs2 H4 s4 ha4 hG2 => ?_
  have pm := lawL_perm bs
  have A := (hG.keep mo_tupS s4).app hG2
  rw [← List.map_append, show ((prsTo bs.length).filter fun x => abvI bs x.1 x.2).map (kS 0) ++ ((prsTo bs.length).filter fun x => bsdI bs x.1 x.2).map (kS 1) = lawL bs from rfl] at A
  have lA : (gs ++ gs2).length = (lawL bs).length := by have := A.1; rw [List.length_map] at this; exact this
  have ll := pm.length_eq
  rw [List.length_append] at lA
  refine ⟨acc, acc2, _, _, rfl, rfl, s4 _ _ ha3, ha4, by rw [List.length_map, List.length_map]; exact szle (by omega), fun q2 hq2 => ?_⟩
  have s5 := same_new hq2 (.lst (gs.map V.ref ++ gs2.map V.ref))
  have g5 : upd H4 q2 (.lst (gs.map V.ref ++ gs2.map V.ref)) q2 = some (.lst ((gs ++ gs2).map V.ref)) := by rw [upd_same, List.map_append]
  generalize upd H4 q2 (.lst (gs.map V.ref ++ gs2.map V.ref)) = H5 at s5 g5
  refine ⟨q2, gs ++ gs2, _, rfl, g5, A.keep mo_tupS s5, nd_codes (lawL_nd bs), by rw [List.length_map]; omega, fun l2 es rs hl6 hE pmr pw => ?_⟩
  have s6 := same_new hl6 (.lst (es.map V.ref))
  have g6 : upd H5 l2 (.lst (es.map V.ref)) l2 = some (.lst (es.map V.ref)) := upd_same
  generalize upd H5 l2 (.lst (es.map V.ref)) = H6 at s6 g6
  refine ⟨l2, _, rfl, .inl ⟨SqL.of g6, fun t ht => ?_⟩⟩
  have s7 := same_new ht (.tup (es.map V.ref))
  exact q t es rs _ (s2.trans (s3.trans (s4.trans (s5.trans (s6.trans s7))))) upd_same (hE.keep mo_tupS (s6.trans s7)) (pmr.trans (pm.map codeS)) pw
end
end My
namespace My
open PySem PySem.Spec PyProof.Rows L2 Mth Wd Fl
noncomputable def rowD (r : List Int) : PyData := .tuple (match r with
  | [] => []
  | c :: rest => .str (wdS c) :: rest.map PyData.int)
noncomputable def rowsD (rs : List (List Int)) : PyData := .tuple (rs.map rowD)
theorem rd_step {H : Hp} {b : Addr} {r : List Int} (h : TupS wdS S01 H b r) : RdD H (.ref b) (rowD r) := by
  obtain ⟨c, rest, rfl, _, h⟩ := h
  refine .tup h (by simp) fun i x d e1 e2 => ?_
  match i with
  | 0 =>
    obtain rfl := Option.some.inj e1
    obtain rfl := Option.some.inj e2
    exact .str _
  | i + 1 =>
    rw [List.getElem?_cons_succ, List.getElem?_map] at e1 e2
    obtain ⟨y, hy, rfl⟩ := Option.map_eq_some_iff.mp e1
    rw [hy] at e2
    obtain rfl := Option.some.inj e2
    exact .int _
theorem rd_steps {H : Hp} {t : Addr} {cs : List Addr} {rs : List (List Int)} (ht : H t = some (.tup (cs.map V.ref))) (hA : At (TupS wdS S01) H cs rs) : RdD H (.ref t) (rowsD rs) := by
  refine .tup ht (by simp [hA.1]) fun i x d e1 e2 => ?_
  rw [List.getElem?_map] at e1 e2
  obtain ⟨b, hb, rfl⟩ := Option.map_eq_some_iff.mp e1
  obtain ⟨r, hr, rfl⟩ := Option.map_eq_some_iff.mp e2
  exact rd_step (hA.2 i b r hb hr)
theorem lay_wd (c : Int) : (PyData.str (wdS c)).canLay0 = true := by
  unfold wdS
  split <;> decide +kernel
theorem row_ok (r : List Int) : (rowD r).canLay0 = true ∧ (rowD r).depth ≤ 2 := by
  unfold rowD
  have key : ∀ ds : List PyData, (∀ d ∈ ds, d.canLay0 = true ∧ d.depth ≤ 1) → (PyData.tuple ds).canLay0 = true ∧ (PyData.tuple ds).depth ≤ 2 := fun ds h => by
    refine ⟨by simp only [PyData.canLay0]; exact lay_all fun d hd => (h d hd).1, ?_⟩
    have := deep_all fun d hd => (h d hd).2
    simp only [PyData.depth]
    omega
  refine key _ fun d hd => ?_
  cases r with
  | nil => cases hd
  | cons c rest =>
    rcases List.mem_cons.mp hd with rfl | hd
    · exact ⟨lay_wd c, by simp [PyData.depth]⟩
    · obtain ⟨y, _, rfl⟩ := List.mem_map.mp hd
      exact ⟨rfl, by simp [PyData.depth]⟩
end My
namespace My
open PySem PySem.Spec PyProof.Rows L2 Mth Wd Fl
theorem pth_eq {rows r : List (List Rat)} {ss : List Stp} (h : PthR rows ss r) : r = ss.foldl dnS rows ∧ ∀ i s, ss[i]? = some s → FitS ((ss.take i).foldl dnS rows) s := by
  induction h with
  | nil => exact ⟨rfl, fun i s z => by simp at z⟩
  | @snoc ss r1 s p ft ih =>
    refine ⟨by rw [List.foldl_append, ← ih.1]; rfl, fun i s' z => ?_⟩
    by_cases k : i < ss.length
    · rw [List.getElem?_append_left k] at z
      rw [List.take_append_of_le_length (by omega)]
      exact ih.2 i s' z
    · by_cases k' : i = ss.length
      · subst k'
        rw [List.getElem?_append_right (Nat.le_refl _), Nat.sub_self] at z
        obtain rfl : s = s' := Option.some.inj z
        rw [List.take_left', ← ih.1]
        · exact ft
        · rfl
      · rw [List.getElem?_eq_none (by rw [List.length_append, List.length_singleton]; omega)] at z
        cases z
theorem keep_path {I : List (List Rat) → Prop} (k : KeepR I) {rows r : List (List Rat)} {ss : List Stp} (h : PthR rows ss r) (i0 : I rows) : I r := by
  induction h with
  | nil => exact i0
  | snoc p ft ih => exact k.dn _ _ ih ft
theorem pth_take {rows r : List (List Rat)} {ss : List Stp} (h : PthR rows ss r) : ∀ i, i ≤ ss.length → PthR rows (ss.take i) ((ss.take i).foldl dnS rows) := by
  intro i
  induction i with
  | zero => intro _; exact .nil
  | succ i ih =>
    intro hi
    have e : ss[i]? = some ss[i] := List.getElem?_eq_getElem (by omega)
    rw [take_succ_of e, List.foldl_append]
    exact (ih (by omega)).snoc ((pth_eq h).2 i _ e)
section
variable {P : Program} {w : World} {K : PySem.W.Frag} {mg : Str → Option Value} {base : Heap} {f g h f1 f2 f3 f4 C1 C2 : Addr} {fd gd hd d1 d2 d3 d4 : FuncData}
noncomputable def spWk : Sp := fun vs H Q _ => ∃ (a ps : Addr) (cs : List Addr) (ss : List Stp) (W U : Rat) (rows rows' : List (List Rat)) (I : List (List Rat) → Prop), vs = [.ref a, .ref ps] ∧ FloorR H a W U rows ∧ H ps = some (.tup (cs.map V.ref)) ∧ At (TupS wdS S01) H cs (ss.map codeS) ∧ PthR rows ss rows' ∧ KeepR I ∧ I rows ∧ ∀ b H', Same H H' → FloorR H' b W U rows' → Q (.ref b) H'
theorem scWk : FnScope ["floor", "steps", "told"] ["floor", "steps"] (defScope s_walked) := ⟨rfl, rfl, rfl, by decide +kernel, rfl, by decide +kernel, by decide +kernel⟩
theorem ok_walked (F : Fun K "walked" "walked" s_walked f fd) (T1 : StC K C1) (T2 : StC K C2)
    (G2 : FnOk P w K mg base CX0 3 f2 d2 ["told"] (spSO C1 C2)) (b2 : Binds K d2 ["told"] []) (k2 : PySem.W.keepIn K (.ref f2) = true) (m2 : mg "step_of" = some (.ref f2))
    (G3 : FnOk P w K mg base CX0 7 f3 d3 ["self", "floor"] (spDn C1 abvR)) (b3 : Binds K d3 ["self", "floor"] []) (e3 : Meth K C1 "done" f3)
    (G4 : FnOk P w K mg base CX0 7 f4 d4 ["self", "floor"] (spDn C2 bsdR)) (b4 : Binds K d4 ["self", "floor"] []) (e4 : Meth K C2 "done" f4) : FnOk P w K mg base CX0 8 f fd ["floor", "steps"] spWk := by
  refine F.ok scWk (fun vs H Q E h => ?_) (fun cdv A outer s H vs Q E hr h => ?_)
  · obtain ⟨a, ps, cs, ss, W, U, rows, rows', I, rfl, _⟩ := h
    rfl
  obtain ⟨a, ps, cs, ss, W, U, rows, rows', I, rfl, hF, hps, hC, pth, kI, i0, q⟩ := h
  have r3 := hr.mono (show 3 ≤ 7 by decide)
  refine ⟨_, pss_cons (ps_for PassesOwn.never rfl (piTup (K := K) (pv 1)) (pg_name (i := 2) scWk.nd rfl (Or.inl rfl))
      (pss_one (ps_set (i := 0) scWk.nd rfl (Or.inl rfl) (pe_meth2 (pe_call G2 r3 (by rfl) m2 k2 b2 .nil pass0 (pa_cons (pv 2) pa_nil)) T1.cl T2.cl e3 e4 G3 G4 hr hr b3 b4 pass0 pass0 (pa_cons (pv 0) pa_nil)))))
    (pss_one (ps_ret (pv 0))), ?_⟩
  have lc : cs.length = ss.length := by rw [hC.1, List.length_map]
  obtain ⟨er, fits⟩ := pth_eq pth
  refine ⟨_, rfl, ps, rfl, ⟨_, SqT.of hps⟩, ?_⟩
  refine for_tup (K := K) (xs := cs.map V.ref) (fun i σ H2 => Same H H2 ∧ ∃ (b : Addr) (u : Option V), σ = [some (.ref b), some (.ref ps), u] ∧ FloorR H2 b W U ((ss.take i).foldl dnS rows)) ⟨Same.refl _, a, none, rfl, hF⟩ (fun i σ H2 _ z => SqT.of (z.1 _ _ hps)) ?_ ?_
  · rintro i y σ H2 hi ⟨s2, b, u, rfl, hb⟩
    obtain ⟨d, r, rfl, _, hr', hR⟩ := hC.ref hi
    rw [List.getElem?_map] at hr'
    obtain ⟨st, hst, rfl⟩ := Option.map_eq_some_iff.mp hr'
    have il : i < ss.length := (List.getElem?_eq_some_iff.mp hst).1
    have ft := fits i st hst
    have mm := mem_steps.mp ft.1
    have i1 := keep_path kI (pth_take pth i (by omega)) i0
    obtain ⟨scd, hd⟩ := tup3 hR
    refine ⟨_, rfl, d, (st.1 : Int), _, _, rfl, scd, s2 _ _ hd, fun x dx H5 s5 hx => ?_⟩
    have hF5 := mo_floor s5 hb
    have fin : ∀ b' H6, Same H5 H6 → FloorR H6 b' W U (dnR ((ss.take i).foldl dnS rows) st.2.1 st.2.2) → Same H H6 ∧ ∃ (b'' : Addr) (u : Option V), ([some (.ref b'), some (.ref ps), some (.ref d)] : List (Option V)) = [some (.ref b''), some (.ref ps), u] ∧ FloorR H6 b'' W U ((ss.take (i+1)).foldl dnS rows) := fun b' H6 s6 h6 => ⟨s2.trans (s5.trans s6), b', _, rfl, by rw [take_succ_of hst, List.foldl_append]; exact h6⟩
    have rk1 := kI.rk _ i1
    rcases mm.1 with z | z
    · have hx' : H5 x = some (.ins C1 dx (fldS (st.2.1 : Int) (st.2.2 : Int))) := by rw [hx, z]; rfl
      have fb : abvR ((ss.take i).foldl dnS rows) st.2.1 st.2.2 = true := by have := ft.2; unfold fitB at this; rwa [if_pos z] at this
      exact ⟨x, dx, _, rfl, fldS_no _ _ (by decide +kernel) (by decide +kernel), .inl ⟨hx', _, rfl, x, b, dx, _, _, W, U, _, rfl, hx', hF5, rk1, mm.2.1, mm.2.2, fb, fin⟩⟩
    · have hx' : H5 x = some (.ins C2 dx (fldS (st.2.1 : Int) (st.2.2 : Int))) := by rw [hx, z]; rfl
      have fb : bsdR ((ss.take i).foldl dnS rows) st.2.1 st.2.2 = true := by have := ft.2; unfold fitB at this; rwa [if_neg (by omega)] at this
      exact ⟨x, dx, _, rfl, fldS_no _ _ (by decide +kernel) (by decide +kernel), .inr ⟨hx', _, rfl, x, b, dx, _, _, W, U, _, rfl, hx', hF5, rk1, mm.2.1, mm.2.2, fb, fin⟩⟩
  · rintro σ H2 ⟨s2, b, u, rfl, hb⟩
    rw [List.length_map, lc, List.take_length, ← er] at hb
    exact ⟨_, rfl, q b H2 s2 hb⟩
noncomputable def spLD : Sp := fun vs H Q _ => ∃ (p : Addr) (bs : List Box) (j k : Nat), vs = [.ref p, .int (j : Int), .int (k : Int)] ∧ LstR BoxR H p bs ∧ bs.length ≤ 30 ∧ j < k ∧ k < bs.length ∧ ∀ q H', H q = none → Same H H' → LstR BoxR H' q (dnL uniB z4 bs j k) → Q (.ref q) H'
theorem scLD : FnScope ["_law_boxes", "_law_j", "_law_k", "_law_one", "_law_two_here", "_law_both"] ["_law_boxes", "_law_j", "_law_k"] (defScope s_law_done) := ⟨rfl, rfl, rfl, by decide +kernel, rfl, by decide +kernel, by decide +kernel⟩
theorem cut_mid (xs : List V) {j k : Nat} (h1 : j ≤ k) (h2 : k ≤ xs.length) : cutV xs (some (j : Int)) (some (k : Int)) = (xs.drop j).take (k - j) := by
  unfold cutV
  have e1 : HT.sIx xs.length 0 (some (j : Int)) = j := by simp only [HT.sIx]; split <;> omega
  have e2 : HT.sIx xs.length xs.length (some (k : Int)) = k := by simp only [HT.sIx]; split <;> omega
  rw [e1, e2]
theorem dn_cut {bs : List Box} {j k : Nat} (jk : j < k) (kn : k < bs.length) : dnL uniB z4 bs j k = bs.take j ++ [uniB (bxA bs j) (bxA bs k)] ++ (bs.drop (j+1)).take (k - (j+1)) ++ bs.drop (k+1) := by
  unfold dnL
  rw [List.eraseIdx_eq_take_drop_succ, List.set_eq_take_append_cons_drop, if_pos (by omega)]
  rw [List.take_append, List.drop_append]
  simp only [List.length_take, Nat.min_eq_left (show j ≤ bs.length by omega)]
  rw [List.take_of_length_le (l := bs.take j) (i := k) (by rw [List.length_take]; omega), List.drop_of_length_le (l := bs.take j) (i := k + 1) (by rw [List.length_take]; omega), List.nil_append]
  rw [show k - j = (k - (j + 1)) + 1 by omega, List.take_succ_cons, show k + 1 - j = (k + 1 - (j + 1)) + 1 by omega, List.drop_succ_cons, List.drop_drop, show j + 1 + (k + 1 - (j + 1)) = k + 1 by omega]
  simp
theorem none_back {H H' : Hp} (s : Same H H') {a : Addr} (h : H' a = none) : H a = none := by
  cases z : H a with
  | none => rfl
  | some o => rw [s _ _ z] at h; cases h
theorem mn_eq (x y : Int) : (if y < x then y else x) = min x y := by split <;> omega
theorem mx_eq (x y : Int) : (if y > x then y else x) = max x y := by split <;> omega
theorem ok_ldone (F : Fun K "_law_done" "_law_done" s_law_done f fd) (mn : mg "min" = none) (mx : mg "max" = none) : FnOk P w K mg base CX0 1 f fd ["_law_boxes", "_law_j", "_law_k"] spLD := by
  refine F.ok scLD (fun vs H Q E h => ?_) (fun cdv A outer s H vs Q E hr h => ?_)
  · obtain ⟨p, bs, j, k, rfl, _⟩ := h
    rfl
  obtain ⟨p, bs, j, k, rfl, ⟨cs, hp, hC⟩, n30, jk, kn, q⟩ := h
  have lc : cs.length = bs.length := hC.1
  obtain ⟨a, ea, ha⟩ := hC.get (box_get (show j < bs.length by omega))
  obtain ⟨b, eb, hb⟩ := hC.get (box_get kn)
  have ha' : H a = some (.tup [.int (bxA bs j).l, .int (bxA bs j).d, .int (bxA bs j).r, .int (bxA bs j).u]) := ha
  have hb' : H b = some (.tup [.int (bxA bs k).l, .int (bxA bs k).d, .int (bxA bs k).r, .int (bxA bs k).u]) := hb
  rw [dn_cut jk kn] at q
  unfold uniB at q
  generalize bxA bs j = X at ha' q
  generalize bxA bs k = Y at hb' q
  refine ⟨_, pss_cons (ps_set (i := 3) scLD.nd rfl (Or.inl rfl) (pe_ix (ixL (K := K)) (pv 0) (pv 1) (fun _ _ => rfl)))
    (pss_cons (ps_set (i := 4) scLD.nd rfl (Or.inl rfl) (pe_ix (ixL (K := K)) (pv 0) (pv 2) (fun _ _ => rfl)))
    (pss_cons (ps_set (i := 5) scLD.nd rfl (Or.inl rfl) (pe_tup (pa_cons (pe_callB (call_min2 rfl) (by rfl) mn bt_min (pa_cons (pe_ix (ixT (K := K)) (pv 3) pe_int (fun _ _ => rfl)) (pa_cons (pe_ix (ixT (K := K)) (pv 4) pe_int (fun _ _ => rfl)) pa_nil))) (pa_cons (pe_callB (call_min2 rfl) (by rfl) mn bt_min (pa_cons (pe_ix (ixT (K := K)) (pv 3) pe_int (fun _ _ => rfl)) (pa_cons (pe_ix (ixT (K := K)) (pv 4) pe_int (fun _ _ => rfl)) pa_nil))) (pa_cons (pe_callB (call_max2 rfl) (by rfl) mx bt_max (pa_cons (pe_ix (ixT (K := K)) (pv 3) pe_int (fun _ _ => rfl)) (pa_cons (pe_ix (ixT (K := K)) (pv 4) pe_int (fun _ _ => rfl)) pa_nil))) (pa_cons (pe_callB (call_max2 rfl) (by rfl) mx bt_max (pa_cons (pe_ix (ixT (K := K)) (pv 3) pe_int (fun _ _ => rfl)) (pa_cons (pe_ix (ixT (K := K)) (pv 4) pe_int (fun _ _ => rfl)) pa_nil))) pa_nil))))))
    (pss_one (ps_ret (pe_op op_cat (pe_op op_cat (pe_op op_cat (pe_slice (slL (K := K)) (pv 0) po_none (po_some (pv 1))) (pe_lst (pa_cons (pv 5) pa_nil))) (pe_slice (slL (K := K)) (pv 0) (po_some (pe_op op_add (pv 1) pe_int)) (po_some (pv 2)))) (pe_slice (slL (K := K)) (pv 0) (po_some (pe_op op_add (pv 2) pe_int)) po_none)))))), ?_⟩
  refine ⟨_, rfl, _, rfl, p, _, _, _, rfl, rfl, SqL.of hp, atI_nat (ref_at ea), ?_⟩
  refine ⟨_, rfl, _, rfl, p, _, _, _, rfl, rfl, SqL.of hp, atI_nat (ref_at eb), ?_⟩
  refine ⟨_, rfl, a, _, _, _, rfl, rfl, SqT.of ha', t4_0 _ _ _ _, _, rfl, b, _, _, _, rfl, rfl, SqT.of hb', t4_0 _ _ _ _, _, _, rfl, _, rfl, a, _, _, _, rfl, rfl, SqT.of ha', t4_1 _ _ _ _, _, rfl, b, _, _, _, rfl, rfl, SqT.of hb', t4_1 _ _ _ _, _, _, rfl, _, rfl, a, _, _, _, rfl, rfl, SqT.of ha', t4_2 _ _ _ _, _, rfl, b, _, _, _, rfl, rfl, SqT.of hb', t4_2 _ _ _ _, _, _, rfl, _, rfl, a, _, _, _, rfl, rfl, SqT.of ha', t4_3 _ _ _ _, _, rfl, b, _, _, _, rfl, rfl, SqT.of hb', t4_3 _ _ _ _, _, _, rfl, by show 4 ≤ sizeLine; decide, fun t ht => ?_⟩
  rw [mn_eq, mn_eq, mx_eq, mx_eq]
  obtain ⟨H1, e1, s1, g1⟩ := new_box ht (min X.l Y.l) (min X.d Y.d) (max X.r Y.r) (max X.u Y.u)
  rw [e1]
  refine ⟨_, rfl, _, rfl, _, rfl, p, _, rfl, SqL.of (s1 _ _ hp), fun q1 hq1 => ?_⟩
  rw [show cutV (cs.map V.ref) none (some ((j : Nat) : Int)) = (cs.take j).map V.ref from (cut_take _ (by rw [List.length_map]; omega)).trans (List.map_take ..).symm]
  obtain ⟨H2, e2, s2, g2⟩ := newL hq1 ((cs.take j).map V.ref)
  rw [e2]
  refine ⟨_, rfl, by show 1 ≤ sizeLine; decide, fun q2 hq2 => ?_⟩
  obtain ⟨H3, e3, s3, g3⟩ := newL hq2 [.ref t]
  rw [e3]
  refine ⟨q1, q2, _, _, rfl, rfl, s3 _ _ g2, g3, by simp; exact szle (by omega), fun q3 hq3 => ?_⟩
  obtain ⟨H4, e4, s4, g4⟩ := newL hq3 ((cs.take j).map V.ref ++ [.ref t])
  rw [e4]
  have s14 := s1.trans (s2.trans (s3.trans s4))
  refine ⟨_, rfl, _, rfl, _, _, rfl, rfl, _, rfl, _, rfl, _, rfl, p, _, rfl, SqL.of (s14 _ _ hp), fun q4 hq4 => ?_⟩
  rw [show cutV (cs.map V.ref) (some (((j : Nat) : Int) + 1)) (some ((k : Nat) : Int)) = ((cs.drop (j+1)).take (k - (j+1))).map V.ref from (cut_mid (j := j + 1) _ (by omega) (by rw [List.length_map]; omega)).trans (by rw [List.map_take, List.map_drop])]
  obtain ⟨H5, e5, s5, g5⟩ := newL hq4 (((cs.drop (j+1)).take (k - (j+1))).map V.ref)
  rw [e5]
  refine ⟨q3, q4, _, _, rfl, rfl, s5 _ _ g4, g5, by simp; exact szle (by omega), fun q5 hq5 => ?_⟩
  obtain ⟨H6, e6, s6, g6⟩ := newL hq5 ((cs.take j).map V.ref ++ [.ref t] ++ ((cs.drop (j+1)).take (k - (j+1))).map V.ref)
  rw [e6]
  have s16 := s14.trans (s5.trans s6)
  refine ⟨_, rfl, _, rfl, _, _, rfl, rfl, _, rfl, p, _, rfl, SqL.of (s16 _ _ hp), fun q6 hq6 => ?_⟩
  rw [show cutV (cs.map V.ref) (some (((k : Nat) : Int) + 1)) none = (cs.drop (k+1)).map V.ref from (cut_drop (j := k + 1) _ (by rw [List.length_map]; omega)).trans (List.map_drop ..).symm]
  obtain ⟨H7, e7, s7, g7⟩ := newL hq6 ((cs.drop (k+1)).map V.ref)
  rw [e7]
  refine ⟨q5, q6, _, _, rfl, rfl, s7 _ _ g6, g7, by simp; exact szle (by omega), fun q7 hq7 => ?_⟩
  have s8 := same_new hq7 (.lst ((cs.take j).map V.ref ++ [.ref t] ++ ((cs.drop (j+1)).take (k - (j+1))).map V.ref ++ (cs.drop (k+1)).map V.ref))
  have s18 := s16.trans (s7.trans s8)
  refine q q7 _ (none_back (s16.trans s7) hq7) s18 ⟨cs.take j ++ [t] ++ (cs.drop (j+1)).take (k - (j+1)) ++ cs.drop (k+1), by rw [upd_same]; simp, ?_⟩
  have hC8 := hC.keep mo_bxR s18
  exact (((hC8.take j).snoc ((s2.trans (s3.trans (s4.trans (s5.trans (s6.trans (s7.trans s8)))))) _ _ g1)).app ((hC8.drop (j+1)).take _)).app (hC8.drop (k+1))
end
end My
namespace My
open PySem PySem.Spec PyProof.Rows L2 Mth Wd Fl
noncomputable def spLed (R : Addr → Hp → List V → Prop) : Sp := fun vs H Q _ => ∃ (p ps : Addr) (cs : List Addr) (ss : List Stp) (bs b' : List Box) (wd hg : Int), vs = [.ref p, .ref ps] ∧ LstR BoxR H p bs ∧ R ps H (cs.map V.ref) ∧ At (TupS wdS S01) H cs (ss.map codeS) ∧ PthB bs ss b' ∧ FlB wd hg bs ∧ bs.length ≤ 30 ∧ wd ≤ 1000000 ∧ hg ≤ 1000000 ∧ ∀ q H', Same H H' → LstR BoxR H' q b' → Q (.ref q) H'
theorem scLe2 : FnScope ["_law_boxes", "_law_steps", "_law_step"] ["_law_boxes", "_law_steps"] (defScope s_law_led) := ⟨rfl, rfl, rfl, by decide +kernel, rfl, by decide +kernel, by decide +kernel⟩
noncomputable abbrev isTupA (ps : Addr) (H : Hp) (xs : List V) : Prop := H ps = some (.tup xs)
noncomputable abbrev isLstA (ps : Addr) (H : Hp) (xs : List V) : Prop := H ps = some (.lst xs)
section
variable {P : Program} {w : World} {K : PySem.W.Frag} {mg : Str → Option Value} {base : Heap} {f g h f1 f2 f3 f4 C1 C2 : Addr} {fd gd hd d1 d2 d3 d4 : FuncData}
theorem ok_ledL (F : Fun K "_law_led" "_law_led" s_law_led f fd) (G1 : FnOk P w K mg base CX0 2 f1 d1 ["_law_boxes"] spLF) (b1 : Binds K d1 ["_law_boxes"] []) (k1 : PySem.W.keepIn K (.ref f1) = true) (m1 : mg "_law_fitting" = some (.ref f1))
    (G2 : FnOk P w K mg base CX0 1 f2 d2 ["_law_boxes", "_law_j", "_law_k"] spLD) (b2 : Binds K d2 ["_law_boxes", "_law_j", "_law_k"] []) (k2 : PySem.W.keepIn K (.ref f2) = true) (m2 : mg "_law_done" = some (.ref f2)) (ms : mg "isinstance" = none) (mt : mg "tuple" = none) (ml : mg "len" = none) : FnOk P w K mg base CX0 3 f fd ["_law_boxes", "_law_steps"] (spLed fun ps H xs => isLstA ps H xs) := by
  refine F.ok scLe2 (fun vs H Q E h => ?_) (fun cdv A outer s H vs Q E hr h => ?_)
  · obtain ⟨p, ps, cs, ss, bs, b', wd, hg, rfl, _⟩ := h
    rfl
  obtain ⟨p, ps, cs, ss, bs, b', wd, hg, rfl, hL, hps, hC, pth, fl, n30, w1, h1, q⟩ := h
  have r1 := hr.mono (show 1 ≤ 2 by decide)
  refine ⟨_, pss_cons (ps_for PassesOwn.never rfl (piLst (K := K) (pv 1)) (pg_name (i := 2) scLe2.nd rfl (Or.inl rfl))
      (pss_cons (ps_if (PW.pt (pw_or (pt_not (pt_val (pe_callB (call_isi (c := .ty "tuple") (cv := .type "tuple") fun _ z => z) (by rfl) ms bt_isinstance (pa_cons (pv 2) (pa_cons (pe_bltn (v := .ty "tuple") (by rfl) mt bt_tuple rfl) pa_nil))))) (pw_or (pt_cmpR op_ne (pe_callB (callLen (K := K)) (by rfl) ml bt_len (pa_cons (pv 2) pa_nil)) pe_int (nomark _)) (pw_or1 (pt_cmpR (op_ninG hr.units) (pv 2) (pe_call G1 hr (by rfl) m1 k1 b1 .nil pass0 (pa_cons (pv 0) pa_nil)) (by with_unfolding_all rfl)))))) (pss_one (ps_ret pe_non)) pss_nil)
      (pss_one (ps_set (i := 0) scLe2.nd rfl (Or.inl rfl) (pe_call G2 r1 (by rfl) m2 k2 b2 .nil pass0 (pa_cons (pv 0) (pa_cons (pe_ix (ixT (K := K)) (pv 2) pe_int (fun _ _ => rfl)) (pa_cons (pe_ix (ixT (K := K)) (pv 2) pe_int (fun _ _ => rfl)) pa_nil))))))))
    (pss_one (ps_ret (pv 0))), ?_⟩
  have lc : cs.length = ss.length := by rw [hC.1, List.length_map]
  refine ⟨_, rfl, ps, rfl, ⟨_, SqL.of hps⟩, ?_⟩
  refine for_list (K := K) (xs := cs.map V.ref) (fun i σ H2 => Same H H2 ∧ ∃ (b : Addr) (bi : List Box) (u : Option V), σ = [some (.ref b), some (.ref ps), u] ∧ LstR BoxR H2 b bi ∧ PthB bs (ss.take i) bi ∧ PthB bi (ss.drop i) b') ⟨Same.refl _, p, bs, none, rfl, hL, .nil bs, pth⟩ (fun i σ H2 _ z => SqL.of (z.1 _ _ hps)) ?_ ?_
  · rintro i y σ H2 hi ⟨s2, b, bi, u, rfl, hb, pa, pb⟩
    obtain ⟨d, r, rfl, _, hr', hR⟩ := hC.ref hi
    rw [List.getElem?_map] at hr'
    obtain ⟨st, hst, rfl⟩ := Option.map_eq_some_iff.mp hr'
    obtain ⟨il, ei⟩ := List.getElem?_eq_some_iff.mp hst
    rw [List.drop_eq_getElem_cons il, ei] at pb
    cases pb with
    | cons a1 a2 pb =>
    have mm := mem_steps.mp a1
    obtain ⟨fli, leni⟩ := pa.fl fl
    have xi := flb_bxf fli w1 h1
    have hR2 := mo_tupS s2 hR
    obtain ⟨scd, hd⟩ := tup3 hR2
    refine ⟨_, rfl, _, _, _, rfl, TyOf.tup hd, kit_self K _, _, rfl, iteF ?_⟩
    refine ⟨_, rfl, d, _, rfl, .inr (SqT.of hd), rfl, _, rfl, iteNS rfl ?_⟩
    refine ⟨_, rfl, _, rfl, ?_⟩
    dsimp only [L2.tNil]
    refine ⟨b, bi, rfl, hb, by omega, few64 (by omega) xi, fun t cs2 rs2 H3 s3 ht hA2 pm pw => ?_⟩
    refine ⟨_, rs2.map rowD, rd_step (mo_tupS s3 hR2), rd_steps ht hA2, ⟨(row_ok _).1, by have := (row_ok (codeS st)).2; omega⟩, fun e he => ?_, _, rfl, ?_⟩
    · obtain ⟨r, _, rfl⟩ := List.mem_map.mp he
      exact (row_ok r).1
    have inn : ((rs2.map rowD).any fun y => PyData.eqv y (rowD (codeS st))) = true := by
      rw [List.any_eq_true]
      refine ⟨rowD (codeS st), List.mem_map.mpr ⟨codeS st, pm.mem_iff.mpr (List.mem_map.mpr ⟨st, List.mem_filter.mpr ⟨a1, a2⟩, rfl⟩), rfl⟩, SeqAt.eqv_refl _ (row_ok _).1⟩
    rw [inn]
    refine iteF ?_
    refine ⟨_, rfl, _, rfl, d, _, _, _, rfl, rfl, SqT.of (s3 _ _ hd), t3_1 _ _ _, _, rfl, d, _, _, _, rfl, rfl, SqT.of (s3 _ _ hd), t3_2 _ _ _, b, bi, st.2.1, st.2.2, rfl, mo_lst (R := BoxR) (fun s h => mo_bxR s h) s3 hb, by omega, mm.2.1, mm.2.2, fun q1 H4 _ s4 h4 => ?_⟩
    refine ⟨s2.trans (s3.trans s4), q1, _, _, rfl, h4, ?_, pb⟩
    rw [take_succ_of hst]
    exact pa.snoc a1 a2
  · rintro σ H2 ⟨s2, b, bi, u, rfl, hb, pa, pb⟩
    rw [List.length_map, lc, List.drop_length] at pb
    cases pb
    exact ⟨_, rfl, q b H2 s2 hb⟩
theorem ok_ledT (F : Fun K "_law_led" "_law_led" s_law_led f fd) (G1 : FnOk P w K mg base CX0 2 f1 d1 ["_law_boxes"] spLF) (b1 : Binds K d1 ["_law_boxes"] []) (k1 : PySem.W.keepIn K (.ref f1) = true) (m1 : mg "_law_fitting" = some (.ref f1))
    (G2 : FnOk P w K mg base CX0 1 f2 d2 ["_law_boxes", "_law_j", "_law_k"] spLD) (b2 : Binds K d2 ["_law_boxes", "_law_j", "_law_k"] []) (k2 : PySem.W.keepIn K (.ref f2) = true) (m2 : mg "_law_done" = some (.ref f2)) (ms : mg "isinstance" = none) (mt : mg "tuple" = none) (ml : mg "len" = none) : FnOk P w K mg base CX0 3 f fd ["_law_boxes", "_law_steps"] (spLed fun ps H xs => isTupA ps H xs) := by
  refine F.ok scLe2 (fun vs H Q E h => ?_) (fun cdv A outer s H vs Q E hr h => ?_)
  · obtain ⟨p, ps, cs, ss, bs, b', wd, hg, rfl, _⟩ := h
    rfl
  obtain ⟨p, ps, cs, ss, bs, b', wd, hg, rfl, hL, hps, hC, pth, fl, n30, w1, h1, q⟩ := h
  have r1 := hr.mono (show 1 ≤ 2 by decide)
  refine ⟨_, pss_cons (ps_for PassesOwn.never rfl (piTup (K := K) (pv 1)) (pg_name (i := 2) scLe2.nd rfl (Or.inl rfl))
      (pss_cons (ps_if (PW.pt (pw_or (pt_not (pt_val (pe_callB (call_isi (c := .ty "tuple") (cv := .type "tuple") fun _ z => z) (by rfl) ms bt_isinstance (pa_cons (pv 2) (pa_cons (pe_bltn (v := .ty "tuple") (by rfl) mt bt_tuple rfl) pa_nil))))) (pw_or (pt_cmpR op_ne (pe_callB (callLen (K := K)) (by rfl) ml bt_len (pa_cons (pv 2) pa_nil)) pe_int (nomark _)) (pw_or1 (pt_cmpR (op_ninG hr.units) (pv 2) (pe_call G1 hr (by rfl) m1 k1 b1 .nil pass0 (pa_cons (pv 0) pa_nil)) (by with_unfolding_all rfl)))))) (pss_one (ps_ret pe_non)) pss_nil)
      (pss_one (ps_set (i := 0) scLe2.nd rfl (Or.inl rfl) (pe_call G2 r1 (by rfl) m2 k2 b2 .nil pass0 (pa_cons (pv 0) (pa_cons (pe_ix (ixT (K := K)) (pv 2) pe_int (fun _ _ => rfl)) (pa_cons (pe_ix (ixT (K := K)) (pv 2) pe_int (fun _ _ => rfl)) pa_nil))))))))
    (pss_one (ps_ret (pv 0))), ?_⟩
  have lc : cs.length = ss.length := by rw [hC.1, List.length_map]
  refine ⟨_, rfl, ps, rfl, ⟨_, SqT.of hps⟩, ?_⟩
  refine for_tup (K := K) (xs := cs.map V.ref) (fun i σ H2 => Same H H2 ∧ ∃ (b : Addr) (bi : List Box) (u : Option V), σ = [some (.ref b), some (.ref ps), u] ∧ LstR BoxR H2 b bi ∧ PthB bs (ss.take i) bi ∧ PthB bi (ss.drop i) b') ⟨Same.refl _, p, bs, none, rfl, hL, .nil bs, pth⟩ (fun i σ H2 _ z => SqT.of (z.1 _ _ hps)) ?_ ?_
  · rintro i y σ H2 hi ⟨s2, b, bi, u, rfl, hb, pa, pb⟩
    obtain ⟨d, r, rfl, _, hr', hR⟩ := hC.ref hi
    rw [List.getElem?_map] at hr'
    obtain ⟨st, hst, rfl⟩ := Option.map_eq_some_iff.mp hr'
    obtain ⟨il, ei⟩ := List.getElem?_eq_some_iff.mp hst
    rw [List.drop_eq_getElem_cons il, ei] at pb
    cases pb with
    | cons a1 a2 pb =>
    have mm := mem_steps.mp a1
    obtain ⟨fli, leni⟩ := pa.fl fl
    have xi := flb_bxf fli w1 h1
    have hR2 := mo_tupS s2 hR
    obtain ⟨scd, hd⟩ := tup3 hR2
    refine ⟨_, rfl, _, _, _, rfl, TyOf.tup hd, kit_self K _, _, rfl, iteF ?_⟩
    refine ⟨_, rfl, d, _, rfl, .inr (SqT.of hd), rfl, _, rfl, iteNS rfl ?_⟩
    refine ⟨_, rfl, _, rfl, ?_⟩
    dsimp only [L2.tNil]
    refine ⟨b, bi, rfl, hb, by omega, few64 (by omega) xi, fun t cs2 rs2 H3 s3 ht hA2 pm pw => ?_⟩
    refine ⟨_, rs2.map rowD, rd_step (mo_tupS s3 hR2), rd_steps ht hA2, ⟨(row_ok _).1, by have := (row_ok (codeS st)).2; omega⟩, fun e he => ?_, _, rfl, ?_⟩
    · obtain ⟨r, _, rfl⟩ := List.mem_map.mp he
      exact (row_ok r).1
    have inn : ((rs2.map rowD).any fun y => PyData.eqv y (rowD (codeS st))) = true := by
      rw [List.any_eq_true]
      refine ⟨rowD (codeS st), List.mem_map.mpr ⟨codeS st, pm.mem_iff.mpr (List.mem_map.mpr ⟨st, List.mem_filter.mpr ⟨a1, a2⟩, rfl⟩), rfl⟩, SeqAt.eqv_refl _ (row_ok _).1⟩
    rw [inn]
    refine iteF ?_
    refine ⟨_, rfl, _, rfl, d, _, _, _, rfl, rfl, SqT.of (s3 _ _ hd), t3_1 _ _ _, _, rfl, d, _, _, _, rfl, rfl, SqT.of (s3 _ _ hd), t3_2 _ _ _, b, bi, st.2.1, st.2.2, rfl, mo_lst (R := BoxR) (fun s h => mo_bxR s h) s3 hb, by omega, mm.2.1, mm.2.2, fun q1 H4 _ s4 h4 => ?_⟩
    refine ⟨s2.trans (s3.trans s4), q1, _, _, rfl, h4, ?_, pb⟩
    rw [take_succ_of hst]
    exact pa.snoc a1 a2
  · rintro σ H2 ⟨s2, b, bi, u, rfl, hb, pa, pb⟩
    rw [List.length_map, lc, List.drop_length] at pb
    cases pb
    exact ⟨_, rfl, q b H2 s2 hb⟩
noncomputable def spStl (K : PySem.W.Frag) : Sp := fun vs H Q _ => ∃ (a p : Addr) (ns : List Int) (bs : List Box) (wd hg : Int), vs = [.ref a, .ref p] ∧ ScA K H a ns ∧ LstR BoxR H p bs ∧ FlB wd hg bs ∧ bs.length ≤ 30 ∧ wd ≤ 1000000 ∧ hg ≤ 1000000 ∧ ∀ l cs ss b' H', Same H H' → H' l = some (.lst (cs.map V.ref)) → At (TupS wdS S01) H' cs (ss.map codeS) → PthB bs ss b' → (stepsOf b'.length).filter (fitI b') = [] → Q (.ref l) H'
theorem scSl2 : FnScope ["_law_script", "_law_boxes", "_law_steps", "_law_some", "_law_step"] ["_law_script", "_law_boxes"] (defScope s_law_strolled) := ⟨rfl, rfl, rfl, by decide +kernel, rfl, by decide +kernel, by decide +kernel⟩
theorem ok_stroll (F : Fun K "_law_strolled" "_law_strolled" s_law_strolled f fd) (G1 : FnOk P w K mg base CX0 2 f1 d1 ["_law_boxes"] spLF) (b1 : Binds K d1 ["_law_boxes"] []) (k1 : PySem.W.keepIn K (.ref f1) = true) (m1 : mg "_law_fitting" = some (.ref f1))
    (G2 : FnOk P w K mg base CX0 1 f2 d2 ["_law_boxes", "_law_j", "_law_k"] spLD) (b2 : Binds K d2 ["_law_boxes", "_law_j", "_law_k"] []) (k2 : PySem.W.keepIn K (.ref f2) = true) (m2 : mg "_law_done" = some (.ref f2))
    (G3 : FnOk P w K mg base CX0 1 f3 d3 ["_law_script", "_law_k"] (spCell K)) (b3 : Binds K d3 ["_law_script", "_law_k"] []) (k3 : PySem.W.keepIn K (.ref f3) = true) (m3 : mg "_law_cell_at" = some (.ref f3)) (ml : mg "len" = none) : FnOk P w K mg base CX0 3 f fd ["_law_script", "_law_boxes"] (spStl K) := by
  refine F.ok scSl2 (fun vs H Q E h => ?_) (fun cdv A outer s H vs Q E hr h => ?_)
  · obtain ⟨a, p, ns, bs, wd, hg, rfl, _⟩ := h
    rfl
  obtain ⟨a, p, ns, bs, wd, hg, rfl, hS, hL, fl, n30, w1, h1, q⟩ := h
  have r1 := hr.mono (show 1 ≤ 2 by decide)
  refine ⟨_, pss_cons (ps_set (i := 2) scSl2.nd rfl (Or.inl rfl) (pe_lst pa_nil))
    (pss_cons (ps_set (i := 3) scSl2.nd rfl (Or.inl rfl) (pe_call G1 hr (by rfl) m1 k1 b1 .nil pass0 (pa_cons (pv 1) pa_nil)))
    (pss_cons (ps_while PassesOwn.never (pt_cmpR op_gt (pe_callB (callLen (K := K)) (by rfl) ml bt_len (pa_cons (pv 3) pa_nil)) pe_int (nomark _))
      (pss_cons (ps_set (i := 4) scSl2.nd rfl (Or.inl rfl) (pe_ix (ixT (K := K)) (pv 3) (pe_op op_mod (pe_call G3 r1 (by rfl) m3 k3 b3 .nil pass0 (pa_cons (pv 0) (pa_cons (pe_op op_add pe_int (pe_callB (callLen (K := K)) (by rfl) ml bt_len (pa_cons (pv 2) pa_nil))) pa_nil))) (pe_callB (callLen (K := K)) (by rfl) ml bt_len (pa_cons (pv 3) pa_nil))) (fun _ _ => rfl)))
      (pss_cons (ps_expr (pe_bmK K PySem.F.plainAttrs_list PySem.F.slot_list_append PySem.F.type_list_append mt_append (pv 2) (pa_cons (pv 4) pa_nil)))
      (pss_cons (ps_set (i := 1) scSl2.nd rfl (Or.inl rfl) (pe_call G2 r1 (by rfl) m2 k2 b2 .nil pass0 (pa_cons (pv 1) (pa_cons (pe_ix (ixT (K := K)) (pv 4) pe_int (fun _ _ => rfl)) (pa_cons (pe_ix (ixT (K := K)) (pv 4) pe_int (fun _ _ => rfl)) pa_nil)))))
      (pss_one (ps_set (i := 3) scSl2.nd rfl (Or.inl rfl) (pe_call G1 hr (by rfl) m1 k1 b1 .nil pass0 (pa_cons (pv 1) pa_nil))))))))
    (pss_one (ps_ret (pv 2))))), ?_⟩
  refine ⟨by show 0 ≤ sizeLine; decide, fun l hl => ?_⟩
  obtain ⟨H1, z1, s1, gl⟩ := newL hl []
  rw [z1]
  have x0 := flb_bxf fl w1 h1
  refine ⟨_, rfl, ?_⟩
  dsimp only [L2.tNil]
  refine ⟨p, bs, rfl, mo_lst (R := BoxR) (fun s h => mo_bxR s h) s1 hL, n30, few64 n30 x0, fun tf cs rs H2 s2 htf hA pm pw => ?_⟩
  refine ⟨fun m σ H2 => ∃ (p tf : Addr) (bi : List Box) (ss : List Stp) (es cs : List Addr) (rs : List (List Int)) (u4 : Option V), m = bi.length ∧ σ = [some (.ref a), some (.ref p), some (.ref l), some (.ref tf), u4] ∧ Same H H2 ∧ PthB bs ss bi ∧ H2 l = some (.lst (es.map V.ref)) ∧ At (TupS wdS S01) H2 es (ss.map codeS) ∧ LstR BoxR H2 p bi ∧ p ≠ l ∧ H2 tf = some (.tup (cs.map V.ref)) ∧ At (TupS wdS S01) H2 cs rs ∧ rs.Perm (((stepsOf bi.length).filter (fitI bi)).map codeS),
    ⟨_, p, tf, bs, [], [], cs, rs, none, rfl, rfl, s1.trans s2, .nil bs, s2 _ _ gl, At.nil, mo_lst (R := BoxR) (fun s h => mo_bxR s h) (s1.trans s2) hL, (fun z => by obtain ⟨_, e, _⟩ := hL; rw [z, hl] at e; cases e), htf, hA, pm⟩, ?_⟩
  rintro m σ H3 ⟨p, tf, bi, ss, es, cs, rs, u4, rfl, rfl, s3, pth, hl3, hE, hB, pl, htf, hA, pm⟩
  obtain ⟨fli, leni⟩ := pth.fl fl
  have xi := flb_bxf fli w1 h1
  have lr : (cs.map V.ref).length = rs.length := by rw [List.length_map, hA.1]
  refine ⟨_, rfl, tf, _, rfl, .inr (SqT.of htf), _, _, rfl, rfl, _, rfl, ?_⟩
  by_cases hz : (0 : Int) < (((cs.map V.ref).length : Nat) : Int)
  case neg =>
    refine iteDF hz ?_
    have e0 : rs = [] := List.eq_nil_of_length_eq_zero (by omega)
    subst e0
    have e1 : (stepsOf bi.length).filter (fitI bi) = [] := by
      have := pm.length_eq
      rw [List.length_map] at this
      exact List.eq_nil_of_length_eq_zero this.symm
    exact ⟨_, rfl, q l es ss bi H3 s3 hl3 hE pth e1⟩
  refine iteDT hz ?_
  refine ⟨fun σ' H' => ∃ (p tf : Addr) (b2 : List Box) (ss : List Stp) (es cs : List Addr) (rs : List (List Int)) (u4 : Option V), b2.length + 1 = bi.length ∧ σ' = [some (.ref a), some (.ref p), some (.ref l), some (.ref tf), u4] ∧ Same H H' ∧ PthB bs ss b2 ∧ H' l = some (.lst (es.map V.ref)) ∧ At (TupS wdS S01) H' es (ss.map codeS) ∧ LstR BoxR H' p b2 ∧ p ≠ l ∧ H' tf = some (.tup (cs.map V.ref)) ∧ At (TupS wdS S01) H' cs rs ∧ rs.Perm (((stepsOf b2.length).filter (fitI b2)).map codeS), ?_, ?_⟩
  · rintro σ' H' ⟨p, tf, b2, ss, es, cs, rs, u4, z, rest⟩
    exact ⟨b2.length, by omega, p, tf, b2, ss, es, cs, rs, u4, rfl, rest⟩
  have le : es.length = ss.length := by rw [hE.1, List.length_map]
  refine ⟨_, rfl, _, rfl, _, rfl, l, _, rfl, .inl (SqL.of hl3), _, _, rfl, rfl, a, ns, _, rfl, ⟨s3.seq hS.1, hS.2⟩, by omega, fun z hz' => ?_⟩
  refine ⟨_, rfl, tf, _, rfl, .inr (SqT.of htf), _, _, rfl, rfl, hz, ?_⟩
  have y0 := Int.emod_nonneg z (Int.ne_of_gt hz)
  have y1 := Int.emod_lt_of_pos z hz
  obtain ⟨j, hj⟩ := Int.eq_ofNat_of_zero_le y0
  rw [hj] at y1
  have jl : j < rs.length := by omega
  have er : rs[j]? = some rs[j] := List.getElem?_eq_getElem jl
  generalize rs[j] = r0 at er
  have m0 : r0 ∈ ((stepsOf bi.length).filter (fitI bi)).map codeS := pm.mem_iff.mp (List.mem_of_getElem? er)
  obtain ⟨st, hst, rfl⟩ := List.mem_map.mp m0
  obtain ⟨ms, fs⟩ := List.mem_filter.mp hst
  have mm := mem_steps.mp ms
  obtain ⟨c0, hc, hR⟩ := hA.get er
  obtain ⟨scd, hc0⟩ := tup3 hR
  refine ⟨tf, _, _, _, rfl, rfl, SqT.of htf, by rw [hj]; exact atI_nat (ref_at hc), ?_⟩
  refine ⟨_, rfl, .inl ⟨rfl, _, SqL.of hl3⟩, _, rfl, l, _, _, rfl, rfl, hl3, by rw [List.length_map, sizeLine_eq]; omega, ?_⟩
  have sb4 : SameB l H3 (upd H3 l (.lst (es.map V.ref ++ [.ref c0]))) := SameB.one
  have gl4 : upd H3 l (.lst (es.map V.ref ++ [.ref c0])) l = some (.lst ((es ++ [c0]).map V.ref)) := by rw [upd_same, List.map_append]; rfl
  generalize upd H3 l (.lst (es.map V.ref ++ [.ref c0])) = H4 at sb4 gl4
  have s4 : Same H H4 := sb4.same s3 hl
  have hE4 := tupS_upd hl3 sb4 hE
  have hc4 : H4 c0 = some (.tup [.str (wdS (st.1 : Int)), .int (st.2.1 : Int), .int (st.2.2 : Int)]) := sb4 _ _ (fun z => by rw [z, hl3] at hc0; cases hc0) hc0
  have hE5 : At (TupS wdS S01) H4 (es ++ [c0]) ((ss ++ [st]).map codeS) := by
    rw [List.map_append]
    exact hE4.snoc ⟨(st.1 : Int), [(st.2.1 : Int), (st.2.2 : Int)], rfl, scd, hc4⟩
  obtain ⟨bc, hpb, hBc⟩ := hB
  have hB4 : LstR BoxR H4 p bi := ⟨bc, sb4 _ _ pl hpb, bx_upd hl3 sb4 hBc⟩
  refine ⟨_, rfl, _, rfl, c0, _, _, _, rfl, rfl, SqT.of hc4, t3_1 _ _ _, _, rfl, c0, _, _, _, rfl, rfl, SqT.of hc4, t3_2 _ _ _, p, bi, st.2.1, st.2.2, rfl, hB4, by omega, mm.2.1, mm.2.2, fun q1 H5 hq1 s5 h5 => ?_⟩
  have ql : q1 ≠ l := fun z => by rw [z, gl4] at hq1; cases hq1
  have pth2 := pth.snoc ms fs
  obtain ⟨fl2, len2⟩ := pth2.fl fl
  have dn1 := dn_len (f := uniB) (d := z4) (l := bi) mm.2.1 mm.2.2
  refine ⟨_, rfl, ?_⟩
  dsimp only [L2.tNil]
  refine ⟨q1, _, rfl, h5, by omega, few64 (by omega) (flb_bxf fl2 w1 h1), fun t7 cs7 rs7 H7 s7 h7 hA7 pm7 _ => ?_⟩
  have s57 := s5.trans s7
  exact ⟨q1, t7, _, ss ++ [st], es ++ [c0], cs7, rs7, _, dn1, rfl, s4.trans s57, pth2, s57 _ _ gl4, hE5.keep mo_tupS s57, mo_lst (R := BoxR) (fun s h => mo_bxR s h) s7 h5, ql, h7, hA7, pm7⟩
end
end My
namespace My
open PySem PySem.Spec PyProof.Rows L2 Mth Wd Fl
noncomputable def rwD (r : List Rat) : PyData := .tuple (r.map frD)
noncomputable def rwsD (rows : List (List Rat)) : PyData := .tuple (rows.map rwD)
theorem rd_rw {H : Hp} {b : Addr} {r : List Rat} (h : TupR FrR H b r) : RdD H (.ref b) (rwD r) := by
  obtain ⟨cs, h, hA⟩ := h
  refine .tup h (by simp [hA.1]) fun i x d e1 e2 => ?_
  rw [List.getElem?_map] at e1 e2
  obtain ⟨b, hb, rfl⟩ := Option.map_eq_some_iff.mp e1
  obtain ⟨r, hr, rfl⟩ := Option.map_eq_some_iff.mp e2
  exact rdF (hA.2 i b r hb hr)
theorem rd_rws {H : Hp} {b : Addr} {rows : List (List Rat)} (h : TupR (TupR FrR) H b rows) : RdD H (.ref b) (rwsD rows) := by
  obtain ⟨cs, h, hA⟩ := h
  refine .tup h (by simp [hA.1]) fun i x d e1 e2 => ?_
  rw [List.getElem?_map] at e1 e2
  obtain ⟨b, hb, rfl⟩ := Option.map_eq_some_iff.mp e1
  obtain ⟨r, hr, rfl⟩ := Option.map_eq_some_iff.mp e2
  exact rd_rw (hA.2 i b r hb hr)
theorem shp_fr (q : Rat) : Shp 1 (frD q) := .tup fun d hd => by
  simp only [List.mem_cons, List.not_mem_nil, or_false] at hd
  rcases hd with rfl | rfl <;> exact .int _
theorem shp_rw (r : List Rat) : Shp 2 (rwD r) := .tup fun d hd => by
  obtain ⟨q, _, rfl⟩ := List.mem_map.mp hd
  exact shp_fr q
theorem shp_rws (rows : List (List Rat)) : Shp 3 (rwsD rows) := .tup fun d hd => by
  obtain ⟨q, _, rfl⟩ := List.mem_map.mp hd
  exact shp_rw q
theorem okS {n : Nat} {d : PyData} (h : Shp n d) (hn : n ≤ 60) : d.canLay0 = true ∧ d.depth ≤ 64 := ⟨h.ok.1, by have := h.ok.2; omega⟩
noncomputable def floD (W U : Rat) (rows : List (List Rat)) : PyData := .tuple [frD W, frD U, rwsD rows]
theorem rd_flo {H : Hp} {a : Addr} {W U : Rat} {rows : List (List Rat)} (h : FloorR H a W U rows) : RdD H (.ref a) (floD W U rows) := by
  obtain ⟨p, q, r, h1, h2, h3, h4⟩ := h
  refine .tup h1 rfl fun i x d e1 e2 => ?_
  match i with
  | 0 => obtain rfl := Option.some.inj e1; obtain rfl := Option.some.inj e2; exact rdF h2
  | 1 => obtain rfl := Option.some.inj e1; obtain rfl := Option.some.inj e2; exact rdF h3
  | 2 => obtain rfl := Option.some.inj e1; obtain rfl := Option.some.inj e2; exact rd_rws h4
  | i + 3 => simp at e1
theorem Shp.up {n m : Nat} {d : PyData} (h : Shp n d) (l : n ≤ m) : Shp m d := by
  induction h generalizing m with
  | int i => exact .int i
  | bl b => exact .bl b
  | @tup n ds _ ih =>
    obtain ⟨k, rfl⟩ : ∃ k, m = k + 1 := ⟨m - 1, by omega⟩
    exact .tup fun d hd => ih d hd (by omega)
theorem shp_flo (W U : Rat) (rows : List (List Rat)) : Shp 4 (floD W U rows) := .tup fun d hd => by
  simp only [List.mem_cons, List.not_mem_nil, or_false] at hd
  rcases hd with rfl | rfl | rfl
  · exact Shp.up (shp_fr _) (by omega)
  · exact Shp.up (shp_fr _) (by omega)
  · exact shp_rws _
noncomputable def bxD (b : Box) : PyData := .tuple [.int b.l, .int b.d, .int b.r, .int b.u]
theorem ls_bx {H : Hp} {l : Addr} {bs : List Box} (h : LstR BoxR H l bs) : LsD H l (bs.map bxD) := by
  obtain ⟨cs, hl, hA⟩ := h
  refine ⟨_, hl, by rw [List.length_map, List.length_map, hA.1], fun i x d e1 e2 => ?_⟩
  rw [List.getElem?_map] at e1 e2
  obtain ⟨c, hc, rfl⟩ := Option.map_eq_some_iff.mp e1
  obtain ⟨b, hb, rfl⟩ := Option.map_eq_some_iff.mp e2
  have g := hA.2 i c b hc hb
  refine .tup g rfl fun i v d e1 e2 => ?_
  match i with
  | 0 => obtain rfl := Option.some.inj e1; obtain rfl := Option.some.inj e2; exact .int _
  | 1 => obtain rfl := Option.some.inj e1; obtain rfl := Option.some.inj e2; exact .int _
  | 2 => obtain rfl := Option.some.inj e1; obtain rfl := Option.some.inj e2; exact .int _
  | 3 => obtain rfl := Option.some.inj e1; obtain rfl := Option.some.inj e2; exact .int _
  | i + 4 => simp at e1
theorem shp_bxs (bs : List Box) : ∀ d ∈ bs.map bxD, Shp 1 d := fun d hd => by
  obtain ⟨b, _, rfl⟩ := List.mem_map.mp hd
  exact .tup fun d hd => by
    simp only [List.mem_cons, List.not_mem_nil, or_false] at hd
    rcases hd with rfl | rfl | rfl | rfl <;> exact .int _
theorem bxs_same (bs : List Box) : PyData.eqv (.list (bs.map bxD)) (.list (bs.map bxD)) = true := SeqAt.eqv_refl _ (by simp only [PyData.canLay0]; exact lay_all fun d hd => (shp_bxs bs d hd).ok.1)
section
variable {P : Program} {w : World} {K : PySem.W.Frag} {mg : Str → Option Value} {base : Heap} {f f1 f2 f3 f4 f5 f6 f7 f8 f9 f10 f11 f12 : Addr} {fd d1 d2 d3 d4 d5 d6 d7 d8 d9 d10 d11 d12 : FuncData}
noncomputable def spLaw (K : PySem.W.Frag) : Sp := fun vs H Q _ => ∃ (a : Addr) (ns : List Int), vs = [.ref a] ∧ SqL K H a (ns.map V.int) ∧ ns.length ≤ 63 ∧ ∀ H', Q (.bl true) H'
theorem scLw : FnScope ["_law_script", "_law_wide", "_law_high", "_law_boxes", "_law_scale", "_law_floor", "_law_found", "_law_end", "_law_steps"] ["_law_script"] (defScope sLaw) := ⟨rfl, rfl, rfl, by decide +kernel, rfl, by decide +kernel, by decide +kernel⟩
set_option maxHeartbeats 8000000 in
seal L2.PSs L2.PS L2.PE L2.PA in
theorem ok_law (F : Fun K "law" "law" sLaw f fd) (G1 : FnOk P w K mg base CX0 1 f1 d1 ["_law_script", "_law_k"] (spCell K)) (b1 : Binds K d1 ["_law_script", "_law_k"] []) (k1 : PySem.W.keepIn K (.ref f1) = true) (m1 : mg "_law_cell_at" = some (.ref f1))
    (G2 : FnOk P w K mg base CX0 1 f2 d2 ["_law_cell"] spSide) (b2 : Binds K d2 ["_law_cell"] []) (k2 : PySem.W.keepIn K (.ref f2) = true) (m2 : mg "_law_side" = some (.ref f2))
    (G3 : FnOk P w K mg base CX0 3 f3 d3 ["_law_script", "_law_first", "_law_last", "_law_wide", "_law_high", "_law_most"] (spBuilt K)) (b3 : Binds K d3 ["_law_script", "_law_first", "_law_last", "_law_wide", "_law_high", "_law_most"] []) (k3 : PySem.W.keepIn K (.ref f3) = true) (m3 : mg "_law_built" = some (.ref f3))
    (G4 : FnOk P w K mg base CX0 2 f4 d4 ["_law_cell"] spScB) (b4 : Binds K d4 ["_law_cell"] []) (k4 : PySem.W.keepIn K (.ref f4) = true) (m4 : mg "_law_scale_by" = some (.ref f4))
    (G5 : FnOk P w K mg base CX0 4 f5 d5 ["_law_boxes", "_law_wide", "_law_high", "_law_scale"] spFlo) (b5 : Binds K d5 ["_law_boxes", "_law_wide", "_law_high", "_law_scale"] []) (k5 : PySem.W.keepIn K (.ref f5) = true) (m5 : mg "_law_floor_of" = some (.ref f5))
    (G6 : FnOk P w K mg base CX0 8 f6 d6 ["floor"] spSet) (b6 : Binds K d6 ["floor"] []) (k6 : PySem.W.keepIn K (.ref f6) = true) (m6 : mg "settled" = some (.ref f6))
    (G7 : FnOk P w K mg base CX0 1 f7 d7 ["_law_script", "_law_k"] (spRaw K)) (b7 : Binds K d7 ["_law_script", "_law_k"] []) (k7 : PySem.W.keepIn K (.ref f7) = true) (m7 : mg "_law_raw" = some (.ref f7))
    (G8 : FnOk P w K mg base CX0 2 f8 d8 ["_law_script", "_law_most"] (spHU K 10)) (b8 : Binds K d8 ["_law_script", "_law_most"] []) (k8 : PySem.W.keepIn K (.ref f8) = true) (m8 : mg "_law_hung_up" = some (.ref f8))
    (G9 : FnOk P w K mg base CX0 2 f9 d9 ["_law_boxes"] spLF) (b9 : Binds K d9 ["_law_boxes"] []) (k9 : PySem.W.keepIn K (.ref f9) = true) (m9 : mg "_law_fitting" = some (.ref f9))
    (G10 : FnOk P w K mg base CX0 3 f10 d10 ["_law_script", "_law_boxes"] (spStl K)) (b10 : Binds K d10 ["_law_script", "_law_boxes"] []) (k10 : PySem.W.keepIn K (.ref f10) = true) (m10 : mg "_law_strolled" = some (.ref f10))
    (G11 : FnOk P w K mg base CX0 8 f11 d11 ["floor", "steps"] spWk) (b11 : Binds K d11 ["floor", "steps"] []) (k11 : PySem.W.keepIn K (.ref f11) = true) (m11 : mg "walked" = some (.ref f11))
    (G12 : FnOk P w K mg base CX0 3 f12 d12 ["_law_boxes", "_law_steps"] (spLed fun ps H xs => isLstA ps H xs)) (G13 : FnOk P w K mg base CX0 3 f12 d12 ["_law_boxes", "_law_steps"] (spLed fun ps H xs => isTupA ps H xs)) (b12 : Binds K d12 ["_law_boxes", "_law_steps"] []) (k12 : PySem.W.keepIn K (.ref f12) = true) (m12 : mg "_law_led" = some (.ref f12))
    (ml : mg "len" = none) (ms : mg "isinstance" = none) (mt : mg "tuple" = none) : FnOk P w K mg base CX0 9 f fd ["_law_script"] (spLaw K) := by
  refine F.ok scLw (fun vs H Q E h => ?_) (fun cdv A outer s H vs Q E hr h => ?_)
  · obtain ⟨a, ns, rfl, _⟩ := h
    rfl
  obtain ⟨a, ns, rfl, hS0, hS1, q⟩ := h
  have r1 := hr.mono (show 1 ≤ 8 by decide)
  have r2 := hr.mono (show 2 ≤ 8 by decide)
  have r3 := hr.mono (show 3 ≤ 8 by decide)
  have r4 := hr.mono (show 4 ≤ 8 by decide)
  refine ⟨_, pss_cons (ps_set (i := 1) scLw.nd rfl (Or.inl rfl) (pe_call G2 r1 (by rfl) m2 k2 b2 .nil pass0 (pa_cons (pe_call G1 r1 (by rfl) m1 k1 b1 .nil pass0 (pa_cons (pv 0) (pa_cons pe_int pa_nil))) pa_nil)))
    (pss_cons (ps_set (i := 2) scLw.nd rfl (Or.inl rfl) (pe_call G2 r1 (by rfl) m2 k2 b2 .nil pass0 (pa_cons (pe_call G1 r1 (by rfl) m1 k1 b1 .nil pass0 (pa_cons (pv 0) (pa_cons pe_int pa_nil))) pa_nil)))
    (pss_cons (ps_set (i := 3) scLw.nd rfl (Or.inl rfl) (pe_call G3 r3 (by rfl) m3 k3 b3 .nil pass0 (pa_cons (pv 0) (pa_cons pe_int (pa_cons pe_int (pa_cons (pv 1) (pa_cons (pv 2) (pa_cons pe_int pa_nil))))))))
    (pss_cons (ps_set (i := 4) scLw.nd rfl (Or.inl rfl) (pe_call G4 r2 (by rfl) m4 k4 b4 .nil pass0 (pa_cons (pe_call G1 r1 (by rfl) m1 k1 b1 .nil pass0 (pa_cons (pv 0) (pa_cons pe_int pa_nil))) pa_nil)))
    (pss_cons (ps_if (pt_cmpR op_eq (pe_op op_mod (pe_call G7 r1 (by rfl) m7 k7 b7 .nil pass0 (pa_cons (pv 0) (pa_cons pe_int pa_nil))) pe_int) pe_int (nomark _))
      (pss_cons (ps_asg (pe_call G8 r2 (by rfl) m8 k8 b8 .nil pass0 (pa_cons (pv 0) (pa_cons pe_int pa_nil))) (pgTup (n := 3) (K := K) rfl (pgs_cons (pg_name (i := 3) scLw.nd rfl (Or.inl rfl)) (pgs_cons (pg_name (i := 1) scLw.nd rfl (Or.inl rfl)) (pgs_cons (pg_name (i := 2) scLw.nd rfl (Or.inl rfl)) pgs_nil)))))
      (pss_one (ps_set (i := 4) scLw.nd rfl (Or.inl rfl) (pe_call G4 r2 (by rfl) m4 k4 b4 .nil pass0 (pa_cons (pe_op op_fdiv (pe_call G7 r1 (by rfl) m7 k7 b7 .nil pass0 (pa_cons (pv 0) (pa_cons pe_int pa_nil))) pe_int) pa_nil))))) pss_nil)
    (pss_cons (ps_set (i := 5) scLw.nd rfl (Or.inl rfl) (pe_call G5 r4 (by rfl) m5 k5 b5 .nil pass0 (pa_cons (pv 3) (pa_cons (pv 1) (pa_cons (pv 2) (pa_cons (pv 4) pa_nil))))))
    (pss_cons (ps_set (i := 6) scLw.nd rfl (Or.inl rfl) (pe_call G6 hr (by rfl) m6 k6 b6 .nil pass0 (pa_cons (pv 5) pa_nil)))
    (pss_cons (ps_if (PW.pt (pw_or (pt_not (pt_val (pe_callB (call_isi (c := .ty "tuple") (cv := .type "tuple") fun _ z => z) (by rfl) ms bt_isinstance (pa_cons (pv 6) (pa_cons (pe_bltn (v := .ty "tuple") (by rfl) mt bt_tuple rfl) pa_nil))))) (pw_or (pt_cmpR op_ne (pe_callB (callLen (K := K)) (by rfl) ml bt_len (pa_cons (pv 6) pa_nil)) pe_int (nomark _)) (pw_or1 (pt_not (pt_val (pe_callB (call_isi (c := .ty "tuple") (cv := .type "tuple") fun _ z => z) (by rfl) ms bt_isinstance (pa_cons (pe_ix (ixT (K := K)) (pv 6) pe_int (fun _ _ => rfl)) (pa_cons (pe_bltn (v := .ty "tuple") (by rfl) mt bt_tuple rfl) pa_nil))))))))) (pss_one (ps_ret pe_bl)) pss_nil)
    (pss_cons (ps_set (i := 7) scLw.nd rfl (Or.inl rfl) (pe_call G13 r3 (by rfl) m12 k12 b12 .nil pass0 (pa_cons (pv 3) (pa_cons (pe_ix (ixT (K := K)) (pv 6) pe_int (fun _ _ => rfl)) pa_nil))))
    (pss_cons (ps_if (PW.pt (pw_or (pt_cmp (pc_isN (pv 7))) (pw_or (pt_cmpR (op_neG hr.units) (pe_call G9 r2 (by rfl) m9 k9 b9 .nil pass0 (pa_cons (pv 7) pa_nil)) (pe_tup pa_nil) (nomark _)) (pw_or1 (pt_cmpR (op_neG hr.units) (pe_ix (ixT (K := K)) (pv 6) pe_int (fun _ _ => rfl)) (pe_call G5 r4 (by rfl) m5 k5 b5 .nil pass0 (pa_cons (pv 7) (pa_cons (pv 1) (pa_cons (pv 2) (pa_cons (pv 4) pa_nil))))) (nomark _)))))) (pss_one (ps_ret pe_bl)) pss_nil)
    (pss_cons (ps_set (i := 8) scLw.nd rfl (Or.inl rfl) (pe_call G10 r3 (by rfl) m10 k10 b10 .nil pass0 (pa_cons (pv 0) (pa_cons (pv 3) pa_nil))))
    (pss_cons (ps_if (PW.pt (pw_or (pt_cmpR (op_neLs hr.units) (pe_call G12 r3 (by rfl) m12 k12 b12 .nil pass0 (pa_cons (pv 3) (pa_cons (pv 8) pa_nil))) (pv 7) (nomark _)) (pw_or1 (pt_cmpR (op_neG hr.units) (pe_call G11 hr (by rfl) m11 k11 b11 .nil pass0 (pa_cons (pv 5) (pa_cons (pe_callTy call_tuple_of (by rfl) mt bt_tuple (pa_cons (pv 8) pa_nil)) pa_nil))) (pe_ix (ixT (K := K)) (pv 6) pe_int (fun _ _ => rfl)) (nomark _))))) (pss_one (ps_ret pe_bl)) pss_nil)
    (pss_one (ps_ret (pe_and (pe_cmpR (op_eqG hr.units) (pe_call G11 hr (by rfl) m11 k11 b11 .nil pass0 (pa_cons (pv 5) (pa_cons (pe_ix (ixT (K := K)) (pv 6) pe_int (fun _ _ => rfl)) pa_nil))) (pe_ix (ixT (K := K)) (pv 6) pe_int (fun _ _ => rfl)) (nomark _)) (pe_one (pe_cmpR (op_eqG hr.units) (pe_call G6 hr (by rfl) m6 k6 b6 .nil pass0 (pa_cons (pe_ix (ixT (K := K)) (pv 6) pe_int (fun _ _ => rfl)) pa_nil)) (pe_tup (pa_cons (pe_tup pa_nil) (pa_cons (pe_ix (ixT (K := K)) (pv 6) pe_int (fun _ _ => rfl)) pa_nil))) (nomark _)))))))))))))))))  , ?_⟩
  refine ⟨_, rfl, a, ns, 0, rfl, ⟨hS0, hS1⟩, by decide, fun z0 hz0 => ⟨z0, rfl, hz0, fun W0 W4 W9 => ?_⟩⟩
  refine ⟨_, rfl, a, ns, 1, rfl, ⟨hS0, hS1⟩, by decide, fun z1 hz1 => ⟨z1, rfl, hz1, fun U0 U4 U9 => ?_⟩⟩
  refine ⟨_, rfl, _, rfl, _, rfl, a, ns, W0, U0, rfl, ⟨hS0, hS1⟩, by omega, by omega, fun pb0 H1 bs0 s1 hB0 n1 n10 fl0 => ?_⟩
  refine ⟨_, rfl, a, ns, 2, rfl, ⟨s1.seq hS0, hS1⟩, by decide, fun z2 hz2 => ⟨z2, rfl, fun c0 sc0 cp0 pc0 hpc0 => ?_⟩⟩
  obtain ⟨H2, e2, s2, g2⟩ : ∃ H2, upd H1 pc0 (.tup [.int c0.num, .int c0.den]) = H2 ∧ Same H1 H2 ∧ FrR H2 pc0 c0 := ⟨_, rfl, same_new hpc0 _, upd_same⟩
  rw [e2]
  (try dsimp only)
  refine name_go ?_
  (try dsimp only)
  have s12 := s1.trans s2
  refine seq_join (G := fun σ H4 => ∃ (pb : Addr) (bs : List Bx) (W U : Int) (pc : Addr) (c : Rat), σ = [some (.ref a), some (.int W), some (.int U), some (.ref pb), some (.ref pc), none, none, none, none] ∧ Same H H4 ∧ LstR BoxR H4 pb bs ∧ bs.length ≤ 10 ∧ FlB W U bs ∧ 0 < W ∧ W ≤ 1000000 ∧ 0 < U ∧ U ≤ 1000000 ∧ FrR H4 pc c ∧ Sb 7 13 c ∧ 0 < c.num) (fun r => ?_) ?_
  · refine ⟨_, rfl, a, ns, 0, rfl, ⟨s12.seq hS0, hS1⟩, by decide, fun z => ⟨_, _, rfl, rfl, (show (0 : Int) < 2 by decide), rfl, _, rfl, ?_⟩⟩
    refine ite2 (fun _ => ?_) (fun _ => ?_)
    · refine ⟨_, rfl, a, ns, rfl, ⟨s12.seq hS0, hS1⟩, by decide, by decide, fun t p H3 bs W U s3 ht hB n10' fl w0 w1 u0 u1 => ?_⟩
      refine ⟨t, _, rfl, SqT.of ht, rfl, _, _, rfl, _, _, rfl, _, _, rfl, rfl, ?_⟩
      refine ⟨_, rfl, a, ns, 0, rfl, ⟨(s12.trans s3).seq hS0, hS1⟩, by decide, fun z' => ⟨_, _, rfl, rfl, ⟨by decide, by decide⟩, _, rfl, fun c sc cp pc hpc => ?_⟩⟩
      have s4 := same_new hpc (.tup [.int c.num, .int c.den])
      exact r _ _ ⟨p, bs, W, U, pc, c, rfl, s12.trans (s3.trans s4), mo_lst (R := BoxR) (fun s h => mo_bxR s h) s4 hB, n10', fl, w0, w1, u0, u1, upd_same, sc, cp⟩
    · have rr := r _ _ ⟨pb0, bs0, W0, U0, pc0, c0, rfl, s12, mo_lst (R := BoxR) (fun s h => mo_bxR s h) s2 hB0, n10, ⟨fl0.tile, fl0.tru⟩, by omega, by omega, by omega, by omega, g2, sc0, cp0⟩
      first | exact rr | exact nx_go rr
  clear g2 e2 hpc0 pc0 sc0 cp0 c0 hB0 fl0 n1 n10 bs0 pb0
  rintro σ H5 ⟨pb, bs, W, U, pc, c, rfl, s5, hB, n10, fl, w0, w1, u0, u1, g5, sc, cp⟩
  have hc0 : 0 < c := by rw [Rat.lt_iff]; simpa using cp
  have xB : BxF bs := flb_bxf fl w1 u1
  have p20 : (2 : Nat) ^ 20 = 1048576 := by decide
  have lsb : ∀ {H1 H2 : Hp} {p : Addr} {bs : List Box}, Same H1 H2 → LstR BoxR H1 p bs → LstR BoxR H2 p bs := fun s h => mo_lst (R := BoxR) (fun s h => mo_bxR s h) s h
  refine ⟨_, rfl, _, rfl, _, rfl, _, rfl, ?_⟩
  dsimp only [L2.tNil]
  refine ⟨pb, pc, bs, _, _, c, rfl, hB, by omega, g5, sc, by omega, by omega, xB.bd, fun t9 H9 s9 hF => ?_⟩
  have kI := (keep_pt fl (by omega) w1 u1).rows hc0 sc
  have i0 : rowsJ c (JPt bs) (rowsOf c bs) := ⟨bs, rfl, [], .nil bs⟩
  refine ⟨_, rfl, ?_⟩
  dsimp only [L2.tNil]
  refine ⟨t9, _, _, _, rowsJ c (JPt bs), rfl, hF, kI, i0, fun t10 ps pf cs ss rows' H10 s10 ht10 hps hC hF10 pth _ nof => ?_⟩
  obtain ⟨cb, rfl, pb1⟩ := pth_C hc0 w1 u1 fl pth
  obtain ⟨flc, lnc⟩ := pb1.fl fl
  have x' : BxF cb := flb_bxf flc w1 u1
  rw [fit_same hc0 x'] at nof
  refine ⟨_, rfl, _, _, _, rfl, TyOf.tup ht10, kit_self K _, _, rfl, iteF ?_⟩
  refine ⟨_, rfl, t10, _, rfl, .inr (SqT.of ht10), rfl, _, rfl, iteNS rfl ?_⟩
  refine ⟨_, rfl, t10, _, _, _, rfl, rfl, SqT.of ht10, at0, _, _, _, rfl, TyOf.tup hps, kit_self K _, _, rfl, iteF ?_⟩
  have s910 := s9.trans s10
  refine ⟨_, rfl, _, rfl, t10, _, _, _, rfl, rfl, SqT.of ht10, at0, pb, ps, cs, ss, bs, cb, W, U, rfl, lsb s910 hB, hps, hC, pb1, fl, by omega, w1, u1, fun p11 H11 s11 h11 => ?_⟩
  refine ⟨_, rfl, _, rfl, iteDF (by intro z; cases z) ?_⟩
  refine ⟨_, rfl, ?_⟩
  dsimp only [L2.tNil]
  refine ⟨p11, cb, rfl, h11, by omega, few64 (by omega) x', fun t12 cs12 rs12 H12 s12 h12 hA12 pm12 pw12 => ?_⟩
  rw [nof] at pm12
  have e12 : rs12 = [] := List.eq_nil_of_length_eq_zero (by rw [pm12.length_eq]; rfl)
  subst e12
  have e12' : cs12 = [] := List.eq_nil_of_length_eq_zero hA12.1
  subst e12'
  refine ⟨by show 0 ≤ sizeLine; decide, fun t13 ht13 => ?_⟩
  obtain ⟨H13, e13, s13, g13⟩ := new_tup ht13 []
  rw [e13]
  have rdN : ∀ {H : Hp} {t : Addr}, H t = some (.tup []) → RdD H (.ref t) (.tuple []) := fun h => .tup h rfl fun i x d e1 _ => by simp at e1
  have okN : ((PyData.tuple []).canLay0 = true ∧ (PyData.tuple []).depth ≤ 64) := ⟨rfl, by simp [PyData.depth, PyData.depthAll]⟩
  refine ⟨_, _, rdN (s13 _ _ h12), rdN g13, okN, okN, _, rfl, ?_⟩
  rw [SeqAt.eqv_refl _ okN.1]
  refine iteF ?_
  have s1013 := s11.trans (s12.trans s13)
  have ht13' := s1013 _ _ ht10
  have hF13 := mo_floor s1013 hF10
  have okF4 : ∀ W U rows, (floD W U rows).canLay0 = true ∧ (floD W U rows).depth ≤ 64 := fun W U rows => okS (shp_flo W U rows) (by decide)
  refine ⟨_, rfl, t10, _, _, _, rfl, rfl, SqT.of ht13', at1, _, rfl, _, rfl, _, rfl, _, rfl, ?_⟩
  dsimp only [L2.tNil]
  refine ⟨p11, pc, cb, _, _, c, rfl, lsb (s12.trans s13) h11, by omega, (s910.trans s1013) _ _ g5, sc, by omega, by omega, x'.bd, fun t14 H14 s14 hF14 => ?_⟩
  refine ⟨_, _, rd_flo (mo_floor s14 hF13), rd_flo hF14, okF4 _ _ _, okF4 _ _ _, _, rfl, ?_⟩
  rw [SeqAt.eqv_refl _ (okF4 _ _ _).1]
  refine iteF ?_
  have s514 := s910.trans (s1013.trans s14)
  refine ⟨_, rfl, _, rfl, ?_⟩
  dsimp only [L2.tNil]
  refine ⟨a, pb, ns, bs, W, U, rfl, ⟨(s5.trans s514).seq hS0, hS1⟩, lsb s514 hB, fl, by omega, w1, u1, fun l15 cs15 ss2 b2 H15 s15 hl15 hC15 pth2 nof2 => ?_⟩
  obtain rfl := pb1.one fl nof pth2 nof2
  refine ⟨_, rfl, _, rfl, ?_⟩
  dsimp only [L2.tNil]
  refine ⟨pb, l15, cs15, ss2, bs, cb, W, U, rfl, lsb (s514.trans s15) hB, hl15, hC15, pth2, fl, by omega, w1, u1, fun p16 H16 s16 h16 => ?_⟩
  have s1416 := s14.trans (s15.trans s16)
  refine ⟨_, rfl, 1, p16, p11, _, _, by decide, rfl, rfl, ls_bx h16, ls_bx (lsb ((s12.trans s13).trans s1416) h11), shp_bxs _, shp_bxs _, _, rfl, ?_⟩
  rw [bxs_same, if_neg Bool.false_ne_true]
  refine iteF ?_
  refine ⟨_, rfl, _, rfl, l15, _, rfl, .inl ⟨SqL.of (s16 _ _ hl15), fun t17 ht17 => ?_⟩⟩
  obtain ⟨H17, e17, s17, g17⟩ := new_tup ht17 (cs15.map V.ref)
  rw [e17]
  have s1017 := s1013.trans (s1416.trans s17)
  have hF17 := mo_floor (s10.trans s1017) hF
  have pthR2 : PthR (rowsOf c bs) ss2 (rowsOf c cb) := by have := C_pth hc0 w1 u1 pth2 fl (rows := rowsOf c bs) .nil; simpa using this
  refine ⟨t9, t17, cs15, ss2, _, _, _, _, rowsJ c (JPt bs), rfl, hF17, g17, hC15.keep mo_tupS (s16.trans s17), pthR2, kI, i0, fun b18 H18 s18 h18 => ?_⟩
  have s1018 := s1017.trans s18
  refine ⟨_, rfl, t10, _, _, _, rfl, rfl, SqT.of (s1018 _ _ ht10), at1, _, _, rd_flo h18, rd_flo (mo_floor s1018 hF10), okF4 _ _ _, okF4 _ _ _, _, rfl, ?_⟩
  rw [SeqAt.eqv_refl _ (okF4 _ _ _).1]
  refine iteF ?_
  refine ⟨_, rfl, _, rfl, t10, _, _, _, rfl, rfl, SqT.of (s1018 _ _ ht10), at0, t9, ps, cs, ss, _, _, _, _, rowsJ c (JPt bs), rfl, mo_floor (s10.trans s1018) hF, s1018 _ _ hps, hC.keep mo_tupS s1018, pth, kI, i0, fun b19 H19 s19 h19 => ?_⟩
  have s1019 := s1018.trans s19
  refine ⟨_, rfl, t10, _, _, _, rfl, rfl, SqT.of (s1019 _ _ ht10), at1, _, _, rd_flo h19, rd_flo (mo_floor s1019 hF10), okF4 _ _ _, okF4 _ _ _, _, rfl, ?_⟩
  rw [SeqAt.eqv_refl _ (okF4 _ _ _).1]
  refine iteT ?_
  have kI2 := (keep_pt flc (by omega) w1 u1).rows hc0 sc
  refine ⟨_, rfl, t10, _, _, _, rfl, rfl, SqT.of (s1019 _ _ ht10), at1, pf, _, _, _, rowsJ c (JPt cb), rfl, mo_floor s1019 hF10, kI2, ⟨cb, rfl, [], .nil cb⟩, fun t20 ps20 pf20 cs20 ss20 rows20 H20 s20 ht20 hps20 hC20 hF20 pth20 _ nof20 => ?_⟩
  obtain ⟨c20, rfl, pb20⟩ := pth_C hc0 w1 u1 flc pth20
  have e20 : ss20 = [] ∧ c20 = cb := by
    cases pb20 with
    | nil => exact ⟨rfl, rfl⟩
    | cons a1 a2 _ =>
      have : _ ∈ (stepsOf cb.length).filter (fitI cb) := List.mem_filter.mpr ⟨a1, a2⟩
      rw [nof] at this; cases this
  obtain ⟨rfl, rfl⟩ := e20
  have e20' : cs20 = [] := List.eq_nil_of_length_eq_zero hC20.1
  subst e20'
  refine ⟨by show 0 ≤ sizeLine; decide, fun t21 ht21 => ?_⟩
  obtain ⟨H21, e21, s21, g21⟩ := new_tup ht21 []
  rw [e21]
  have s1021 := s1019.trans (s20.trans s21)
  refine ⟨_, rfl, t10, _, _, _, rfl, rfl, SqT.of (s1021 _ _ ht10), at1, by show 2 ≤ sizeLine; decide, fun t22 ht22 => ?_⟩
  obtain ⟨H22, e22, s22, g22⟩ := new_tup ht22 [.ref t21, .ref pf]
  rw [e22]
  have two : ∀ {H : Hp} {t x y : Addr} {W U : Rat} {rows : List (List Rat)}, H t = some (.tup [.ref x, .ref y]) → H x = some (.tup []) → FloorR H y W U rows → RdD H (.ref t) (.tuple [.tuple [], floD W U rows]) := fun {H t x y W U rows} h1 h2 h3 => by
    refine .tup h1 rfl fun i v d e1 e2 => ?_
    match i with
    | 0 => obtain rfl := Option.some.inj e1; obtain rfl := Option.some.inj e2; exact rdN h2
    | 1 => obtain rfl := Option.some.inj e1; obtain rfl := Option.some.inj e2; exact rd_flo h3
    | i + 2 => simp at e1
  have shpN : Shp 4 (.tuple []) := .tup fun d hd => by cases hd
  have shpT : ∀ W U rows, Shp 5 (.tuple [.tuple [], floD W U rows]) := fun W U rows => .tup fun d hd => by
    simp only [List.mem_cons, List.not_mem_nil, or_false] at hd
    rcases hd with rfl | rfl
    · exact shpN
    · exact shp_flo _ _ _
  refine ⟨_, _, two ((s21.trans s22) _ _ ht20) ((s21.trans s22) _ _ hps20) (mo_floor (s21.trans s22) hF20), two g22 (s22 _ _ g21) (mo_floor (s1021.trans s22) hF10), okS (shpT _ _ _) (by decide), okS (shpT _ _ _) (by decide), ?_⟩
  rw [SeqAt.eqv_refl _ (shpT _ _ _).ok.1]
  exact q _
end
end My
namespace My
open PySem L2 Mth
theorem len_1 {α : Type} {us : List α} (h : us.length = 1) : ∃ a0, us = [a0] := by
  match us, h with
  | [a0], _ => exact ⟨a0, rfl⟩
theorem len_2 {α : Type} {us : List α} (h : us.length = 2) : ∃ a0 a1, us = [a0, a1] := by
  match us, h with
  | [a0, a1], _ => exact ⟨a0, a1, rfl⟩
theorem len_3 {α : Type} {us : List α} (h : us.length = 3) : ∃ a0 a1 a2, us = [a0, a1, a2] := by
  match us, h with
  | [a0, a1, a2], _ => exact ⟨a0, a1, a2, rfl⟩
theorem len_4 {α : Type} {us : List α} (h : us.length = 4) : ∃ a0 a1 a2 a3, us = [a0, a1, a2, a3] := by
  match us, h with
  | [a0, a1, a2, a3], _ => exact ⟨a0, a1, a2, a3, rfl⟩
theorem len_6 {α : Type} {us : List α} (h : us.length = 6) : ∃ a0 a1 a2 a3 a4 a5, us = [a0, a1, a2, a3, a4, a5] := by
  match us, h with
  | [a0, a1, a2, a3, a4, a5], _ => exact ⟨a0, a1, a2, a3, a4, a5, rfl⟩
set_option maxHeartbeats 4000000 in
theorem all_mk {l : PySem.W.OpenLaw} {w : World} {K : PySem.W.Frag} {h : Heap} {mg : Str → Option Value} {fa C1 C2 f1 f2 f3 f4 f5 f6 f7 f8 f9 f10 f11 f12 f13 f14 f15 f16 f17 f18 f19 f20 f21 f22 f23 f24 f25 f26 f27 f28 f29 f30 f31 f32 f33 f34 f35 f36 f37 f38 f39 f40 f41 f42 : Addr} (X : K.In h) (G : h.Ns mainGlobals mg) (hfa : mg "law" = some (.ref fa))
    {od1 an1 od2 an2 od3 an3 od4 an4 od5 an5 od6 an6 od7 an7 od8 an8 od9 an9 od10 an10 od11 an11 od12 an12 od13 an13 od14 an14 od15 an15 od16 an16 od17 an17 od18 an18 od19 an19 od20 an20 od21 an21 od22 an22 od23 an23 od24 an24 od25 an25 od26 an26 od27 an27 od28 an28 od29 an29 od30 an30 od31 an31 od32 an32 od33 an33 od34 an34 od35 an35 od36 an36 od37 an37 od38 an38 od39 an39 od40 an40 od41 an41 od42 an42 : Option Addr}
    {sl1 sl2 sl3 sl4 sl5 sl6 sl7 sl8 sl9 sl10 sl11 sl12 sl13 sl14 sl15 sl16 sl17 sl18 sl19 sl20 sl21 sl22 sl23 sl24 sl25 sl26 sl27 sl28 sl29 sl30 sl31 sl32 sl33 sl34 sl35 sl36 sl37 sl38 sl39 sl40 sl41 sl42 : Array (Option Value)}
    {oc1 kV1 dc1 pm1 cd1 ct1 oc2 kV2 dc2 pm2 cd2 ct2 oc3 kV3 dc3 pm3 cd3 ct3 oc4 kV4 dc4 pm4 cd4 ct4 oc5 kV5 dc5 pm5 cd5 ct5 oc6 kV6 dc6 pm6 cd6 ct6 oc7 kV7 dc7 pm7 cd7 ct7 oc8 kV8 dc8 pm8 cd8 ct8 oc9 kV9 dc9 pm9 cd9 ct9 oc10 kV10 dc10 pm10 cd10 ct10 oc11 kV11 dc11 pm11 cd11 ct11 oc12 kV12 dc12 pm12 cd12 ct12 oc13 kV13 dc13 pm13 cd13 ct13 oc14 kV14 dc14 pm14 cd14 ct14 oc15 kV15 dc15 pm15 cd15 ct15 oc16 kV16 dc16 pm16 cd16 ct16 oc17 kV17 dc17 pm17 cd17 ct17 oc18 kV18 dc18 pm18 cd18 ct18 oc19 kV19 dc19 pm19 cd19 ct19 oc20 kV20 dc20 pm20 cd20 ct20 oc21 kV21 dc21 pm21 cd21 ct21 oc22 kV22 dc22 pm22 cd22 ct22 oc23 kV23 dc23 pm23 cd23 ct23 oc24 kV24 dc24 pm24 cd24 ct24 oc25 kV25 dc25 pm25 cd25 ct25 oc26 kV26 dc26 pm26 cd26 ct26 oc27 kV27 dc27 pm27 cd27 ct27 oc28 kV28 dc28 pm28 cd28 ct28 oc29 kV29 dc29 pm29 cd29 ct29 oc30 kV30 dc30 pm30 cd30 ct30 oc31 kV31 dc31 pm31 cd31 ct31 oc32 kV32 dc32 pm32 cd32 ct32 oc33 kV33 dc33 pm33 cd33 ct33 oc34 kV34 dc34 pm34 cd34 ct34 oc35 kV35 dc35 pm35 cd35 ct35 oc36 kV36 dc36 pm36 cd36 ct36 oc37 kV37 dc37 pm37 cd37 ct37 oc38 kV38 dc38 pm38 cd38 ct38 oc39 kV39 dc39 pm39 cd39 ct39 oc40 kV40 dc40 pm40 cd40 ct40 oc41 kV41 dc41 pm41 cd41 ct41 oc42 kV42 dc42 pm42 cd42 ct42 : Value}
    (a1 : PySem.W.nsIn K mainGlobals "less" = some (some (.ref f1))) (l1 : K.lookup f1 = some ⟨oc1, od1, .func (PySem.W.fnOf "less" "less" (defArgs sLess) (defBody sLess) (defScope sLess) .none kV1 dc1 pm1 an1 cd1 ct1), sl1⟩) (c1 : PySem.W.codeIn K cd1 "less" = true) (k1 : PySem.W.keepIn K (.ref f1) = true)
    (a2 : PySem.W.nsIn K mainGlobals "rising" = some (some (.ref f2))) (l2 : K.lookup f2 = some ⟨oc2, od2, .func (PySem.W.fnOf "rising" "rising" (defArgs s_rising) (defBody s_rising) (defScope s_rising) .none kV2 dc2 pm2 an2 cd2 ct2), sl2⟩) (c2 : PySem.W.codeIn K cd2 "rising" = true) (k2 : PySem.W.keepIn K (.ref f2) = true)
    (a3 : PySem.W.nsIn K mainGlobals "is_pair" = some (some (.ref f3))) (l3 : K.lookup f3 = some ⟨oc3, od3, .func (PySem.W.fnOf "is_pair" "is_pair" (defArgs s_is_pair) (defBody s_is_pair) (defScope s_is_pair) .none kV3 dc3 pm3 an3 cd3 ct3), sl3⟩) (c3 : PySem.W.codeIn K cd3 "is_pair" = true) (k3 : PySem.W.keepIn K (.ref f3) = true)
    (a4 : PySem.W.nsIn K mainGlobals "touches" = some (some (.ref f4))) (l4 : K.lookup f4 = some ⟨oc4, od4, .func (PySem.W.fnOf "touches" "touches" (defArgs s_touches) (defBody s_touches) (defScope s_touches) .none kV4 dc4 pm4 an4 cd4 ct4), sl4⟩) (c4 : PySem.W.codeIn K cd4 "touches" = true) (k4 : PySem.W.keepIn K (.ref f4) = true)
    (a5 : PySem.W.nsIn K mainGlobals "common_level" = some (some (.ref f5))) (l5 : K.lookup f5 = some ⟨oc5, od5, .func (PySem.W.fnOf "common_level" "common_level" (defArgs s_common_level) (defBody s_common_level) (defScope s_common_level) .none kV5 dc5 pm5 an5 cd5 ct5), sl5⟩) (c5 : PySem.W.codeIn K cd5 "common_level" = true) (k5 : PySem.W.keepIn K (.ref f5) = true)
    (a6 : PySem.W.nsIn K mainGlobals "is_above" = some (some (.ref f6))) (l6 : K.lookup f6 = some ⟨oc6, od6, .func (PySem.W.fnOf "is_above" "is_above" (defArgs s_is_above) (defBody s_is_above) (defScope s_is_above) .none kV6 dc6 pm6 an6 cd6 ct6), sl6⟩) (c6 : PySem.W.codeIn K cd6 "is_above" = true) (k6 : PySem.W.keepIn K (.ref f6) = true)
    (a7 : PySem.W.nsIn K mainGlobals "is_beside" = some (some (.ref f7))) (l7 : K.lookup f7 = some ⟨oc7, od7, .func (PySem.W.fnOf "is_beside" "is_beside" (defArgs s_is_beside) (defBody s_is_beside) (defScope s_is_beside) .none kV7 dc7 pm7 an7 cd7 ct7), sl7⟩) (c7 : PySem.W.codeIn K cd7 "is_beside" = true) (k7 : PySem.W.keepIn K (.ref f7) = true)
    (a8 : PySem.W.nsIn K mainGlobals "together" = some (some (.ref f8))) (l8 : K.lookup f8 = some ⟨oc8, od8, .func (PySem.W.fnOf "together" "together" (defArgs s_together) (defBody s_together) (defScope s_together) .none kV8 dc8 pm8 an8 cd8 ct8), sl8⟩) (c8 : PySem.W.codeIn K cd8 "together" = true) (k8 : PySem.W.keepIn K (.ref f8) = true)
    (a9 : PySem.W.nsIn K mainGlobals "check_fits" = some (some (.ref f9))) (l9 : K.lookup f9 = some ⟨oc9, od9, .func (PySem.W.fnOf "check_fits" "check_fits" (defArgs s_check_fits) (defBody s_check_fits) (defScope s_check_fits) .none kV9 dc9 pm9 an9 cd9 ct9), sl9⟩) (c9 : PySem.W.codeIn K cd9 "check_fits" = true) (k9 : PySem.W.keepIn K (.ref f9) = true)
    (a10 : PySem.W.nsIn K mainGlobals "joined" = some (some (.ref f10))) (l10 : K.lookup f10 = some ⟨oc10, od10, .func (PySem.W.fnOf "joined" "joined" (defArgs s_joined) (defBody s_joined) (defScope s_joined) .none kV10 dc10 pm10 an10 cd10 ct10), sl10⟩) (c10 : PySem.W.codeIn K cd10 "joined" = true) (k10 : PySem.W.keepIn K (.ref f10) = true)
    (a11 : PySem.W.nsIn K mainGlobals "step_of" = some (some (.ref f11))) (l11 : K.lookup f11 = some ⟨oc11, od11, .func (PySem.W.fnOf "step_of" "step_of" (defArgs s_step_of) (defBody s_step_of) (defScope s_step_of) .none kV11 dc11 pm11 an11 cd11 ct11), sl11⟩) (c11 : PySem.W.codeIn K cd11 "step_of" = true) (k11 : PySem.W.keepIn K (.ref f11) = true)
    (a12 : PySem.W.nsIn K mainGlobals "fitting" = some (some (.ref f12))) (l12 : K.lookup f12 = some ⟨oc12, od12, .func (PySem.W.fnOf "fitting" "fitting" (defArgs s_fitting) (defBody s_fitting) (defScope s_fitting) .none kV12 dc12 pm12 an12 cd12 ct12), sl12⟩) (c12 : PySem.W.codeIn K cd12 "fitting" = true) (k12 : PySem.W.keepIn K (.ref f12) = true)
    (a13 : PySem.W.nsIn K mainGlobals "settled" = some (some (.ref f13))) (l13 : K.lookup f13 = some ⟨oc13, od13, .func (PySem.W.fnOf "settled" "settled" (defArgs s_settled) (defBody s_settled) (defScope s_settled) .none kV13 dc13 pm13 an13 cd13 ct13), sl13⟩) (c13 : PySem.W.codeIn K cd13 "settled" = true) (k13 : PySem.W.keepIn K (.ref f13) = true)
    (a14 : PySem.W.nsIn K mainGlobals "walked" = some (some (.ref f14))) (l14 : K.lookup f14 = some ⟨oc14, od14, .func (PySem.W.fnOf "walked" "walked" (defArgs s_walked) (defBody s_walked) (defScope s_walked) .none kV14 dc14 pm14 an14 cd14 ct14), sl14⟩) (c14 : PySem.W.codeIn K cd14 "walked" = true) (k14 : PySem.W.keepIn K (.ref f14) = true)
    (a15 : PySem.W.nsIn K mainGlobals "_law_cell_at" = some (some (.ref f15))) (l15 : K.lookup f15 = some ⟨oc15, od15, .func (PySem.W.fnOf "_law_cell_at" "_law_cell_at" (defArgs sCellAt) (defBody sCellAt) (defScope sCellAt) .none kV15 dc15 pm15 an15 cd15 ct15), sl15⟩) (c15 : PySem.W.codeIn K cd15 "_law_cell_at" = true) (k15 : PySem.W.keepIn K (.ref f15) = true)
    (a16 : PySem.W.nsIn K mainGlobals "_law_lowest" = some (some (.ref f16))) (l16 : K.lookup f16 = some ⟨oc16, od16, .func (PySem.W.fnOf "_law_lowest" "_law_lowest" (defArgs s_law_lowest) (defBody s_law_lowest) (defScope s_law_lowest) .none kV16 dc16 pm16 an16 cd16 ct16), sl16⟩) (c16 : PySem.W.codeIn K cd16 "_law_lowest" = true) (k16 : PySem.W.keepIn K (.ref f16) = true)
    (a17 : PySem.W.nsIn K mainGlobals "_law_wheel" = some (some (.ref f17))) (l17 : K.lookup f17 = some ⟨oc17, od17, .func (PySem.W.fnOf "_law_wheel" "_law_wheel" (defArgs s_law_wheel) (defBody s_law_wheel) (defScope s_law_wheel) .none kV17 dc17 pm17 an17 cd17 ct17), sl17⟩) (c17 : PySem.W.codeIn K cd17 "_law_wheel" = true) (k17 : PySem.W.keepIn K (.ref f17) = true)
    (a18 : PySem.W.nsIn K mainGlobals "_law_two" = some (some (.ref f18))) (l18 : K.lookup f18 = some ⟨oc18, od18, .func (PySem.W.fnOf "_law_two" "_law_two" (defArgs s_law_two) (defBody s_law_two) (defScope s_law_two) .none kV18 dc18 pm18 an18 cd18 ct18), sl18⟩) (c18 : PySem.W.codeIn K cd18 "_law_two" = true) (k18 : PySem.W.keepIn K (.ref f18) = true)
    (a19 : PySem.W.nsIn K mainGlobals "_law_broken" = some (some (.ref f19))) (l19 : K.lookup f19 = some ⟨oc19, od19, .func (PySem.W.fnOf "_law_broken" "_law_broken" (defArgs s_law_broken) (defBody s_law_broken) (defScope s_law_broken) .none kV19 dc19 pm19 an19 cd19 ct19), sl19⟩) (c19 : PySem.W.codeIn K cd19 "_law_broken" = true) (k19 : PySem.W.keepIn K (.ref f19) = true)
    (a20 : PySem.W.nsIn K mainGlobals "_law_scaled_one" = some (some (.ref f20))) (l20 : K.lookup f20 = some ⟨oc20, od20, .func (PySem.W.fnOf "_law_scaled_one" "_law_scaled_one" (defArgs s_law_scaled_one) (defBody s_law_scaled_one) (defScope s_law_scaled_one) .none kV20 dc20 pm20 an20 cd20 ct20), sl20⟩) (c20 : PySem.W.codeIn K cd20 "_law_scaled_one" = true) (k20 : PySem.W.keepIn K (.ref f20) = true)
    (a21 : PySem.W.nsIn K mainGlobals "_law_scaled" = some (some (.ref f21))) (l21 : K.lookup f21 = some ⟨oc21, od21, .func (PySem.W.fnOf "_law_scaled" "_law_scaled" (defArgs s_law_scaled) (defBody s_law_scaled) (defScope s_law_scaled) .none kV21 dc21 pm21 an21 cd21 ct21), sl21⟩) (c21 : PySem.W.codeIn K cd21 "_law_scaled" = true) (k21 : PySem.W.keepIn K (.ref f21) = true)
    (a22 : PySem.W.nsIn K mainGlobals "_law_floor_of" = some (some (.ref f22))) (l22 : K.lookup f22 = some ⟨oc22, od22, .func (PySem.W.fnOf "_law_floor_of" "_law_floor_of" (defArgs s_law_floor_of) (defBody s_law_floor_of) (defScope s_law_floor_of) .none kV22 dc22 pm22 an22 cd22 ct22), sl22⟩) (c22 : PySem.W.codeIn K cd22 "_law_floor_of" = true) (k22 : PySem.W.keepIn K (.ref f22) = true)
    (a23 : PySem.W.nsIn K mainGlobals "_law_scale_by" = some (some (.ref f23))) (l23 : K.lookup f23 = some ⟨oc23, od23, .func (PySem.W.fnOf "_law_scale_by" "_law_scale_by" (defArgs s_law_scale_by) (defBody s_law_scale_by) (defScope s_law_scale_by) .none kV23 dc23 pm23 an23 cd23 ct23), sl23⟩) (c23 : PySem.W.codeIn K cd23 "_law_scale_by" = true) (k23 : PySem.W.keepIn K (.ref f23) = true)
    (a24 : PySem.W.nsIn K mainGlobals "_law_built" = some (some (.ref f24))) (l24 : K.lookup f24 = some ⟨oc24, od24, .func (PySem.W.fnOf "_law_built" "_law_built" (defArgs s_law_built) (defBody s_law_built) (defScope s_law_built) .none kV24 dc24 pm24 an24 cd24 ct24), sl24⟩) (c24 : PySem.W.codeIn K cd24 "_law_built" = true) (k24 : PySem.W.keepIn K (.ref f24) = true)
    (a25 : PySem.W.nsIn K mainGlobals "_law_side" = some (some (.ref f25))) (l25 : K.lookup f25 = some ⟨oc25, od25, .func (PySem.W.fnOf "_law_side" "_law_side" (defArgs s_law_side) (defBody s_law_side) (defScope s_law_side) .none kV25 dc25 pm25 an25 cd25 ct25), sl25⟩) (c25 : PySem.W.codeIn K cd25 "_law_side" = true) (k25 : PySem.W.keepIn K (.ref f25) = true)
    (a26 : PySem.W.nsIn K mainGlobals "_law_raw" = some (some (.ref f26))) (l26 : K.lookup f26 = some ⟨oc26, od26, .func (PySem.W.fnOf "_law_raw" "_law_raw" (defArgs s_law_raw) (defBody s_law_raw) (defScope s_law_raw) .none kV26 dc26 pm26 an26 cd26 ct26), sl26⟩) (c26 : PySem.W.codeIn K cd26 "_law_raw" = true) (k26 : PySem.W.keepIn K (.ref f26) = true)
    (a27 : PySem.W.nsIn K mainGlobals "_law_joined" = some (some (.ref f27))) (l27 : K.lookup f27 = some ⟨oc27, od27, .func (PySem.W.fnOf "_law_joined" "_law_joined" (defArgs s_law_joined) (defBody s_law_joined) (defScope s_law_joined) .none kV27 dc27 pm27 an27 cd27 ct27), sl27⟩) (c27 : PySem.W.codeIn K cd27 "_law_joined" = true) (k27 : PySem.W.keepIn K (.ref f27) = true)
    (a28 : PySem.W.nsIn K mainGlobals "_law_hung_up" = some (some (.ref f28))) (l28 : K.lookup f28 = some ⟨oc28, od28, .func (PySem.W.fnOf "_law_hung_up" "_law_hung_up" (defArgs s_law_hung_up) (defBody s_law_hung_up) (defScope s_law_hung_up) .none kV28 dc28 pm28 an28 cd28 ct28), sl28⟩) (c28 : PySem.W.codeIn K cd28 "_law_hung_up" = true) (k28 : PySem.W.keepIn K (.ref f28) = true)
    (a29 : PySem.W.nsIn K mainGlobals "_law_above" = some (some (.ref f29))) (l29 : K.lookup f29 = some ⟨oc29, od29, .func (PySem.W.fnOf "_law_above" "_law_above" (defArgs s_law_above) (defBody s_law_above) (defScope s_law_above) .none kV29 dc29 pm29 an29 cd29 ct29), sl29⟩) (c29 : PySem.W.codeIn K cd29 "_law_above" = true) (k29 : PySem.W.keepIn K (.ref f29) = true)
    (a30 : PySem.W.nsIn K mainGlobals "_law_beside" = some (some (.ref f30))) (l30 : K.lookup f30 = some ⟨oc30, od30, .func (PySem.W.fnOf "_law_beside" "_law_beside" (defArgs s_law_beside) (defBody s_law_beside) (defScope s_law_beside) .none kV30 dc30 pm30 an30 cd30 ct30), sl30⟩) (c30 : PySem.W.codeIn K cd30 "_law_beside" = true) (k30 : PySem.W.keepIn K (.ref f30) = true)
    (a31 : PySem.W.nsIn K mainGlobals "_law_fitting" = some (some (.ref f31))) (l31 : K.lookup f31 = some ⟨oc31, od31, .func (PySem.W.fnOf "_law_fitting" "_law_fitting" (defArgs s_law_fitting) (defBody s_law_fitting) (defScope s_law_fitting) .none kV31 dc31 pm31 an31 cd31 ct31), sl31⟩) (c31 : PySem.W.codeIn K cd31 "_law_fitting" = true) (k31 : PySem.W.keepIn K (.ref f31) = true)
    (a32 : PySem.W.nsIn K mainGlobals "_law_done" = some (some (.ref f32))) (l32 : K.lookup f32 = some ⟨oc32, od32, .func (PySem.W.fnOf "_law_done" "_law_done" (defArgs s_law_done) (defBody s_law_done) (defScope s_law_done) .none kV32 dc32 pm32 an32 cd32 ct32), sl32⟩) (c32 : PySem.W.codeIn K cd32 "_law_done" = true) (k32 : PySem.W.keepIn K (.ref f32) = true)
    (a33 : PySem.W.nsIn K mainGlobals "_law_led" = some (some (.ref f33))) (l33 : K.lookup f33 = some ⟨oc33, od33, .func (PySem.W.fnOf "_law_led" "_law_led" (defArgs s_law_led) (defBody s_law_led) (defScope s_law_led) .none kV33 dc33 pm33 an33 cd33 ct33), sl33⟩) (c33 : PySem.W.codeIn K cd33 "_law_led" = true) (k33 : PySem.W.keepIn K (.ref f33) = true)
    (a34 : PySem.W.nsIn K mainGlobals "_law_strolled" = some (some (.ref f34))) (l34 : K.lookup f34 = some ⟨oc34, od34, .func (PySem.W.fnOf "_law_strolled" "_law_strolled" (defArgs s_law_strolled) (defBody s_law_strolled) (defScope s_law_strolled) .none kV34 dc34 pm34 an34 cd34 ct34), sl34⟩) (c34 : PySem.W.codeIn K cd34 "_law_strolled" = true) (k34 : PySem.W.keepIn K (.ref f34) = true)
    (a35 : PySem.W.nsIn K mainGlobals "law" = some (some (.ref f35))) (l35 : K.lookup f35 = some ⟨oc35, od35, .func (PySem.W.fnOf "law" "law" (defArgs sLaw) (defBody sLaw) (defScope sLaw) .none kV35 dc35 pm35 an35 cd35 ct35), sl35⟩) (c35 : PySem.W.codeIn K cd35 "law" = true) (k35 : PySem.W.keepIn K (.ref f35) = true)
    (a36 : PySem.W.findIn K (.ref C1) "__init__" = some (some (.ref f36))) (i36 : PySem.W.isFn K (.ref f36) = true) (l36 : K.lookup f36 = some ⟨oc36, od36, .func (PySem.W.fnOf "__init__" "Step.__init__" (defArgs sInit) (defBody sInit) (defScope sInit) .none kV36 dc36 pm36 an36 cd36 ct36), sl36⟩) (c36 : PySem.W.codeIn K cd36 "Step.__init__" = true) (k36 : PySem.W.keepIn K (.ref f36) = true)
    (a37 : PySem.W.findIn K (.ref C1) "told" = some (some (.ref f37))) (i37 : PySem.W.isFn K (.ref f37) = true) (l37 : K.lookup f37 = some ⟨oc37, od37, .func (PySem.W.fnOf "told" "Above.told" (defArgs sToldA) (defBody sToldA) (defScope sToldA) .none kV37 dc37 pm37 an37 cd37 ct37), sl37⟩) (c37 : PySem.W.codeIn K cd37 "Above.told" = true) (k37 : PySem.W.keepIn K (.ref f37) = true)
    (a38 : PySem.W.findIn K (.ref C2) "told" = some (some (.ref f38))) (i38 : PySem.W.isFn K (.ref f38) = true) (l38 : K.lookup f38 = some ⟨oc38, od38, .func (PySem.W.fnOf "told" "Beside.told" (defArgs sToldB) (defBody sToldB) (defScope sToldB) .none kV38 dc38 pm38 an38 cd38 ct38), sl38⟩) (c38 : PySem.W.codeIn K cd38 "Beside.told" = true) (k38 : PySem.W.keepIn K (.ref f38) = true)
    (a39 : PySem.W.findIn K (.ref C1) "fits" = some (some (.ref f39))) (i39 : PySem.W.isFn K (.ref f39) = true) (l39 : K.lookup f39 = some ⟨oc39, od39, .func (PySem.W.fnOf "fits" "Above.fits" (defArgs sFitsA) (defBody sFitsA) (defScope sFitsA) .none kV39 dc39 pm39 an39 cd39 ct39), sl39⟩) (c39 : PySem.W.codeIn K cd39 "Above.fits" = true) (k39 : PySem.W.keepIn K (.ref f39) = true)
    (a40 : PySem.W.findIn K (.ref C2) "fits" = some (some (.ref f40))) (i40 : PySem.W.isFn K (.ref f40) = true) (l40 : K.lookup f40 = some ⟨oc40, od40, .func (PySem.W.fnOf "fits" "Beside.fits" (defArgs sFitsB) (defBody sFitsB) (defScope sFitsB) .none kV40 dc40 pm40 an40 cd40 ct40), sl40⟩) (c40 : PySem.W.codeIn K cd40 "Beside.fits" = true) (k40 : PySem.W.keepIn K (.ref f40) = true)
    (a41 : PySem.W.findIn K (.ref C1) "done" = some (some (.ref f41))) (i41 : PySem.W.isFn K (.ref f41) = true) (l41 : K.lookup f41 = some ⟨oc41, od41, .func (PySem.W.fnOf "done" "Above.done" (defArgs sDoneA) (defBody sDoneA) (defScope sDoneA) .none kV41 dc41 pm41 an41 cd41 ct41), sl41⟩) (c41 : PySem.W.codeIn K cd41 "Above.done" = true) (k41 : PySem.W.keepIn K (.ref f41) = true)
    (a42 : PySem.W.findIn K (.ref C2) "done" = some (some (.ref f42))) (i42 : PySem.W.isFn K (.ref f42) = true) (l42 : K.lookup f42 = some ⟨oc42, od42, .func (PySem.W.fnOf "done" "Beside.done" (defArgs sDoneB) (defBody sDoneB) (defScope sDoneB) .none kV42 dc42 pm42 an42 cd42 ct42), sl42⟩) (c42 : PySem.W.codeIn K cd42 "Beside.done" = true) (k42 : PySem.W.keepIn K (.ref f42) = true)
    (aC1 : PySem.W.nsIn K mainGlobals "Above" = some (some (.ref C1)))
    (pg1 : PySem.W.plainGet K C1 Str.empty = true)
    (hd1 : PySem.W.hasDictIn K C1 = true)
    (po1 : PySem.W.plainOver K C1 = true)
    (sa1 : PySem.W.findIn K (.ref C1) "__setattr__" = some (some (.builtin "object.__setattr__")))
    (mk1 : PySem.W.makesIn K C1 = true)
    (kc1 : PySem.W.keepIn K (.ref C1) = true)
    (no1 : PySem.W.findIn K (.ref C1) "one" = some none)
    (nt1 : PySem.W.findIn K (.ref C1) "other" = some none)
    (aC2 : PySem.W.nsIn K mainGlobals "Beside" = some (some (.ref C2)))
    (pg2 : PySem.W.plainGet K C2 Str.empty = true)
    (hd2 : PySem.W.hasDictIn K C2 = true)
    (po2 : PySem.W.plainOver K C2 = true)
    (sa2 : PySem.W.findIn K (.ref C2) "__setattr__" = some (some (.builtin "object.__setattr__")))
    (mk2 : PySem.W.makesIn K C2 = true)
    (kc2 : PySem.W.keepIn K (.ref C2) = true)
    (no2 : PySem.W.findIn K (.ref C2) "one" = some none)
    (nt2 : PySem.W.findIn K (.ref C2) "other" = some none)
    (iB : PySem.W.findIn K (.ref C2) "__init__" = some (some (.ref f36)))
    (z_abs : PySem.W.nsIn K mainGlobals "abs" = some none)
    (z_int : PySem.W.nsIn K mainGlobals "int" = some none)
    (z_len : PySem.W.nsIn K mainGlobals "len" = some none)
    (z_range : PySem.W.nsIn K mainGlobals "range" = some none)
    (z_list : PySem.W.nsIn K mainGlobals "list" = some none)
    (z_tuple : PySem.W.nsIn K mainGlobals "tuple" = some none)
    (z_isinstance : PySem.W.nsIn K mainGlobals "isinstance" = some none)
    (z_min : PySem.W.nsIn K mainGlobals "min" = some none)
    (z_max : PySem.W.nsIn K mainGlobals "max" = some none)
    (z_enumerate : PySem.W.nsIn K mainGlobals "enumerate" = some none)
    (z_sorted : PySem.W.nsIn K mainGlobals "sorted" = some none)
    : ∃ fd : FuncData, (∀ (s : Shared) (v : Value), BindsTo s fd ⟨[v], []⟩ [("_law_script", v)]) ∧ ∀ base : Heap, K.In base → base.Ns mainGlobals mg → FnOk l.prog w K mg base CX0 9 fa fd ["_law_script"] (spLaw K) := by
  have e := hfa.symm.trans (PySem.W.mg_of X G a35)
  cases e
  have F1 := fun_mk (st := sLess) l1 c1 k1
  have b1 := F1.binds (ps := ["one", "other"]) fun _ _ _ _ _ _ us hl => by obtain ⟨_, _, rfl⟩ := len_2 hl; rfl
  have m1 := PySem.W.mg_of X G a1
  have F2 := fun_mk (st := s_rising) l2 c2 k2
  have b2 := F2.binds (ps := ["one", "other"]) fun _ _ _ _ _ _ us hl => by obtain ⟨_, _, rfl⟩ := len_2 hl; rfl
  have m2 := PySem.W.mg_of X G a2
  have F3 := fun_mk (st := s_is_pair) l3 c3 k3
  have b3 := F3.binds (ps := ["count", "j", "k"]) fun _ _ _ _ _ _ us hl => by obtain ⟨_, _, _, rfl⟩ := len_3 hl; rfl
  have m3 := PySem.W.mg_of X G a3
  have F4 := fun_mk (st := s_touches) l4 c4 k4
  have b4 := F4.binds (ps := ["rectangle", "level", "left", "right"]) fun _ _ _ _ _ _ us hl => by obtain ⟨_, _, _, _, rfl⟩ := len_4 hl; rfl
  have m4 := PySem.W.mg_of X G a4
  have F5 := fun_mk (st := s_common_level) l5 c5 k5
  have b5 := F5.binds (ps := ["one", "other"]) fun _ _ _ _ _ _ us hl => by obtain ⟨_, _, rfl⟩ := len_2 hl; rfl
  have m5 := PySem.W.mg_of X G a5
  have F6 := fun_mk (st := s_is_above) l6 c6 k6
  have b6 := F6.binds (ps := ["rectangles", "j", "k"]) fun _ _ _ _ _ _ us hl => by obtain ⟨_, _, _, rfl⟩ := len_3 hl; rfl
  have m6 := PySem.W.mg_of X G a6
  have F7 := fun_mk (st := s_is_beside) l7 c7 k7
  have b7 := F7.binds (ps := ["rectangles", "j", "k"]) fun _ _ _ _ _ _ us hl => by obtain ⟨_, _, _, rfl⟩ := len_3 hl; rfl
  have m7 := PySem.W.mg_of X G a7
  have F8 := fun_mk (st := s_together) l8 c8 k8
  have b8 := F8.binds (ps := ["one", "other"]) fun _ _ _ _ _ _ us hl => by obtain ⟨_, _, rfl⟩ := len_2 hl; rfl
  have m8 := PySem.W.mg_of X G a8
  have F9 := fun_mk (st := s_check_fits) l9 c9 k9
  have b9 := F9.binds (ps := ["step", "floor"]) fun _ _ _ _ _ _ us hl => by obtain ⟨_, _, rfl⟩ := len_2 hl; rfl
  have m9 := PySem.W.mg_of X G a9
  have F10 := fun_mk (st := s_joined) l10 c10 k10
  have b10 := F10.binds (ps := ["step", "floor"]) fun _ _ _ _ _ _ us hl => by obtain ⟨_, _, rfl⟩ := len_2 hl; rfl
  have m10 := PySem.W.mg_of X G a10
  have F11 := fun_mk (st := s_step_of) l11 c11 k11
  have b11 := F11.binds (ps := ["told"]) fun _ _ _ _ _ _ us hl => by obtain ⟨_, rfl⟩ := len_1 hl; rfl
  have m11 := PySem.W.mg_of X G a11
  have F12 := fun_mk (st := s_fitting) l12 c12 k12
  have b12 := F12.binds (ps := ["floor"]) fun _ _ _ _ _ _ us hl => by obtain ⟨_, rfl⟩ := len_1 hl; rfl
  have m12 := PySem.W.mg_of X G a12
  have F13 := fun_mk (st := s_settled) l13 c13 k13
  have b13 := F13.binds (ps := ["floor"]) fun _ _ _ _ _ _ us hl => by obtain ⟨_, rfl⟩ := len_1 hl; rfl
  have m13 := PySem.W.mg_of X G a13
  have F14 := fun_mk (st := s_walked) l14 c14 k14
  have b14 := F14.binds (ps := ["floor", "steps"]) fun _ _ _ _ _ _ us hl => by obtain ⟨_, _, rfl⟩ := len_2 hl; rfl
  have m14 := PySem.W.mg_of X G a14
  have F15 := fun_mk (st := sCellAt) l15 c15 k15
  have b15 := F15.binds (ps := ["_law_script", "_law_k"]) fun _ _ _ _ _ _ us hl => by obtain ⟨_, _, rfl⟩ := len_2 hl; rfl
  have m15 := PySem.W.mg_of X G a15
  have F16 := fun_mk (st := s_law_lowest) l16 c16 k16
  have b16 := F16.binds (ps := ["_law_top", "_law_bottom"]) fun _ _ _ _ _ _ us hl => by obtain ⟨_, _, rfl⟩ := len_2 hl; rfl
  have m16 := PySem.W.mg_of X G a16
  have F17 := fun_mk (st := s_law_wheel) l17 c17 k17
  have b17 := F17.binds (ps := ["_law_box", "_law_x", "_law_y", "_law_way"]) fun _ _ _ _ _ _ us hl => by obtain ⟨_, _, _, _, rfl⟩ := len_4 hl; rfl
  have m17 := PySem.W.mg_of X G a17
  have F18 := fun_mk (st := s_law_two) l18 c18 k18
  have b18 := F18.binds (ps := ["_law_low", "_law_high", "_law_cell"]) fun _ _ _ _ _ _ us hl => by obtain ⟨_, _, _, rfl⟩ := len_3 hl; rfl
  have m18 := PySem.W.mg_of X G a18
  have F19 := fun_mk (st := s_law_broken) l19 c19 k19
  have b19 := F19.binds (ps := ["_law_box", "_law_cell"]) fun _ _ _ _ _ _ us hl => by obtain ⟨_, _, rfl⟩ := len_2 hl; rfl
  have m19 := PySem.W.mg_of X G a19
  have F20 := fun_mk (st := s_law_scaled_one) l20 c20 k20
  have b20 := F20.binds (ps := ["_law_number", "_law_scale"]) fun _ _ _ _ _ _ us hl => by obtain ⟨_, _, rfl⟩ := len_2 hl; rfl
  have m20 := PySem.W.mg_of X G a20
  have F21 := fun_mk (st := s_law_scaled) l21 c21 k21
  have b21 := F21.binds (ps := ["_law_box", "_law_scale"]) fun _ _ _ _ _ _ us hl => by obtain ⟨_, _, rfl⟩ := len_2 hl; rfl
  have m21 := PySem.W.mg_of X G a21
  have F22 := fun_mk (st := s_law_floor_of) l22 c22 k22
  have b22 := F22.binds (ps := ["_law_boxes", "_law_wide", "_law_high", "_law_scale"]) fun _ _ _ _ _ _ us hl => by obtain ⟨_, _, _, _, rfl⟩ := len_4 hl; rfl
  have m22 := PySem.W.mg_of X G a22
  have F23 := fun_mk (st := s_law_scale_by) l23 c23 k23
  have b23 := F23.binds (ps := ["_law_cell"]) fun _ _ _ _ _ _ us hl => by obtain ⟨_, rfl⟩ := len_1 hl; rfl
  have m23 := PySem.W.mg_of X G a23
  have F24 := fun_mk (st := s_law_built) l24 c24 k24
  have b24 := F24.binds (ps := ["_law_script", "_law_first", "_law_last", "_law_wide", "_law_high", "_law_most"]) fun _ _ _ _ _ _ us hl => by obtain ⟨_, _, _, _, _, _, rfl⟩ := len_6 hl; rfl
  have m24 := PySem.W.mg_of X G a24
  have F25 := fun_mk (st := s_law_side) l25 c25 k25
  have b25 := F25.binds (ps := ["_law_cell"]) fun _ _ _ _ _ _ us hl => by obtain ⟨_, rfl⟩ := len_1 hl; rfl
  have m25 := PySem.W.mg_of X G a25
  have F26 := fun_mk (st := s_law_raw) l26 c26 k26
  have b26 := F26.binds (ps := ["_law_script", "_law_k"]) fun _ _ _ _ _ _ us hl => by obtain ⟨_, _, rfl⟩ := len_2 hl; rfl
  have m26 := PySem.W.mg_of X G a26
  have F27 := fun_mk (st := s_law_joined) l27 c27 k27
  have b27 := F27.binds (ps := ["_law_pieces"]) fun _ _ _ _ _ _ us hl => by obtain ⟨_, rfl⟩ := len_1 hl; rfl
  have m27 := PySem.W.mg_of X G a27
  have F28 := fun_mk (st := s_law_hung_up) l28 c28 k28
  have b28 := F28.binds (ps := ["_law_script", "_law_most"]) fun _ _ _ _ _ _ us hl => by obtain ⟨_, _, rfl⟩ := len_2 hl; rfl
  have m28 := PySem.W.mg_of X G a28
  have F29 := fun_mk (st := s_law_above) l29 c29 k29
  have b29 := F29.binds (ps := ["_law_boxes", "_law_j", "_law_k"]) fun _ _ _ _ _ _ us hl => by obtain ⟨_, _, _, rfl⟩ := len_3 hl; rfl
  have m29 := PySem.W.mg_of X G a29
  have F30 := fun_mk (st := s_law_beside) l30 c30 k30
  have b30 := F30.binds (ps := ["_law_boxes", "_law_j", "_law_k"]) fun _ _ _ _ _ _ us hl => by obtain ⟨_, _, _, rfl⟩ := len_3 hl; rfl
  have m30 := PySem.W.mg_of X G a30
  have F31 := fun_mk (st := s_law_fitting) l31 c31 k31
  have b31 := F31.binds (ps := ["_law_boxes"]) fun _ _ _ _ _ _ us hl => by obtain ⟨_, rfl⟩ := len_1 hl; rfl
  have m31 := PySem.W.mg_of X G a31
  have F32 := fun_mk (st := s_law_done) l32 c32 k32
  have b32 := F32.binds (ps := ["_law_boxes", "_law_j", "_law_k"]) fun _ _ _ _ _ _ us hl => by obtain ⟨_, _, _, rfl⟩ := len_3 hl; rfl
  have m32 := PySem.W.mg_of X G a32
  have F33 := fun_mk (st := s_law_led) l33 c33 k33
  have b33 := F33.binds (ps := ["_law_boxes", "_law_steps"]) fun _ _ _ _ _ _ us hl => by obtain ⟨_, _, rfl⟩ := len_2 hl; rfl
  have m33 := PySem.W.mg_of X G a33
  have F34 := fun_mk (st := s_law_strolled) l34 c34 k34
  have b34 := F34.binds (ps := ["_law_script", "_law_boxes"]) fun _ _ _ _ _ _ us hl => by obtain ⟨_, _, rfl⟩ := len_2 hl; rfl
  have m34 := PySem.W.mg_of X G a34
  have F35 := fun_mk (st := sLaw) l35 c35 k35
  have F36 := fun_mk (st := sInit) l36 c36 k36
  have b36 := F36.binds (ps := ["self", "one", "other"]) fun _ _ _ _ _ _ us hl => by obtain ⟨_, _, _, rfl⟩ := len_3 hl; rfl
  have F37 := fun_mk (st := sToldA) l37 c37 k37
  have b37 := F37.binds (ps := ["self"]) fun _ _ _ _ _ _ us hl => by obtain ⟨_, rfl⟩ := len_1 hl; rfl
  have F38 := fun_mk (st := sToldB) l38 c38 k38
  have b38 := F38.binds (ps := ["self"]) fun _ _ _ _ _ _ us hl => by obtain ⟨_, rfl⟩ := len_1 hl; rfl
  have F39 := fun_mk (st := sFitsA) l39 c39 k39
  have b39 := F39.binds (ps := ["self", "floor"]) fun _ _ _ _ _ _ us hl => by obtain ⟨_, _, rfl⟩ := len_2 hl; rfl
  have F40 := fun_mk (st := sFitsB) l40 c40 k40
  have b40 := F40.binds (ps := ["self", "floor"]) fun _ _ _ _ _ _ us hl => by obtain ⟨_, _, rfl⟩ := len_2 hl; rfl
  have F41 := fun_mk (st := sDoneA) l41 c41 k41
  have b41 := F41.binds (ps := ["self", "floor"]) fun _ _ _ _ _ _ us hl => by obtain ⟨_, _, rfl⟩ := len_2 hl; rfl
  have F42 := fun_mk (st := sDoneB) l42 c42 k42
  have b42 := F42.binds (ps := ["self", "floor"]) fun _ _ _ _ _ _ us hl => by obtain ⟨_, _, rfl⟩ := len_2 hl; rfl
  have mC1 := PySem.W.mg_of X G aC1
  have mC2 := PySem.W.mg_of X G aC2
  have T1 : StC K C1 := ⟨⟨pg1, hd1, po1, sa1⟩, no1, nt1⟩
  have T2 : StC K C2 := ⟨⟨pg2, hd2, po2, sa2⟩, no2, nt2⟩
  have m_abs := PySem.W.mg_none_of X G z_abs
  have m_int := PySem.W.mg_none_of X G z_int
  have m_len := PySem.W.mg_none_of X G z_len
  have m_range := PySem.W.mg_none_of X G z_range
  have m_list := PySem.W.mg_none_of X G z_list
  have m_tuple := PySem.W.mg_none_of X G z_tuple
  have m_isinstance := PySem.W.mg_none_of X G z_isinstance
  have m_min := PySem.W.mg_none_of X G z_min
  have m_max := PySem.W.mg_none_of X G z_max
  have m_enumerate := PySem.W.mg_none_of X G z_enumerate
  have m_sorted := PySem.W.mg_none_of X G z_sorted
  refine ⟨PySem.W.fnOf "law" "law" (defArgs sLaw) (defBody sLaw) (defScope sLaw) .none kV35 dc35 pm35 an35 cd35 ct35, fun s v => .of_eq rfl, fun base _ _ => ?_⟩
  have O1 : FnOk l.prog w K mg base CX0 1 f1 _ ["one", "other"] spLess := ok_less F1  
  have O3 : FnOk l.prog w K mg base CX0 1 f3 _ ["count", "j", "k"] spPair := ok_pair F3  
  have O4 : FnOk l.prog w K mg base CX0 2 f4 _ ["rectangle", "level", "left", "right"] spTch := ok_touches F4 O1 b1 k1 m1 
  have O5 : FnOk l.prog w K mg base CX0 1 f5 _ ["one", "other"] spCL := ok_level F5  
  have O6 : FnOk l.prog w K mg base CX0 3 f6 _ ["rectangles", "j", "k"] (spTwoR abvR) := ok_above F6 O5 b5 k5 m5 O4 b4 k4 m4 m_enumerate
  have O7 : FnOk l.prog w K mg base CX0 1 f7 _ ["rectangles", "j", "k"] (spTwoR bsdR) := ok_beside F7  
  have O36 : FnOk l.prog w K mg base CX0 1 f36 _ ["self", "one", "other"] (spInit K) := ok_init F36
  have O37 : FnOk l.prog w K mg base CX0 1 f37 _ ["self"] (spTold C1 "above") := ok_toldA F37 T1
  have O38 : FnOk l.prog w K mg base CX0 1 f38 _ ["self"] (spTold C2 "beside") := ok_toldB F38 T2
  have O39 : FnOk l.prog w K mg base CX0 4 f39 _ ["self", "floor"] (spFits C1 abvR) := ok_fitsA F39 T1 O3 b3 k3 m3 O6 b6 k6 m6 m_len
  have O40 : FnOk l.prog w K mg base CX0 4 f40 _ ["self", "floor"] (spFits C2 bsdR) := ok_fitsB F40 T2 O3 b3 k3 m3 O7 b7 k7 m7 m_len
  have O12 : FnOk l.prog w K mg base CX0 5 f12 _ ["floor"] spFit := ok_fitting F12 T1 T2 ⟨mk1, a36, i36, kc1⟩ ⟨mk2, iB, i36, kc2⟩ mC1 mC2 O36 b36 O37 b37 ⟨a37, i37, k37⟩ O38 b38 ⟨a38, i38, k38⟩ O39 b39 ⟨a39, i39, k39⟩ O40 b40 ⟨a40, i40, k40⟩ m_len m_range m_tuple m_sorted
  have O2 : FnOk l.prog w K mg base CX0 2 f2 _ ["one", "other"] spRis := ok_rising F2 O1 b1 k1 m1 
  have O8 : FnOk l.prog w K mg base CX0 3 f8 _ ["one", "other"] spTog := ok_tog F8 O2 b2 k2 m2 
  have OC1 : FnOk l.prog w K mg base CX0 5 f9 _ ["step", "floor"] (spChkF C1 abvR) := ok_chkF F9 T1 O39 b39 ⟨a39, i39, k39⟩
  have OJ1 : FnOk l.prog w K mg base CX0 6 f10 _ ["step", "floor"] (spJn C1 abvR) := ok_joined F10 T1 OC1 b9 k9 m9 O8 b8 k8 m8 m_list m_tuple
  have O41 : FnOk l.prog w K mg base CX0 7 f41 _ ["self", "floor"] (spDn C1 abvR) := ok_doneA F41 OJ1 b10 k10 m10
  have OC2 : FnOk l.prog w K mg base CX0 5 f9 _ ["step", "floor"] (spChkF C2 bsdR) := ok_chkF F9 T2 O40 b40 ⟨a40, i40, k40⟩
  have OJ2 : FnOk l.prog w K mg base CX0 6 f10 _ ["step", "floor"] (spJn C2 bsdR) := ok_joined F10 T2 OC2 b9 k9 m9 O8 b8 k8 m8 m_list m_tuple
  have O42 : FnOk l.prog w K mg base CX0 7 f42 _ ["self", "floor"] (spDn C2 bsdR) := ok_doneB F42 OJ2 b10 k10 m10
  have O11 : FnOk l.prog w K mg base CX0 3 f11 _ ["told"] (spSO C1 C2) := ok_stepOf F11 T1 T2 ⟨mk1, a36, i36, kc1⟩ ⟨mk2, iB, i36, kc2⟩ mC1 mC2 O36 b36
  have O13 : FnOk l.prog w K mg base CX0 8 f13 _ ["floor"] spSet := ok_settled F13 T1 T2 O12 b12 k12 m12 O11 b11 k11 m11 O41 b41 ⟨a41, i41, k41⟩ O42 b42 ⟨a42, i42, k42⟩ m_tuple
  have O15 : FnOk l.prog w K mg base CX0 1 f15 _ ["_law_script", "_law_k"] (spCell K) := ok_cell F15  m_len
  have O16 : FnOk l.prog w K mg base CX0 1 f16 _ ["_law_top", "_law_bottom"] spLow := ok_low F16  m_abs
  have O18 : FnOk l.prog w K mg base CX0 1 f18 _ ["_law_low", "_law_high", "_law_cell"] spTwo := ok_two F18  
  have O17 : FnOk l.prog w K mg base CX0 1 f17 _ ["_law_box", "_law_x", "_law_y", "_law_way"] spWheel := ok_wheel F17  
  have O19 : FnOk l.prog w K mg base CX0 2 f19 _ ["_law_box", "_law_cell"] spBroken := ok_broken F19 O18 b18 k18 m18 O17 b17 k17 m17 
  have O20 : FnOk l.prog w K mg base CX0 2 f20 _ ["_law_number", "_law_scale"] spScO := ok_scO F20 O16 b16 k16 m16 
  have O21 : FnOk l.prog w K mg base CX0 3 f21 _ ["_law_box", "_law_scale"] spScd := ok_scd F21 O20 b20 k20 m20 m_tuple
  have O22 : FnOk l.prog w K mg base CX0 4 f22 _ ["_law_boxes", "_law_wide", "_law_high", "_law_scale"] spFlo := ok_flo F22 O20 b20 k20 m20 O21 b21 k21 m21 m_tuple
  have O23 : FnOk l.prog w K mg base CX0 2 f23 _ ["_law_cell"] spScB := ok_scb F23 O16 b16 k16 m16 
  have O24 : FnOk l.prog w K mg base CX0 3 f24 _ ["_law_script", "_law_first", "_law_last", "_law_wide", "_law_high", "_law_most"] (spBuilt K) := ok_built F24 O15 b15 k15 m15 O19 b19 k19 m19 m_len m_min m_range
  have O25 : FnOk l.prog w K mg base CX0 1 f25 _ ["_law_cell"] spSide := ok_side F25  
  have O26 : FnOk l.prog w K mg base CX0 1 f26 _ ["_law_script", "_law_k"] (spRaw K) := ok_raw F26  m_len
  have O27 : FnOk l.prog w K mg base CX0 1 f27 _ ["_law_pieces"] spLJ := ok_ljoin F27  
  have O28 : FnOk l.prog w K mg base CX0 2 f28 _ ["_law_script", "_law_most"] (spHU K 10) := ok_hung F28 O26 b26 k26 m26 O27 b27 k27 m27 m_len m_max m_int
  have O29 : FnOk l.prog w K mg base CX0 1 f29 _ ["_law_boxes", "_law_j", "_law_k"] (spTwoI abvI) := ok_labove F29  m_len m_max m_enumerate
  have O30 : FnOk l.prog w K mg base CX0 1 f30 _ ["_law_boxes", "_law_j", "_law_k"] (spTwoI bsdI) := ok_lbeside F30  m_len
  have O31 : FnOk l.prog w K mg base CX0 2 f31 _ ["_law_boxes"] spLF := ok_lfit F31 O29 b29 k29 m29 O30 b30 k30 m30 m_len m_range m_tuple m_sorted
  have O32 : FnOk l.prog w K mg base CX0 1 f32 _ ["_law_boxes", "_law_j", "_law_k"] spLD := ok_ldone F32  m_min m_max
  have OSL : FnOk l.prog w K mg base CX0 3 f33 _ ["_law_boxes", "_law_steps"] (spLed fun ps H xs => isLstA ps H xs) := ok_ledL F33 O31 b31 k31 m31 O32 b32 k32 m32 m_isinstance m_tuple m_len
  have OST : FnOk l.prog w K mg base CX0 3 f33 _ ["_law_boxes", "_law_steps"] (spLed fun ps H xs => isTupA ps H xs) := ok_ledT F33 O31 b31 k31 m31 O32 b32 k32 m32 m_isinstance m_tuple m_len
  have O34 : FnOk l.prog w K mg base CX0 3 f34 _ ["_law_script", "_law_boxes"] (spStl K) := ok_stroll F34 O31 b31 k31 m31 O32 b32 k32 m32 O15 b15 k15 m15 m_len
  have O14 : FnOk l.prog w K mg base CX0 8 f14 _ ["floor", "steps"] spWk := ok_walked F14 T1 T2 O11 b11 k11 m11 O41 b41 ⟨a41, i41, k41⟩ O42 b42 ⟨a42, i42, k42⟩
  exact ok_law F35 O15 b15 k15 m15 O25 b25 k25 m25 O24 b24 k24 m24 O23 b23 k23 m23 O22 b22 k22 m22 O13 b13 k13 m13 O26 b26 k26 m26 O28 b28 k28 m28 O31 b31 k31 m31 O34 b34 k34 m34 O14 b14 k14 m14 OSL OST b33 k33 m33 m_len m_isinstance m_tuple
theorem walk {l : PySem.W.OpenLaw} {q : Program} {loose : List Str} {XP : (Str → Option Value) → Heap → Prop} {YP : World → Heap → Prop} {d : DefRec} {K : Params → PySem.W.Frag} (hn : l.most = some 63) (hdf : d.params.defaults = [])
    (hY : ∀ (w : World) (h : Heap), YP w h → (K w.params).In h)
    (F : ∀ (w : World) (mg : Str → Option Value) (fa : Addr) (h : Heap), (K w.params).In h → h.Ns mainGlobals mg → mg d.name = some (.ref fa) →
      ∃ fd : FuncData, (∀ (s : Shared) (u : Value), BindsTo s fd ⟨[u], []⟩ [("_law_script", u)]) ∧ ∀ base : Heap, (K w.params).In base → base.Ns mainGlobals mg → FnOk l.prog w (K w.params) mg base CX0 9 fa fd ["_law_script"] (spLaw (K w.params))) :
    PySem.W.WalkO q loose XP YP l.row.toRowW d [] (fun f vs => PySem.call f vs) :=
  L2.walk_of (n := 63) (k := 9) (x := "_law_script") (CX := fun _ => CX0) (sp := fun w => spLaw (K w.params)) hn (by decide) hdf ⟨rfl, by decide, by decide⟩ hY F (fun _ _ a ns hl _ hS => ⟨a, ns, rfl, hS, hl, fun _ => rfl⟩) fun _ _ _ _ _ z => z
end My
namespace PySem.W.Fast
theorem tw16420045632302922982:True:=trivial
theorem tw2675609441475644142:True:=trivial
theorem tw8837985142877274436:True:=trivial
theorem tw3190271052312940358:True:=trivial
theorem tw5636985269031511005:True:=trivial
theorem tw15163502395750275690:True:=trivial
theorem tw10173086626429836431:True:=trivial
theorem tw18382364622312512987:True:=trivial
theorem tw9949781085585889739:True:=trivial
theorem tw17204866110110220836:True:=trivial
theorem tw16245847357686548866:True:=trivial
theorem tw13500882879441114033:True:=trivial
theorem tw5539644026865046522:True:=trivial
theorem tw15301813461695419674:True:=trivial
theorem tw17421126605297610329:True:=trivial
theorem tw6723801748943252879:True:=trivial
theorem tw8200525700481481023:True:=trivial
theorem tw10966487496811851831:True:=trivial
theorem tw9676945606263569543:True:=trivial
theorem tw2996368390781391087:True:=trivial
theorem tw12264567962362233043:True:=trivial
theorem tw13989045057409923237:True:=trivial
theorem tw6773827724249888496:True:=trivial
theorem tw17584214151544504063:True:=trivial
theorem tw15357440034710164275:True:=trivial
theorem tw12576159301767610250:True:=trivial
theorem tw10514079580918094118:True:=trivial
theorem tw11196773841891373413:True:=trivial
theorem tw3543385490453015039:True:=trivial
theorem tw11695851228266453566:True:=trivial
theorem tw9373124896731221254:True:=trivial
theorem tw10070451972943824879:True:=trivial
theorem tw16836127181347450987:True:=trivial
theorem tw14239196415869833186:True:=trivial
theorem tw16546099752883636043:True:=trivial
theorem tw5039038059190097434:True:=trivial
theorem tw13156008187297209442:True:=trivial
theorem tw3728229097907557500:True:=trivial
theorem tw5745751540931058193:True:=trivial
theorem tw11233414296778958108:True:=trivial
theorem tw13333308560786123152:True:=trivial
theorem tw15209720008360869465:True:=trivial
theorem tw11807562217062053509:True:=trivial
theorem tw956645898945141708:True:=trivial
theorem tw15424525286339538899:True:=trivial
theorem tw15152021964116273157:True:=trivial
theorem tw2792734824706851829:True:=trivial
theorem tw11279734090918485693:True:=trivial
theorem tw17622573527551252202:True:=trivial
theorem tw6277272560818959607:True:=trivial
theorem tw15843203509836841686:True:=trivial
theorem tw16629558683235309786:True:=trivial
theorem tw13183128750425097517:True:=trivial
theorem tw10421471427047776472:True:=trivial
theorem tw6935067268459015317:True:=trivial
theorem tw5184382059173544336:True:=trivial
theorem tw5282949615998681636:True:=trivial
theorem tw14458604720955936124:True:=trivial
theorem tw6403012709735307923:True:=trivial
theorem tw11305690812826778143:True:=trivial
theorem tw17409337159707007009:True:=trivial
theorem tw16765462262726783578:True:=trivial
theorem tw10709164702167471798:True:=trivial
theorem tw762877393418292288:True:=trivial
theorem tw15882196516522456732:True:=trivial
theorem te13424146535812483385:True:=trivial
theorem tw17904195335126023374:True:=trivial
theorem tw3620282362190289705:True:=trivial
theorem tw4837465194669918640:True:=trivial
theorem tw9901484019625571439:True:=trivial
theorem tw7737527965471854246:True:=trivial
theorem tw17204034519591931667:True:=trivial
theorem tw13988861700519008416:True:=trivial
theorem tw4470178061951323570:True:=trivial
theorem tw9695848301442169738:True:=trivial
theorem tw14218890516545166229:True:=trivial
theorem tw7702294208493856744:True:=trivial
theorem tw13499362084256289409:True:=trivial
theorem tw3300941449206460132:True:=trivial
theorem tw16927365263874547151:True:=trivial
theorem tw6780371355665476123:True:=trivial
theorem tw9316212237499041956:True:=trivial
theorem tw17139159068222959345:True:=trivial
theorem tw10257861723475948767:True:=trivial
theorem tw17039910847176550281:True:=trivial
theorem tw11314930874587195869:True:=trivial
theorem tw9093172295456076323:True:=trivial
theorem tw11094551438852256639:True:=trivial
theorem tw8472513830355015696:True:=trivial
theorem tw2537883530935855611:True:=trivial
theorem tw3564519744375394263:True:=trivial
theorem tw7697065595177650207:True:=trivial
theorem tw17329715777545279395:True:=trivial
theorem tw7579434410782652665:True:=trivial
theorem tw13348779196572269472:True:=trivial
theorem tw3460432507255100877:True:=trivial
theorem tw6922982422202520548:True:=trivial
theorem tw17431950411299026841:True:=trivial
theorem tw10220023435875461963:True:=trivial
theorem tw12922524847153510938:True:=trivial
theorem tw13766115349360433320:True:=trivial
theorem tw15780056710067237599:True:=trivial
theorem tw1288084121382140390:True:=trivial
theorem tw14934774150351786857:True:=trivial
theorem tw401871687211321625:True:=trivial
theorem tw4972947144038255310:True:=trivial
theorem tw1063925764283217932:True:=trivial
theorem tw10242555918508718343:True:=trivial
theorem tw16774003566815922666:True:=trivial
theorem tw18199309470425042197:True:=trivial
theorem tw8739131719438825762:True:=trivial
theorem tw4353607587365455970:True:=trivial
theorem tw12925225319296469918:True:=trivial
theorem tw9605610339422700730:True:=trivial
theorem tw16612373407225337209:True:=trivial
theorem tw16478689081612268412:True:=trivial
theorem tw1114800433285712101:True:=trivial
theorem tw3126448123211163964:True:=trivial
theorem tw10040681678235418358:True:=trivial
theorem tw11199249527322658114:True:=trivial
theorem tw4006229656779019085:True:=trivial
theorem tw88772052937056093:True:=trivial
theorem tw12363961741321487558:True:=trivial
theorem tw13345195909378243260:True:=trivial
theorem tw11543308524000068261:True:=trivial
theorem tw6207589611788102861:True:=trivial
theorem tw15095771021413349161:True:=trivial
theorem tw11323580792157969561:True:=trivial
theorem tw2667723140779395916:True:=trivial
theorem tw1757217190137090808:True:=trivial
theorem tw9772329624921193826:True:=trivial
theorem tw13998935971758464108:True:=trivial
theorem tw5408845360913217797:True:=trivial
theorem tw6975164800138737988:True:=trivial
theorem tw2960801793661877176:True:=trivial
theorem tw15936693654688041492:True:=trivial
theorem tw2123478574521596498:True:=trivial
theorem tw2426460107026013639:True:=trivial
theorem tw889932037046322501:True:=trivial
theorem tw10418230693740434200:True:=trivial
theorem tw9432672382066396619:True:=trivial
theorem tw16242777386019297780:True:=trivial
theorem tw17817926596931506008:True:=trivial
theorem tw3428349311410939565:True:=trivial
theorem tw5098883256360753886:True:=trivial
theorem tw498488931273259408:True:=trivial
theorem tw9670262890461339410:True:=trivial
theorem tw6252417869419859597:True:=trivial
theorem tw13559316446302438060:True:=trivial
theorem tw2836318903955548205:True:=trivial
theorem tw8461033191529949113:True:=trivial
theorem tw11083529107433093652:True:=trivial
theorem tw11078677229868562431:True:=trivial
theorem tw11621333510110355143:True:=trivial
theorem tw8073285450173672436:True:=trivial
theorem tw1849665993993813110:True:=trivial
theorem tw16633869529292404213:True:=trivial
theorem tw5685523915590298218:True:=trivial
theorem tw16046175678052846942:True:=trivial
theorem tw9862641026574405120:True:=trivial
theorem tw15106399016488638010:True:=trivial
theorem tw2066838543446429100:True:=trivial
theorem tw643163202354848964:True:=trivial
theorem tw10554548779672499597:True:=trivial
theorem tw14393314868986565983:True:=trivial
theorem tw7467475138044371007:True:=trivial
theorem tw5326564553576516309:True:=trivial
theorem tw8175823996015694517:True:=trivial
theorem tw14861032351198027590:True:=trivial
theorem tw16078720048904628844:True:=trivial
theorem tw6468492820990505078:True:=trivial
theorem tw1944465873531341841:True:=trivial
theorem tw15151299981924581294:True:=trivial
theorem tw3161748192670285101:True:=trivial
theorem tw12875427402797925225:True:=trivial
theorem tw10725015827827789781:True:=trivial
theorem tw16051652003603483205:True:=trivial
theorem tw14546740652225686639:True:=trivial
theorem tw9768375344503858834:True:=trivial
theorem tw5282163975607282140:True:=trivial
theorem tw2480866763212469798:True:=trivial
theorem tw12474852830984322322:True:=trivial
theorem tw14522673838645327622:True:=trivial
theorem tw6395587290048611923:True:=trivial
theorem tw4871069306118764917:True:=trivial
theorem tw12644488502538524291:True:=trivial
theorem tw5544925489942531615:True:=trivial
theorem tw15458967941279674181:True:=trivial
theorem tw10531861710035611923:True:=trivial
theorem tw5519105753420633457:True:=trivial
theorem tw12842156653105865267:True:=trivial
theorem tw9228079178614300648:True:=trivial
theorem tw10327702979935237530:True:=trivial
theorem tw10598217030225940646:True:=trivial
theorem tw17523170425148072957:True:=trivial
theorem tw2829841394896243134:True:=trivial
theorem tw17033922844790636021:True:=trivial
theorem tw16878941196726571580:True:=trivial
theorem tw7008877988885178320:True:=trivial
theorem tw15013389277190526887:True:=trivial
theorem tw16012690848432728185:True:=trivial
theorem tw18403034903357793409:True:=trivial
theorem tw18185300330320628665:True:=trivial
theorem tw8405547337207829729:True:=trivial
theorem tw13405602182984441918:True:=trivial
theorem tw1098487378947836395:True:=trivial
theorem tw16848255894618500336:True:=trivial
theorem tw10451434924016628132:True:=trivial
theorem tw3014285903511478775:True:=trivial
theorem tw1554427410623548949:True:=trivial
theorem tw387499219637387579:True:=trivial
theorem tw16875192576094856150:True:=trivial
theorem tw10028495747405003902:True:=trivial
theorem tw6464705579071498255:True:=trivial
theorem tw9405960269499285622:True:=trivial
theorem tw16038780019188367835:True:=trivial
theorem tw1086997962089981968:True:=trivial
theorem tw13821661294177854299:True:=trivial
theorem tw7520544201222594621:True:=trivial
theorem tw4344713061741856716:True:=trivial
theorem tw15592909528229279091:True:=trivial
theorem tw6998129668755419899:True:=trivial
theorem tw3732828912485827459:True:=trivial
theorem tw11963446303105149904:True:=trivial
theorem tw1085701819596509294:True:=trivial
theorem tw4782451506801355320:True:=trivial
theorem tw14395381674092958458:True:=trivial
theorem tw11592550142040605662:True:=trivial
theorem tw991109931308423302:True:=trivial
theorem tw9972479972005908060:True:=trivial
theorem tw16377712223398322206:True:=trivial
theorem tw7950751618952720783:True:=trivial
theorem tw7564891925151696943:True:=trivial
theorem tw14487377723078982457:True:=trivial
theorem tw15793896574052004538:True:=trivial
theorem tw15165190996785024601:True:=trivial
theorem tw4527737196160729192:True:=trivial
theorem tw3063989252336771840:True:=trivial
theorem tw3249647041997791751:True:=trivial
theorem tw12187587093230791609:True:=trivial
theorem tw13671563101174172240:True:=trivial
theorem tw17230690934826458905:True:=trivial
theorem tw1358693897983977812:True:=trivial
theorem tw3124150772140410451:True:=trivial
theorem tw12532926877020946256:True:=trivial
theorem tw8478470059394001814:True:=trivial
theorem tw17285075121857516893:True:=trivial
theorem tw15020454752180722416:True:=trivial
theorem tw12614820176221472487:True:=trivial
theorem tw12216186388146795172:True:=trivial
theorem tw5047006943551237913:True:=trivial
theorem tw17179698703022327984:True:=trivial
theorem tw9277283026081995093:True:=trivial
theorem tw15375979172430135587:True:=trivial
theorem tw14448719446066332938:True:=trivial
theorem tw15652841378980247807:True:=trivial
theorem tw7346065970914581892:True:=trivial
theorem tw10809527937990522771:True:=trivial
theorem tw17522160210462547540:True:=trivial
theorem tw6113357594995112578:True:=trivial
theorem tw17144295334287720529:True:=trivial
theorem tw3705520589964866466:True:=trivial
theorem tw7653537507747038290:True:=trivial
theorem tw10301681399081629101:True:=trivial
theorem tw2355981883077105236:True:=trivial
theorem tw14581343212484663365:True:=trivial
theorem tw7429808395834334476:True:=trivial
theorem tw1908174916772830964:True:=trivial
theorem tw16994747413485970474:True:=trivial
theorem tw14479361843718470204:True:=trivial
theorem tw8080107584991764737:True:=trivial
theorem tw4808800563884216837:True:=trivial
theorem tw16825276295365521059:True:=trivial
theorem tw3409878416225278330:True:=trivial
theorem tw14406957758881214084:True:=trivial
theorem tw11576101991195106999:True:=trivial
theorem tw7164507502706233340:True:=trivial
theorem tw13521324795019743569:True:=trivial
theorem tw1600142334682449418:True:=trivial
theorem tw8101548671104900602:True:=trivial
theorem tw9099846557507712367:True:=trivial
theorem tw16065039881092007133:True:=trivial
theorem tw4658037059469368458:True:=trivial
theorem tw7317670958567977293:True:=trivial
theorem tw2439072513360259212:True:=trivial
theorem tw169007350102907147:True:=trivial
theorem tw12578526052251365845:True:=trivial
theorem tw4288315063035112135:True:=trivial
theorem tw6137668670058159868:True:=trivial
theorem tw13200111473804697029:True:=trivial
theorem tw2126725942293101636:True:=trivial
theorem tw9946310682522761603:True:=trivial
theorem tw8552873743180200210:True:=trivial
theorem tw6195195413479364396:True:=trivial
theorem tw10594581094153259040:True:=trivial
theorem tw5839106542835453601:True:=trivial
theorem tw17076598966843413187:True:=trivial
theorem tw8577308674362816092:True:=trivial
theorem tw4095645867416635458:True:=trivial
theorem tw4355073530442616220:True:=trivial
theorem tw12702283728739914380:True:=trivial
theorem tw5005939646862107565:True:=trivial
theorem tw5641543029706283107:True:=trivial
theorem tw5752034538493663698:True:=trivial
theorem tw6943175725428250152:True:=trivial
theorem tw6721917381078780398:True:=trivial
theorem tw8762313737002787654:True:=trivial
theorem tw228292779216508040:True:=trivial
theorem tw4469323466928676510:True:=trivial
theorem tw15838668051452351502:True:=trivial
theorem tw6642009738081153832:True:=trivial
theorem tw3241180985841056210:True:=trivial
theorem tw8505710044602675249:True:=trivial
theorem tw2529343604054516838:True:=trivial
end PySem.W.Fast
open PySem PySem.W PyProof.Rows
set_option maxRecDepth 100000 in
set_option maxHeartbeats 0 in
theorem PySem.Challenge.cw_currentfloor_k42_whole_one_end_holds : PySem.Challenge.rw_currentfloor_k42_whole_one_end.Holds := by
  w_on; o_law; k_head; (case hw => w_witness2)
  k_fill
  refine My.walk (l := PySem.Challenge.rw_currentfloor_k42_whole_one_end) rfl rfl (fun w h Y => PySem.W.kIn_of Y) ?F
  case F =>
    intro w mg fa h KX G hmg
    refine' My.all_mk KX G hmg ?a1 ?l1 ?c1 ?k1 ?a2 ?l2 ?c2 ?k2 ?a3 ?l3 ?c3 ?k3 ?a4 ?l4 ?c4 ?k4 ?a5 ?l5 ?c5 ?k5 ?a6 ?l6 ?c6 ?k6 ?a7 ?l7 ?c7 ?k7 ?a8 ?l8 ?c8 ?k8 ?a9 ?l9 ?c9 ?k9 ?a10 ?l10 ?c10 ?k10 ?a11 ?l11 ?c11 ?k11 ?a12 ?l12 ?c12 ?k12 ?a13 ?l13 ?c13 ?k13 ?a14 ?l14 ?c14 ?k14 ?a15 ?l15 ?c15 ?k15 ?a16 ?l16 ?c16 ?k16 ?a17 ?l17 ?c17 ?k17 ?a18 ?l18 ?c18 ?k18 ?a19 ?l19 ?c19 ?k19 ?a20 ?l20 ?c20 ?k20 ?a21 ?l21 ?c21 ?k21 ?a22 ?l22 ?c22 ?k22 ?a23 ?l23 ?c23 ?k23 ?a24 ?l24 ?c24 ?k24 ?a25 ?l25 ?c25 ?k25 ?a26 ?l26 ?c26 ?k26 ?a27 ?l27 ?c27 ?k27 ?a28 ?l28 ?c28 ?k28 ?a29 ?l29 ?c29 ?k29 ?a30 ?l30 ?c30 ?k30 ?a31 ?l31 ?c31 ?k31 ?a32 ?l32 ?c32 ?k32 ?a33 ?l33 ?c33 ?k33 ?a34 ?l34 ?c34 ?k34 ?a35 ?l35 ?c35 ?k35 ?a36 ?i36 ?l36 ?c36 ?k36 ?a37 ?i37 ?l37 ?c37 ?k37 ?a38 ?i38 ?l38 ?c38 ?k38 ?a39 ?i39 ?l39 ?c39 ?k39 ?a40 ?i40 ?l40 ?c40 ?k40 ?a41 ?i41 ?l41 ?c41 ?k41 ?a42 ?i42 ?l42 ?c42 ?k42 ?aC1 ?pg1 ?hd1 ?po1 ?sa1 ?mk1 ?kc1 ?no1 ?nt1 ?aC2 ?pg2 ?hd2 ?po2 ?sa2 ?mk2 ?kc2 ?no2 ?nt2 ?iB ?z_abs ?z_int ?z_len ?z_range ?z_list ?z_tuple ?z_isinstance ?z_min ?z_max ?z_enumerate ?z_sorted
    (case aC1 => k_is)
    (case aC2 => k_is)
    (case a1 => k_is)
    (case l1 => k_is)
    (case c1 => k_is)
    (case k1 => k_is)
    (case a2 => k_is)
    (case l2 => k_is)
    (case c2 => k_is)
    (case k2 => k_is)
    (case a3 => k_is)
    (case l3 => k_is)
    (case c3 => k_is)
    (case k3 => k_is)
    (case a4 => k_is)
    (case l4 => k_is)
    (case c4 => k_is)
    (case k4 => k_is)
    (case a5 => k_is)
    (case l5 => k_is)
    (case c5 => k_is)
    (case k5 => k_is)
    (case a6 => k_is)
    (case l6 => k_is)
    (case c6 => k_is)
    (case k6 => k_is)
    (case a7 => k_is)
    (case l7 => k_is)
    (case c7 => k_is)
    (case k7 => k_is)
    (case a8 => k_is)
    (case l8 => k_is)
    (case c8 => k_is)
    (case k8 => k_is)
    (case a9 => k_is)
    (case l9 => k_is)
    (case c9 => k_is)
    (case k9 => k_is)
    (case a10 => k_is)
    (case l10 => k_is)
    (case c10 => k_is)
    (case k10 => k_is)
    (case a11 => k_is)
    (case l11 => k_is)
    (case c11 => k_is)
    (case k11 => k_is)
    (case a12 => k_is)
    (case l12 => k_is)
    (case c12 => k_is)
    (case k12 => k_is)
    (case a13 => k_is)
    (case l13 => k_is)
    (case c13 => k_is)
    (case k13 => k_is)
    (case a14 => k_is)
    (case l14 => k_is)
    (case c14 => k_is)
    (case k14 => k_is)
    (case a15 => k_is)
    (case l15 => k_is)
    (case c15 => k_is)
    (case k15 => k_is)
    (case a16 => k_is)
    (case l16 => k_is)
    (case c16 => k_is)
    (case k16 => k_is)
    (case a17 => k_is)
    (case l17 => k_is)
    (case c17 => k_is)
    (case k17 => k_is)
    (case a18 => k_is)
    (case l18 => k_is)
    (case c18 => k_is)
    (case k18 => k_is)
    (case a19 => k_is)
    (case l19 => k_is)
    (case c19 => k_is)
    (case k19 => k_is)
    (case a20 => k_is)
    (case l20 => k_is)
    (case c20 => k_is)
    (case k20 => k_is)
    (case a21 => k_is)
    (case l21 => k_is)
    (case c21 => k_is)
    (case k21 => k_is)
    (case a22 => k_is)
    (case l22 => k_is)
    (case c22 => k_is)
    (case k22 => k_is)
    (case a23 => k_is)
    (case l23 => k_is)
    (case c23 => k_is)
    (case k23 => k_is)
    (case a24 => k_is)
    (case l24 => k_is)
    (case c24 => k_is)
    (case k24 => k_is)
    (case a25 => k_is)
    (case l25 => k_is)
    (case c25 => k_is)
    (case k25 => k_is)
    (case a26 => k_is)
    (case l26 => k_is)
    (case c26 => k_is)
    (case k26 => k_is)
    (case a27 => k_is)
    (case l27 => k_is)
    (case c27 => k_is)
    (case k27 => k_is)
    (case a28 => k_is)
    (case l28 => k_is)
    (case c28 => k_is)
    (case k28 => k_is)
    (case a29 => k_is)
    (case l29 => k_is)
    (case c29 => k_is)
    (case k29 => k_is)
    (case a30 => k_is)
    (case l30 => k_is)
    (case c30 => k_is)
    (case k30 => k_is)
    (case a31 => k_is)
    (case l31 => k_is)
    (case c31 => k_is)
    (case k31 => k_is)
    (case a32 => k_is)
    (case l32 => k_is)
    (case c32 => k_is)
    (case k32 => k_is)
    (case a33 => k_is)
    (case l33 => k_is)
    (case c33 => k_is)
    (case k33 => k_is)
    (case a34 => k_is)
    (case l34 => k_is)
    (case c34 => k_is)
    (case k34 => k_is)
    (case a35 => k_is)
    (case l35 => k_is)
    (case c35 => k_is)
    (case k35 => k_is)
    (case a36 => k_is)
    (case i36 => k_is)
    (case l36 => k_is)
    (case c36 => k_is)
    (case k36 => k_is)
    (case a37 => k_is)
    (case i37 => k_is)
    (case l37 => k_is)
    (case c37 => k_is)
    (case k37 => k_is)
    (case a38 => k_is)
    (case i38 => k_is)
    (case l38 => k_is)
    (case c38 => k_is)
    (case k38 => k_is)
    (case a39 => k_is)
    (case i39 => k_is)
    (case l39 => k_is)
    (case c39 => k_is)
    (case k39 => k_is)
    (case a40 => k_is)
    (case i40 => k_is)
    (case l40 => k_is)
    (case c40 => k_is)
    (case k40 => k_is)
    (case a41 => k_is)
    (case i41 => k_is)
    (case l41 => k_is)
    (case c41 => k_is)
    (case k41 => k_is)
    (case a42 => k_is)
    (case i42 => k_is)
    (case l42 => k_is)
    (case c42 => k_is)
    (case k42 => k_is)
    (case pg1 => k_is)
    (case hd1 => k_is)
    (case po1 => k_is)
    (case sa1 => k_is)
    (case mk1 => k_is)
    (case kc1 => k_is)
    (case no1 => k_is)
    (case nt1 => k_is)
    (case pg2 => k_is)
    (case hd2 => k_is)
    (case po2 => k_is)
    (case sa2 => k_is)
    (case mk2 => k_is)
    (case kc2 => k_is)
    (case no2 => k_is)
    (case nt2 => k_is)
    (case iB => k_is)
    (case z_abs => k_is)
    (case z_int => k_is)
    (case z_len => k_is)
    (case z_range => k_is)
    (case z_list => k_is)
    (case z_tuple => k_is)
    (case z_isinstance => k_is)
    (case z_min => k_is)
    (case z_max => k_is)
    (case z_enumerate => k_is)
    (case z_sorted => k_is)
