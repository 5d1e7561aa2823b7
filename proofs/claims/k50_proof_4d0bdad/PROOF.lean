import PyProof.Rows.All
import Wide.All
import OpenK.AllK
import Wide.FinOn
import Lean
import PyProof.EqAt
import PyProof.EqKinds
import PyProof.TupleCall
import PySem.Challenge.RW_currentfloor_k50_brought
set_option Elab.async false
set_option linter.all false
set_option maxRecDepth 100000
/-! THE HAND LAYER, for ints, bools, texts, own classes, LISTS and tuples (index, slices, in, append, pop ..), calls, loops. Paste it whole ahead of your own text; what your proof does not reach may be deleted. -/
namespace L2
open PySem PySem.Spec PyProof.Rows

/-- a key: an int or a str -/
abbrev Key := Sum Int Str
def keyIs : Key → Value → Bool
  | .inl k, v => Value.isInt k v
  | .inr x, v => Value.isStrOf x v
def keyH (w : World) : Key → Int
  | .inl k => hashInt k
  | .inr x => hashStr w x
theorem keyIs_shape : ∀ {k : Key} {v : Value}, keyIs k v = true → (∃ i t, k = Sum.inl i ∧ v = Value.int i t) ∨ (∃ x t, k = Sum.inr x ∧ v = Value.str x t)
  | .inl i, v, h => by
    obtain ⟨t, e⟩ := Value.isInt_shape (k := i) (v := v) h
    exact .inl ⟨i, t, rfl, e⟩
  | .inr x, v, h => by
    obtain ⟨t, e⟩ := Value.isStrOf_shape (x := x) (v := v) h
    exact .inr ⟨x, t, rfl, e⟩
theorem key_ll (a b : Int) : decide ((Sum.inl a : Key) = Sum.inl b) = (a == b) := by
  by_cases e : a = b
  · subst e; simp
  · have h : ¬ (Sum.inl a : Key) = Sum.inl b := fun q => e (Sum.inl.inj q)
    rw [decide_eq_false h]
    exact (beq_eq_false_iff_ne.mpr e).symm
theorem key_rr (a b : Str) : decide ((Sum.inr a : Key) = Sum.inr b) = decide (a = b) := by
  by_cases e : a = b
  · subst e; simp
  · have h : ¬ (Sum.inr a : Key) = Sum.inr b := fun q => e (Sum.inr.inj q)
    rw [decide_eq_false h, decide_eq_false e]
theorem key_lr (a : Int) (b : Str) : decide ((Sum.inl a : Key) = Sum.inr b) = false := decide_eq_false (fun q => nomatch q)
theorem key_rl (a : Str) (b : Int) : decide ((Sum.inr a : Key) = Sum.inl b) = false := decide_eq_false (fun q => nomatch q)

def mixKind (prog : Program) (w : World) : PySem.KeyKind prog w Key where
  is := keyIs
  hash := keyH w
  inj := fun v a b ha hb => by
    rcases keyIs_shape ha with ⟨i, t, rfl, rfl⟩ | ⟨x, t, rfl, rfl⟩
    · rcases keyIs_shape hb with ⟨j, u, rfl, e⟩ | ⟨y, u, rfl, e⟩
      · injection e with e1 _; rw [e1]
      · exact nomatch e
    · rcases keyIs_shape hb with ⟨j, u, rfl, e⟩ | ⟨y, u, rfl, e⟩
      · exact nomatch e
      · injection e with e1 _; rw [e1]
  byValue := fun k v h => by
    rcases keyIs_shape h with ⟨i, t, rfl, rfl⟩ | ⟨x, t, rfl, rfl⟩ <;> rfl
  pyHash := fun hv h => by
    rcases keyIs_shape hv with ⟨i, t, rfl, rfl⟩ | ⟨x, t, rfl, rfl⟩
    · exact wpAny_pyHash_int h
    · exact wpAny_pyHash_str h
  eqBool := fun hu hv h => by
    rcases keyIs_shape hu with ⟨i, t, rfl, rfl⟩ | ⟨x, t, rfl, rfl⟩
    · rcases keyIs_shape hv with ⟨j, u, rfl, rfl⟩ | ⟨y, u, rfl, rfl⟩
      · rw [key_ll] at h; exact wpAny_eqBool_int h
      · rw [key_lr] at h; exact SeqAt.EqAt.int_str i t y u _ _ _ _ h
    · rcases keyIs_shape hv with ⟨j, u, rfl, rfl⟩ | ⟨y, u, rfl, rfl⟩
      · rw [key_rl] at h; exact SeqAt.EqAt.str_int x t j u _ _ _ _ h
      · rw [key_rr] at h; exact wpAny_eqBool_str h
  «strs» := fun k x t v h => by
    rcases keyIs_shape h with ⟨i, u, rfl, e⟩ | ⟨y, u, rfl, e⟩
    · exact nomatch e
    · injection e with e1 _
      subst e1
      cases v <;> rfl

end L2

namespace L2
open PySem PySem.Spec PyProof.Rows

/-- a value, without the heap -/
inductive V where
  | non | bl (b : Bool) | int (i : Int) | str (x : Str) | byt (b : Array UInt8) | flt (b : UInt64) | ref (a : Addr) | ty (n : String)
  deriving DecidableEq

def RelV : V → Value → Prop
  | .non, u => u = Value.none
  | .bl b, u => u = Value.bool b
  | .int i, u => ∃ t, u = Value.int i t
  | .str x, u => ∃ t, u = Value.str x t
  | .byt b, u => ∃ t, u = Value.bytes b t
  | .flt b, u => ∃ t, u = Value.float b t
  | .ref a, u => u = Value.ref a
  | .ty n, u => u = Value.type n

abbrev Vals : List V → List Value → Prop := Paired RelV
theorem Vals.length {xs : List V} {us : List Value} (r : Vals xs us) : xs.length = us.length := Paired.length r
theorem Vals.get : ∀ {xs : List V} {us : List Value} {i : Nat} {x : V}, Vals xs us → xs[i]? = some x → ∃ u, us[i]? = some u ∧ RelV x u
  | _, _, _, _, .nil, e => by simp at e
  | _, _, 0, _, .cons r _, e => by simp at e; subst e; exact ⟨_, rfl, r⟩
  | _, _, i + 1, x, .cons _ t, e => by
    obtain ⟨u, h1, h2⟩ := Vals.get (i := i) (x := x) t (by simpa using e)
    exact ⟨u, by simpa using h1, h2⟩
theorem Vals.set {x : V} {u : Value} (r : RelV x u) : ∀ {xs : List V} {us : List Value} (i : Nat), Vals xs us → Vals (xs.set i x) (us.set i u)
  | _, _, _, .nil => .nil
  | _, _, 0, .cons _ t => .cons r t
  | _, _, i + 1, .cons q t => .cons q (Vals.set r i t)
theorem Vals.append : ∀ {xs ys : List V} {us ws : List Value}, Vals xs us → Vals ys ws → Vals (xs ++ ys) (us ++ ws)
  | _, _, _, _, .nil, s => s
  | _, _, _, _, .cons r t, s => .cons r (Vals.append t s)
theorem Vals.take : ∀ {xs : List V} {us : List Value} (n : Nat), Vals xs us → Vals (xs.take n) (us.take n)
  | _, _, 0, _ => .nil
  | _, _, _ + 1, .nil => .nil
  | _, _, n + 1, .cons r t => .cons r (Vals.take n t)
theorem Vals.drop : ∀ {xs : List V} {us : List Value} (n : Nat), Vals xs us → Vals (xs.drop n) (us.drop n)
  | _, _, 0, r => r
  | _, _, _ + 1, .nil => .nil
  | _, _, n + 1, .cons _ t => Vals.drop n t
theorem Vals.none_of : ∀ {xs : List V} {us : List Value} {i : Nat}, Vals xs us → xs[i]? = none → us[i]? = none := fun {xs us i} r e => by
  have h1 := r.length
  have h2 : xs.length ≤ i := List.getElem?_eq_none_iff.mp e
  exact List.getElem?_eq_none_iff.mpr (by omega)

def RelO : Option V → Option Value → Prop
  | some v, some u => RelV v u
  | none, none => True
  | _, _ => False
def KV {κ : Type} : List (κ × V) → List (κ × Value) → Prop := Paired fun (p : κ × V) (q : κ × Value) => p.1 = q.1 ∧ RelV p.2 q.2

/-- a key of a dict (00_mix): an int or a text -/
def kV : Key → V
  | .inl i => .int i
  | .inr x => .str x

/-- what stands at a tracked address -/
inductive HO where
  /-- a list -/
  | lst (xs : List V)
  /-- a tuple (never changes) -/
  | tup (xs : List V)
  /-- a dict whose keys are ints and texts; one whose keys are tuples of ints and texts (the empty one is both) -/
  | dK (kvs : List (Key × V)) | dT (kvs : List (List Key × V))
  /-- a set of ints: its members, its size -/
  | set (S : Int → Bool) (n : Nat)
  /-- an instance of the class at C, its dict at dx, its attributes -/
  | ins (C dx : Addr) (fs : List (Str × V))
  /-- the dict of the instance at x -/
  | own (x : Addr)
  /-- the dict of an exception -/
  | xd (fs : List (Str × V))
  /-- a bound method, f of x -/
  | met (f x : Addr)
  /-- a range object lo, lo + 1, .. below hi -/
  | rng (lo hi : Int)
  /-- a thing that is known to the object (the script; a dict while a loop walks it): read, never written while it is so -/
  | frz (o : Obj) (u : HO)
  /-- a code object's table -/
  | tbl (ps : Array Value)
  /-- any other thing, by what is true of its one object (a def of one's own: SetO a S n := HO.ext fun h => ..) -/
  | ext (φ : Heap → Prop)

abbrev Hp := Addr → Option HO
def upd (H : Hp) (a : Addr) (o : HO) : Hp := fun b => if b = a then some o else H b
theorem upd_same {H : Hp} {a : Addr} {o : HO} : upd H a o a = some o := by unfold upd; rw [if_pos rfl]
theorem upd_ne {H : Hp} {a b : Addr} {o : HO} (h : b ≠ a) : upd H a o b = H b := by unfold upd; rw [if_neg h]
theorem ne_of_none {H : Hp} {a b : Addr} {o : HO} (h : H a = some o) (h' : H b = none) : a ≠ b := by
  intro e; subst e; rw [h] at h'; cases h'

section
variable (P : Program) (w : World)
def ObjOk (H : Hp) (h : Heap) (a : Addr) : HO → Prop
  | .lst xs => xs.length ≤ sizeLine ∧ ∃ (its : List Value) (n : Nat), Vals xs its ∧ h.get? a = some { cls := .type "list", data := .seq its.toArray n }
  | .tup xs => xs.length ≤ sizeLine ∧ ∃ its : List Value, Vals xs its ∧ IsTup h a its.toArray
  | .dK kvs => kvs.length ≤ sizeLine ∧ (a == sysModules) = false ∧ ∃ vs, KV kvs vs ∧ h.DictOf (mixKind P w) a vs
  | .dT kvs => kvs.length ≤ sizeLine ∧ (a == sysModules) = false ∧ ∃ xs : List (List Key × Addr × Value),
      Paired (fun (p : List Key × V) (q : List Key × Addr × Value) => p.1 = q.1 ∧ H q.2.1 = some (.tup (p.1.map kV)) ∧ RelV p.2 q.2.2) kvs xs ∧
      ∃ o es ep, h.get? a = some o ∧ o.ExactDict ∧ o.data = .dict es ep ∧ es.toList = xs.map (entryOfKey (tupleKind (mixKind P w))) ∧ (xs.map (·.1)).Nodup
  | .set S n => h.SetOf (intKind P w) a S n
  | .ins C dx fs => H dx = some (.own a) ∧ fs.length ≤ 1000 ∧ dx ≠ a ∧ h.get? a = some (PySem.W.instObj C dx) ∧
      ∃ mA, h.Ns1 dx mA ∧ (∀ f, RelO (fs.lookup f) (mA f)) ∧ PySem.Within mA (fs.map (·.1))
  | .own _ => ∃ o, h.get? a = some o
  | .xd fs => ∃ mA, h.Ns1 a mA ∧ ∀ f, RelO (fs.lookup f) (mA f)
  | .rng lo hi => ∃ t u v, h.get? a = some { cls := .type "range", data := .fields #[.int lo t, .int hi u, .int 1 v] }
  | .frz o u => h.get? a = some o ∧ ObjOk H h a u
  | .tbl ps => h.get? a = some { cls := .none, data := .fields ps }
  | .met f x => h.get? a = some (PySem.W.methodObj (.ref f) (.ref x))
  | .ext φ => φ h ∧ (∃ o, h.get? a = some o) ∧ ∀ h1 h2 : Heap, φ h1 → (∀ o, h1.get? a = some o → h2.get? a = some o) → φ h2
/-- the abstract heap is held -/
def HOk (H : Hp) (h : Heap) : Prop := ∀ a o, H a = some o → ObjOk P w H h a o
end

section
variable {P : Program} {w : World} {H H' : Hp} {h h' : Heap} {a : Addr} {o : HO}
theorem ObjOk.lt (x : ObjOk P w H h a o) : a < h.objs.size := by
  cases o with
  | lst xs => obtain ⟨_, _, _, _, e⟩ := x; exact Heap.lt_size e
  | tup xs => obtain ⟨_, _, _, p⟩ := x; exact p.lt
  | dK kvs => obtain ⟨_, _, _, _, o, _, _, e, _⟩ := x; exact Heap.lt_size e
  | dT kvs => obtain ⟨_, _, _, _, o, _, _, e, _⟩ := x; exact Heap.lt_size e
  | set S n => obtain ⟨o, _, _, _, e, _⟩ := x; exact Heap.lt_size e
  | ins C dx fs => obtain ⟨_, _, _, e, _⟩ := x; exact Heap.lt_size e
  | own y => obtain ⟨_, e⟩ := x; exact Heap.lt_size e
  | xd fs => obtain ⟨_, ⟨_, _, _, e, _⟩, _⟩ := x; exact Heap.lt_size e
  | rng lo hi => obtain ⟨_, _, _, e⟩ := x; exact Heap.lt_size e
  | frz ob u => obtain ⟨e, _⟩ := x; exact Heap.lt_size e
  | tbl ps => exact Heap.lt_size (show h.get? a = some _ from x)
  | met f y => exact Heap.lt_size (show h.get? a = some _ from x)
  | ext φ => obtain ⟨_, ⟨_, e⟩, _⟩ := x; exact Heap.lt_size e
theorem Paired.mapP {α β : Type} {F G : α → β → Prop} : ∀ {l₁ : List α} {l₂ : List β}, Paired F l₁ l₂ → (∀ a b, F a b → G a b) → Paired G l₁ l₂
  | _, _, .nil, _ => .nil
  | _, _, .cons r t, f => .cons (f _ _ r) (Paired.mapP t f)
/-- what an object's description leans on: its own object, its own dict, the tuples -/
theorem ObjOk.stay (x : ObjOk P w H h a o) (k : ∀ b u, (b = a ∨ H b = some (.own a)) → h.get? b = some u → h'.get? b = some u)
    (ho : ∀ b, H b = some (.own a) → H' b = some (.own a)) (ht : ∀ b xs, H b = some (.tup xs) → H' b = some (.tup xs)) : ObjOk P w H' h' a o := by
  induction o with
  | lst xs => obtain ⟨z, its, n, r, e⟩ := x; exact ⟨z, its, n, r, k _ _ (.inl rfl) e⟩
  | tup xs => obtain ⟨z, its, r, ob, e, c⟩ := x; exact ⟨z, its, r, ob, k _ _ (.inl rfl) e, c⟩
  | dK kvs => obtain ⟨z, y, vs, r, ob, es, ep, e, c⟩ := x; exact ⟨z, y, vs, r, ob, es, ep, k _ _ (.inl rfl) e, c⟩
  | dT kvs =>
    obtain ⟨z, y, xs, r, ob, es, ep, e, c⟩ := x
    exact ⟨z, y, xs, Paired.mapP r fun p q z => ⟨z.1, ht _ _ z.2.1, z.2.2⟩, ob, es, ep, k _ _ (.inl rfl) e, c⟩
  | set S n => obtain ⟨ob, es, ep, t, e, c⟩ := x; exact ⟨ob, es, ep, t, k _ _ (.inl rfl) e, c⟩
  | ins C dx fs =>
    obtain ⟨d, z, ne, e, mA, ⟨od, es, ep, e2, c⟩, r⟩ := x
    exact ⟨ho _ d, z, ne, k _ _ (.inl rfl) e, mA, ⟨od, es, ep, k _ _ (.inr d) e2, c⟩, r⟩
  | own y => obtain ⟨ob, e⟩ := x; exact ⟨ob, k _ _ (.inl rfl) e⟩
  | xd fs => obtain ⟨mA, ⟨od, es, ep, e, c⟩, r⟩ := x; exact ⟨mA, ⟨od, es, ep, k _ _ (.inl rfl) e, c⟩, r⟩
  | rng lo hi => obtain ⟨t, u, v, e⟩ := x; exact ⟨t, u, v, k _ _ (.inl rfl) e⟩
  | frz ob u ih => obtain ⟨e, q⟩ := x; exact ⟨k _ _ (.inl rfl) e, ih q⟩
  | tbl ps =>
    have e : h.get? a = some { cls := .none, data := .fields ps } := x
    show h'.get? a = some { cls := .none, data := .fields ps }
    exact k a _ (.inl rfl) e
  | met f y =>
    have e : h.get? a = some (PySem.W.methodObj (.ref f) (.ref y)) := x
    show h'.get? a = some (PySem.W.methodObj (.ref f) (.ref y))
    exact k a _ (.inl rfl) e
  | ext φ => obtain ⟨p, ⟨o, e⟩, st⟩ := x; exact ⟨st _ _ p fun o q => k _ _ (.inl rfl) q, ⟨o, k _ _ (.inl rfl) e⟩, st⟩
theorem HOk.lt (x : HOk P w H h) (e : H a = some o) : a < h.objs.size := (x a o e).lt
theorem HOk.fresh (x : HOk P w H h) (e : h.objs.size ≤ a) : H a = none := by
  cases q : H a with
  | none => rfl
  | some u => exact absurd (Nat.lt_of_lt_of_le (x.lt q) e) (Nat.lt_irrefl _)
/-- every object of the heap is kept -/
theorem HOk.kept (x : HOk P w H h) (k : ∀ b u, h.get? b = some u → h'.get? b = some u) : HOk P w H h' := fun a o e =>
  (x a o e).stay (fun b u _ q => k b u q) (fun _ q => q) fun _ _ q => q
/-- a new object is laid and tracked -/
theorem HOk.laid (x : HOk P w H h) (k : ∀ b u, h.get? b = some u → h'.get? b = some u) (hp : h.objs.size ≤ a) (new : ObjOk P w (upd H a o) h' a o) : HOk P w (upd H a o) h' := fun b u e => by
  have hn := x.fresh hp
  by_cases hb : b = a
  · subst hb; rw [upd_same] at e; cases e; exact new
  · rw [upd_ne hb] at e
    exact (x b u e).stay (fun c v _ q => k c v q) (fun c q => by rw [upd_ne (ne_of_none q hn)]; exact q) fun c xs q => by rw [upd_ne (ne_of_none q hn)]; exact q
end

/-- what may be read as u: it is u, or a known u -/
def Rd (H : Hp) (a : Addr) (u : HO) : Prop := H a = some u ∨ ∃ o, H a = some (.frz o u)
theorem Rd.of {H : Hp} {a : Addr} {u : HO} (h : H a = some u) : Rd H a u := .inl h
theorem Rd.ok {P : Program} {w : World} {H : Hp} {h : Heap} {a : Addr} {u : HO} (r : Rd H a u) (x : HOk P w H h) : ObjOk P w H h a u := by
  rcases r with r | ⟨o, r⟩
  · exact x a u r
  · obtain ⟨_, q⟩ := x a _ r
    exact q
/-- what may be written -/
def Mut : Option HO → Prop
  | some (.lst _) => True
  | some (.dK _) => True
  | some (.dT _) => True
  | some (.set _ _) => True
  | some (.ins _ _ _) => True
  | some (.ext _) => True
  | _ => False
section
variable {P : Program} {w : World} {H : Hp} {h h' : Heap} {x e : Addr} {o' : HO}
/-- the object at e is changed: x itself, or the dict of the instance x -/
theorem HOk.write (ok : HOk P w H h) (mu : Mut (H x)) (he : e = x ∨ H e = some (.own x)) (k : ∀ b u, b ≠ e → h.get? b = some u → h'.get? b = some u) (heo : ∃ u, h'.get? e = some u)
    (new : ObjOk P w (upd H x o') h' x o') : HOk P w (upd H x o') h' := fun b u q => by
  have nown : ∀ c y, H c = some (.own y) → c ≠ x := fun c y r z => by subst z; rw [r] at mu; exact mu
  have ntup : ∀ c xs, H c = some (.tup xs) → c ≠ x := fun c xs r z => by subst z; rw [r] at mu; exact mu
  by_cases hb : b = x
  · subst hb; rw [upd_same] at q; cases q; exact new
  · rw [upd_ne hb] at q
    by_cases hbe : b = e
    · have q' : H b = some (.own x) := by
        rcases he with z | z
        · exact absurd (hbe.trans z) hb
        · rw [hbe]; exact z
      rw [q] at q'; cases q'
      obtain ⟨v, hv⟩ := heo
      exact ⟨v, by rw [hbe]; exact hv⟩
    · refine (ok b u q).stay (fun c v hc r => k c v ?_ r) (fun c r => by rw [upd_ne (nown c b r)]; exact r) fun c xs r => by rw [upd_ne (ntup c xs r)]; exact r
      rcases hc with rfl | hc
      · exact hbe
      · rintro rfl
        rcases he with z | z
        · exact nown c b hc z
        · rw [hc] at z; cases z; exact hb rfl
end

/-! ### kept unless tracked; of the frames at fs (the callers') the slots may change (an exception that passes writes there); of the records at ex (iterators) nothing is said -/
structure Un (fs ex : List Addr) (H H' : Hp) (h h' : Heap) : Prop where
  keep : ∀ b o, h.get? b = some o → H b = none → b ∉ fs → b ∉ ex → h'.get? b = some o
  slot : ∀ b o, h.get? b = some o → H b = none → b ∈ fs → b ∉ ex → ∃ sl, h'.get? b = some { o with slots := sl }
  free : ∀ b o, h.get? b = some o → H b = none → b ∉ ex → H' b = none
  there : ∀ b o, h.get? b = some o → b ∉ ex → ∃ o', h'.get? b = some o'
  tups : ∀ b xs, H b = some (.tup xs) → H' b = some (.tup xs)
  frzs : ∀ b o u, H b = some (.frz o u) → H' b = some (.frz o u)
  tbls : ∀ b ps, H b = some (.tbl ps) → ∃ more, H' b = some (.tbl (ps ++ more))
section
variable {fs fs' ex ex' : List Addr} {H H1 H2 : Hp} {h h1 h2 h' : Heap} {a x e : Addr} {o : HO}
theorem Un.any (u : Un fs ex H H1 h h1) {b : Addr} {ob : Obj} (q : h.get? b = some ob) (n : H b = none) (hx : b ∉ ex) : ∃ sl, h1.get? b = some { ob with slots := sl } := by
  by_cases hb : b ∈ fs
  · exact u.slot b ob q n hb hx
  · exact ⟨ob.slots, u.keep b ob q n hb hx⟩
theorem Un.trans (a : Un fs ex H H1 h h1) (b : Un fs ex H1 H2 h1 h2) : Un fs ex H H2 h h2 where
  keep := fun c ob q n hc hx => b.keep c ob (a.keep c ob q n hc hx) (a.free c ob q n hx) hc hx
  slot := fun c ob q n hc hx => by
    obtain ⟨sl, e1⟩ := a.slot c ob q n hc hx
    obtain ⟨sl', e2⟩ := b.slot c _ e1 (a.free c ob q n hx) hc hx
    exact ⟨sl', e2⟩
  free := fun c ob q n hx => by
    obtain ⟨o', e1⟩ := a.there c ob q hx
    exact b.free c o' e1 (a.free c ob q n hx) hx
  there := fun c ob q hx => by
    obtain ⟨o', e1⟩ := a.there c ob q hx
    exact b.there c o' e1 hx
  tups := fun c xs q => b.tups c xs (a.tups c xs q)
  frzs := fun c ob xs q => b.frzs c ob xs (a.frzs c ob xs q)
  tbls := fun c ps q => by
    obtain ⟨m1, e1⟩ := a.tbls c ps q
    obtain ⟨m2, e2⟩ := b.tbls c _ e1
    exact ⟨m1 ++ m2, by rw [e2, Array.append_assoc]⟩
theorem Un.kept (k : ∀ b u, h.get? b = some u → h'.get? b = some u) : Un fs ex H H h h' :=
  ⟨fun b ob q _ _ _ => k b ob q, fun b ob q _ _ _ => ⟨ob.slots, k b ob q⟩, fun _ _ _ n _ => n, fun b ob q _ => ⟨ob, k b ob q⟩, fun _ _ q => q, fun _ _ _ q => q, fun _ ps q => ⟨#[], by rw [q]; simp⟩⟩
theorem Un.refl : Un fs ex H H h h := Un.kept fun _ _ q => q
theorem Un.laid (k : ∀ b u, h.get? b = some u → h'.get? b = some u) (hp : h.objs.size ≤ a) (hn : H a = none) : Un fs ex H (upd H a o) h h' where
  keep := fun b u q _ _ _ => k b u q
  slot := fun b u q _ _ _ => ⟨u.slots, k b u q⟩
  free := fun b u q n _ => by rw [upd_ne (Nat.ne_of_lt (Nat.lt_of_lt_of_le (Heap.lt_size q) hp))]; exact n
  there := fun b u q _ => ⟨u, k b u q⟩
  tups := fun b xs q => by rw [upd_ne (ne_of_none q hn)]; exact q
  frzs := fun b u xs q => by rw [upd_ne (ne_of_none q hn)]; exact q
  tbls := fun b ps q => ⟨#[], by rw [upd_ne (ne_of_none q hn), q]; simp⟩
theorem Un.write (mu : Mut (H x)) (he : e = x ∨ H e = some (.own x)) (k : ∀ b u, b ≠ e → h.get? b = some u → h'.get? b = some u) (heo : ∃ u, h'.get? e = some u) : Un fs ex H (upd H x o) h h' := by
  have hx : ∀ b, H b = none → b ≠ x := fun b n z => by subst z; rw [n] at mu; exact mu
  have hb : ∀ b, H b = none → b ≠ e := fun b n z => by
    subst z
    rcases he with r | r
    · exact hx b n r
    · rw [n] at r; cases r
  have hm : ∀ b u, H b = some u → ¬ Mut (some u) → b ≠ x := fun b u q nm z => by subst z; rw [q] at mu; exact nm mu
  refine ⟨fun b u q n _ _ => k b u (hb b n) q, fun b u q n _ _ => ⟨u.slots, k b u (hb b n) q⟩, fun b u q n _ => by rw [upd_ne (hx b n)]; exact n, fun b u q _ => ?_,
    fun b xs q => by rw [upd_ne (hm b _ q fun z => z)]; exact q, fun b u xs q => by rw [upd_ne (hm b _ q fun z => z)]; exact q, fun b ps q => ⟨#[], by rw [upd_ne (hm b _ q fun z => z), q]; simp⟩⟩
  by_cases hbe : b = e
  · subst hbe; exact heo
  · exact ⟨u, k b u hbe q⟩
theorem Un.mono (u : Un fs ex H H1 h h1) (hs : ∀ b ∈ fs, b ∈ fs') (hx : ∀ b ∈ ex, b ∈ ex') : Un fs' ex' H H1 h h1 :=
  ⟨fun b ob q n hb he => u.keep b ob q n (fun z => hb (hs b z)) fun z => he (hx b z), fun _ _ q n _ he => u.any q n fun z => he (hx _ z), fun b ob q n he => u.free b ob q n fun z => he (hx b z), fun b ob q he => u.there b ob q fun z => he (hx b z), u.tups, u.frzs, u.tbls⟩
end

/-! ### the heap without what is tracked -/
def trk (h : Heap) (H : Hp) : List Addr := (List.range h.objs.size).filter fun a => (H a).isSome
def hidT (h : Heap) (H : Hp) : Heap := PySem.W.hideAll h (trk h H)
theorem hidT_size (h : Heap) (H : Hp) : (hidT h H).objs.size = h.objs.size := PySem.W.hideAll_size _ _
theorem hidT_get {h : Heap} {H : Hp} {b : Addr} {o : Obj} (e : h.get? b = some o) (n : H b = none) : (hidT h H).get? b = some o :=
  PySem.W.hideAll_get _ e fun hm => by
    have q : (H b).isSome = true := (List.mem_filter.mp hm).2
    rw [n] at q; simp at q
theorem of_hidT {h : Heap} {H : Hp} {b : Addr} {o : Obj} (e : (hidT h H).get? b = some o) : h.get? b = some o ∧ H b = none := by
  have e' : h.get? b = some o := PySem.W.of_hideAll (trk h H) e
  refine ⟨e', ?_⟩
  cases q : H b with
  | none => rfl
  | some x =>
    have hm : b ∈ trk h H := List.mem_filter.mpr ⟨List.mem_range.mpr (Heap.lt_size e'), by simp [q]⟩
    have z : (hidT h H).get? b = none := PySem.W.hideAll_none (trk h H) hm
    rw [z] at e; cases e

/-! ### OpenK's ledger, filled with every new object but one -/
def allNews (g h : Heap) (L : Addr) : List (Addr × Obj) := (List.range h.objs.size).filterMap fun a => if a = L ∨ (g.get? a).isSome = true then none else (h.get? a).map fun o => (a, o)
def rest (g h : Heap) (L d : Addr) : List (Addr × Obj) := (allNews g h L).filter fun p => decide (p.1 ≠ d)
end L2

namespace L2
open PySem PySem.Spec PyProof.Rows

/-- the module's facts, over the base: the heap at the law's entry without what is tracked there -/
structure Mod (K : PySem.W.Frag) (mg : Str → Option Value) (base : Heap) : Prop where
  kin : K.In base
  glob : base.Ns mainGlobals mg
  blt : ∃ mb, base.Ns builtinsNs mb ∧ ∀ x : Str, x ≠ "__name__" → mb x = bootBuiltins x
  nolimit : base.NoLimit

/-- the context: a def's body (or a comprehension's block) running. base: fixed through the whole law; s₀, H₀: the entry; outer: the frames whose slots others may change (a def's callers); stack: all frames that run;
   ex: iterators that were made ahead of the entry and are walked here (a comprehension's); fn: the names whose cells were made at the entry (a def: all; a comprehension's block: its own); calm: not within an except suite; pn: pins that every state bears; xe: what is wanted of an exception that leaves the code -/
structure Cx where
  prog : Program
  w : World
  K : PySem.W.Frag
  mg : Str → Option Value
  base : Heap
  A : Around
  N : List Str
  s₀ : Shared
  H₀ : Hp
  env : Env
  outer : List Env
  stack : List Env
  ex : List Addr
  fn : Str → Bool
  calm : Bool
  pn : List (Addr × Obj)
  xe : Value → Shared → Prop
/-- the callers' frames -/
def frs (l : List Env) : List Addr := l.filterMap (·.frame)
abbrev Cx.fs (X : Cx) : List Addr := frs X.outer

def Vis (sc : Scope) (x : Str) : Prop := sc.names.lookup x = some .local ∨ sc.names.lookup x = some .cell ∨ sc.names.lookup x = some .free
def Loc (sc : Scope) (x : Str) : Prop := sc.names.lookup x = some .local ∨ sc.names.lookup x = some .cell
def Look (env : Env) (h : Heap) (m : Str → Option Value) (x : Str) (u : Value) : Prop :=
  (env.kindOf x = some .local ∧ m x = some u) ∨ ((env.kindOf x = some .cell ∨ env.kindOf x = some .free) ∧ ∃ c, env.cells.lookup x = some c ∧ h.IsCell c (some u))

structure Cx.Ok (X : Cx) : Prop where
  mod : Mod X.K X.mg X.base
  kind : X.env.scope.kind = .function
  glob : X.env.globals = mainGlobals
  blt : X.env.builtins = builtinsNs
  above : X.s₀.heap.objs.size ≤ X.env.locals
  inj : ∀ x y c, X.env.cells.lookup x = some c → X.env.cells.lookup y = some c → x = y
  has : ∀ x, (X.env.kindOf x = some .cell ∨ X.env.kindOf x = some .free) → ∃ c, X.env.cells.lookup x = some c
  cab : ∀ x c, X.fn x = true → X.env.cells.lookup x = some c → X.s₀.heap.objs.size ≤ c
  hd : X.calm = true → X.A.handled = none
  frames : X.A.frames = some X.stack
  stk : X.stack = X.outer ∨ (X.stack = X.env :: X.outer ∧ X.env.frame = some X.env.locals)
  exf : ∀ b ∈ X.ex, b ≠ X.env.locals ∧ ∀ x c, X.env.cells.lookup x = some c → c ≠ b
  bs : ∀ b o, X.base.get? b = some o → X.s₀.heap.get? b = some o ∧ X.H₀ b = none
  bsz : X.base.objs.size ≤ X.s₀.heap.objs.size
  noex : ∀ b o, X.base.get? b = some o → b ∉ X.ex
  exfs : ∀ b ∈ X.ex, b ∉ X.fs
  funs : X.s₀.heap.FunFrames X.base X.outer
  frf : ∀ b ∈ X.fs, X.H₀ b = none

structure Inv (X : Cx) (pins : List (Addr × Obj)) (σ : List (Option V)) (H : Hp) (s : Shared) : Prop where
  ok : X.Ok
  os : s.os = X.s₀.os
  bare : AllBare s.gens
  base : Un X.fs X.ex X.H₀ H X.s₀.heap s.heap
  loc : ∃ m, s.heap.Ns X.env.locals m ∧ ∀ (i : Nat) (x : Str) (v : V), X.N[i]? = some x → σ[i]? = some (some v) → Vis X.env.scope x → ∃ u, RelV v u ∧ Look X.env s.heap m x u
  cell : ∀ x c, X.env.cells.lookup x = some c → ∃ v, s.heap.IsCell c v
  free : H X.env.locals = none
  freeC : ∀ x c, X.env.cells.lookup x = some c → H c = none
  pin : ∀ p ∈ X.pn ++ pins, s.heap.get? p.1 = some p.2 ∧ H p.1 = none ∧ p.1 ≠ X.env.locals ∧ p.1 ∉ X.fs ∧ ∀ v, p.2.data ≠ .cell v
  hok : HOk X.prog X.w H s.heap
  len : σ.length = X.N.length

section
variable {X : Cx} {pins : List (Addr × Obj)} {σ : List (Option V)} {H H' : Hp} {s : Shared} {h' : Heap}

theorem Cx.Ok.nofr (ok : X.Ok) {b : Addr} {o : Obj} (e : X.base.get? b = some o) : b ∉ X.fs := fun hb => by
  have := (ok.funs.mem hb).1
  rw [e] at this; cases this
theorem Inv.bs (I : Inv X pins σ H s) : ∀ b o, X.base.get? b = some o → s.heap.get? b = some o ∧ H b = none := fun b o e =>
  ⟨I.base.keep b o (I.ok.bs b o e).1 (I.ok.bs b o e).2 (I.ok.nofr e) (I.ok.noex b o e), I.base.free b o (I.ok.bs b o e).1 (I.ok.bs b o e).2 (I.ok.noex b o e)⟩
theorem Inv.bk (I : Inv X pins σ H s) : ∀ b o, X.base.get? b = some o → s.heap.get? b = some o := fun b o e => (I.bs b o e).1
theorem Inv.mod (I : Inv X pins σ H s) : Mod X.K X.mg X.base := I.ok.mod
theorem Inv.kIn (I : Inv X pins σ H s) : X.K.In s.heap := I.ok.mod.kin.keeps I.bk
theorem Inv.nolimit (I : Inv X pins σ H s) : s.heap.NoLimit := I.ok.mod.nolimit.keeps I.bk
/-- the frame over the base: for OpenK's rules (K.In X.base is I.mod.kin) -/
theorem Inv.fr (I : Inv X pins σ H s) : ∃ m, Fr X.base X.env.locals s.heap m :=
  let ⟨m, hn, _⟩ := I.loc
  ⟨m, hn, I.bk, Nat.le_trans I.ok.bsz I.ok.above⟩
theorem Inv.lt (I : Inv X pins σ H s) : X.env.locals < s.heap.objs.size := let ⟨_, hn, _⟩ := I.loc; hn.lt
theorem Inv.sz (I : Inv X pins σ H s) : X.s₀.heap.objs.size ≤ s.heap.objs.size := Nat.le_trans I.ok.above (Nat.le_of_lt I.lt)
theorem Inv.nofs (I : Inv X pins σ H s) {a : Addr} (h : s.heap.objs.size ≤ a) : a ∉ X.fs := fun hb => by
  obtain ⟨_, o, ho, _⟩ := I.ok.funs.mem hb
  exact absurd (Nat.lt_of_lt_of_le (Heap.lt_size ho) (Nat.le_trans I.sz h)) (Nat.lt_irrefl _)
theorem Inv.cne (I : Inv X pins σ H s) : ∀ x c, X.env.cells.lookup x = some c → c ≠ X.env.locals := fun x c e z => by
  obtain ⟨v, o, ho, hd⟩ := I.cell x c e
  obtain ⟨m, ⟨o', es, ep, ho', hd', _⟩, _⟩ := I.loc
  rw [z, ho'] at ho; cases ho; rw [hd'] at hd; cases hd
theorem Inv.funs (I : Inv X pins σ H s) : s.heap.FunFrames X.base X.outer := by
  have all : ∀ (l : List Env), (∀ b ∈ frs l, b ∈ X.fs) → X.s₀.heap.FunFrames X.base l → s.heap.FunFrames X.base l := by
    intro l
    induction l with
    | nil => intro _ _; trivial
    | cons env r ih =>
      intro hs hl
      obtain ⟨hk, ⟨L, o, hf, hn, ho, hd⟩, hr⟩ := hl
      have hL : L ∈ X.fs := hs L (by unfold frs; rw [List.filterMap_cons, hf]; exact List.mem_cons_self)
      obtain ⟨sl, e⟩ := I.base.slot L o ho (I.ok.frf L hL) hL fun z => I.ok.exfs L z hL
      exact ⟨hk, ⟨L, _, hf, hn, e, hd⟩, ih (fun b hb => hs b (by unfold frs; rw [List.filterMap_cons, hf]; exact List.mem_cons_of_mem _ hb)) hr⟩
  exact all X.outer (fun _ hb => hb) I.ok.funs

/-- the frames that run, for a call -/
theorem Inv.stack (I : Inv X pins σ H s) : s.heap.FunFrames X.base X.stack := by
  rcases I.ok.stk with e | ⟨e, hf⟩
  · rw [e]; exact I.funs
  · rw [e]
    obtain ⟨m, hn, _⟩ := I.loc
    refine .cons (by rw [I.ok.kind]; decide) hf hn ?_ I.funs
    exact Heap.get?_none_of_le (Nat.le_trans I.ok.bsz I.ok.above)
theorem Inv.stkSub (I : Inv X pins σ H s) : ∀ b ∈ frs X.stack, b ∈ X.env.locals :: X.fs := fun b hb => by
  rcases I.ok.stk with e | ⟨e, hf⟩
  · rw [e] at hb; exact List.mem_cons_of_mem _ hb
  · rw [e] at hb
    unfold frs at hb
    rw [List.filterMap_cons, hf] at hb
    exact hb
theorem Inv.stkFree (I : Inv X pins σ H s) : ∀ b ∈ frs X.stack, H b = none := fun b hb => by
  rcases List.mem_cons.mp (I.stkSub b hb) with e | hb
  · rw [e]; exact I.free
  · obtain ⟨_, o, ho, _⟩ := I.ok.funs.mem hb
    exact I.base.free b o ho (I.ok.frf b hb) fun z => I.ok.exfs b z hb

/-- THE STEP: the untracked objects but the frame and the records at ch are kept (the callers' frames up to slots), the frame's map is kept, the new abstract heap is held -/
theorem Inv.step {g' : Array GenState} {t' : Nat} {d' : Drawn} {ch : List Addr} (I : Inv X pins σ H s)
    (hch : ∀ b ∈ ch, (b ∈ X.ex ∨ X.s₀.heap.objs.size ≤ b) ∧ b ≠ X.env.locals ∧ (∀ x c, X.env.cells.lookup x = some c → c ≠ b) ∧ ∀ p ∈ X.pn ++ pins, p.1 ≠ b)
    (keep : ∀ b o, b ≠ X.env.locals → b ∉ X.fs → b ∉ ch → s.heap.get? b = some o → H b = none → h'.get? b = some o)
    (slot : ∀ b o, b ≠ X.env.locals → b ∈ X.fs → b ∉ ch → s.heap.get? b = some o → H b = none → ∃ sl, h'.get? b = some { o with slots := sl }) (free : ∀ b o, b ∉ ch → s.heap.get? b = some o → H b = none → H' b = none)
    (there : ∀ b o, b ∉ ch → s.heap.get? b = some o → ∃ o', h'.get? b = some o')
    (tups : ∀ b xs, H b = some (.tup xs) → H' b = some (.tup xs)) (frzs : ∀ b o u, H b = some (.frz o u) → H' b = some (.frz o u)) (tbls : ∀ b ps, H b = some (.tbl ps) → ∃ more, H' b = some (.tbl (ps ++ more)))
    (ns : ∀ m, s.heap.Ns X.env.locals m → h'.Ns X.env.locals m) (hok : HOk X.prog X.w H' h') (hg : AllBare g') :
    Inv X pins σ H' { s with heap := h', gens := g', drawn := d', toks := t' } := by
  have neL : ∀ b o, X.s₀.heap.get? b = some o → b ≠ X.env.locals := fun b o e => Nat.ne_of_lt (Nat.lt_of_lt_of_le (Heap.lt_size e) I.ok.above)
  have neC : ∀ b o, X.s₀.heap.get? b = some o → b ∉ X.ex → b ∉ ch := fun b o e hx hb => by
    rcases (hch b hb).1 with z | z
    · exact hx z
    · exact absurd (Nat.lt_of_lt_of_le (Heap.lt_size e) z) (Nat.lt_irrefl _)
  have cellK : ∀ x c, X.env.cells.lookup x = some c → ∀ v, s.heap.IsCell c v → h'.IsCell c v := fun x c e v ⟨o, ho, hd⟩ => by
    have nch : c ∉ ch := fun z => (hch c z).2.2.1 x c e rfl
    by_cases hc : c ∈ X.fs
    · obtain ⟨sl, q⟩ := slot c o (I.cne x c e) hc nch ho (I.freeC x c e)
      exact ⟨_, q, hd⟩
    · exact ⟨o, keep c o (I.cne x c e) hc nch ho (I.freeC x c e), hd⟩
  refine ⟨I.ok, I.os, hg, ⟨fun b o e n hb hx => ?_, fun b o e n hb hx => ?_, fun b o e n hx => ?_, fun b o e hx => ?_, fun b xs e => tups b xs (I.base.tups b xs e), fun b o xs e => frzs b o xs (I.base.frzs b o xs e), fun b ps e => ?_⟩, ?_, fun x c e => ?_, ?_, fun x c e => ?_, fun p hp => ?_, hok, I.len⟩
  · exact keep b o (neL b o e) hb (neC b o e hx) (I.base.keep b o e n hb hx) (I.base.free b o e n hx)
  · obtain ⟨sl, e1⟩ := I.base.slot b o e n hb hx
    obtain ⟨sl', e2⟩ := slot b _ (neL b o e) hb (neC b o e hx) e1 (I.base.free b o e n hx)
    exact ⟨sl', e2⟩
  · obtain ⟨o', e1⟩ := I.base.there b o e hx
    exact free b o' (neC b o e hx) e1 (I.base.free b o e n hx)
  · obtain ⟨o', e1⟩ := I.base.there b o e hx
    exact there b o' (neC b o e hx) e1
  · obtain ⟨m1, e1⟩ := I.base.tbls b ps e
    obtain ⟨m2, e2⟩ := tbls b _ e1
    exact ⟨m1 ++ m2, by rw [e2, Array.append_assoc]⟩
  · obtain ⟨m, hn, hl⟩ := I.loc
    refine ⟨m, ns m hn, fun i x v e1 e2 e3 => ?_⟩
    obtain ⟨u, r, l⟩ := hl i x v e1 e2 e3
    refine ⟨u, r, ?_⟩
    rcases l with l | ⟨k, c, e, z⟩
    · exact .inl l
    · exact .inr ⟨k, c, e, cellK x c e _ z⟩
  · obtain ⟨v, z⟩ := I.cell x c e
    exact ⟨v, cellK x c e v z⟩
  · obtain ⟨m, ⟨o, _, _, ho, _⟩, _⟩ := I.loc
    exact free _ o (fun z => (hch _ z).2.1 rfl) ho I.free
  · obtain ⟨v, o, ho, hd⟩ := I.cell x c e
    exact free c o (fun z => (hch c z).2.2.1 x c e rfl) ho (I.freeC x c e)
  · obtain ⟨e, n, ne, nf, d⟩ := I.pin p hp
    have nch : p.1 ∉ ch := fun z => (hch p.1 z).2.2.2 p hp rfl
    exact ⟨keep p.1 p.2 ne nf nch e n, free p.1 p.2 nch e n, ne, nf, d⟩
/-- .. where the frame's own object is kept too -/
theorem Inv.un {t' : Nat} (I : Inv X pins σ H s) (u : Un X.fs [] H H' s.heap h') (hok : HOk X.prog X.w H' h') : Inv X pins σ H' { s with heap := h', toks := t' } := by
  obtain ⟨m, ⟨o, es, ep, ho, r⟩, _⟩ := id I.loc
  obtain ⟨sl, hL⟩ := u.any ho I.free (by simp)
  exact I.step (g' := s.gens) (d' := s.drawn) (ch := []) (fun _ z => nomatch z) (fun b o _ hb _ e n => u.keep b o e n hb (by simp)) (fun b o _ hb _ e n => u.slot b o e n hb (by simp)) (fun b o _ e n => u.free b o e n (by simp)) (fun b o _ e => u.there b o e (by simp)) u.tups u.frzs u.tbls (fun m' hm => by
    obtain ⟨o', es', ep', ho', r'⟩ := hm
    rw [ho] at ho'; cases ho'
    exact ⟨_, es', ep', hL, r'⟩) hok I.bare
/-- behind a call (or a comprehension's block): the slots of this frame may have changed too, the records at ch may have turned -/
theorem Inv.call {g' : Array GenState} {t' : Nat} {d' : Drawn} {ch : List Addr} (I : Inv X pins σ H s) (u : Un (frs X.stack) ch H H' s.heap h') (hok : HOk X.prog X.w H' h') (hg : AllBare g')
    (hch : ∀ b ∈ ch, (b ∈ X.ex ∨ X.s₀.heap.objs.size ≤ b) ∧ b ≠ X.env.locals ∧ (∀ x c, X.env.cells.lookup x = some c → c ≠ b) ∧ ∀ p ∈ X.pn ++ pins, p.1 ≠ b) :
    Inv X pins σ H' { s with heap := h', gens := g', drawn := d', toks := t' } := by
  obtain ⟨m, ⟨o, es, ep, ho, r⟩, _⟩ := id I.loc
  obtain ⟨sl, hL⟩ := u.any ho I.free fun z => (hch _ z).2.1 rfl
  exact I.step (ch := ch) hch (fun b o hL hb hc e n => u.keep b o e n (fun z => (List.mem_cons.mp (I.stkSub b z)).elim hL hb) hc) (fun b o _ _ hc e n => u.any e n hc) (fun b o hc e n => u.free b o e n hc) (fun b o hc e => u.there b o e hc) u.tups u.frzs u.tbls (fun m' hm => by
    obtain ⟨o', es', ep', ho', r'⟩ := hm
    rw [ho] at ho'; cases ho'
    exact ⟨_, es', ep', hL, r'⟩) hok hg
/-- an untracked record of ours (an iterator) has turned -/
theorem Inv.turned {t' : Nat} {it : Addr} (I : Inv X pins σ H s) (k : ∀ b o, b ≠ it → s.heap.get? b = some o → h'.get? b = some o) (hn : H it = none) (hL : it ≠ X.env.locals)
    (h1 : it ∈ X.ex ∨ X.s₀.heap.objs.size ≤ it) (h2 : ∀ x c, X.env.cells.lookup x = some c → c ≠ it) (h3 : ∀ p ∈ X.pn ++ pins, p.1 ≠ it) : Inv X pins σ H { s with heap := h', toks := t' } := by
  have nit : ∀ b u, H b = some u → b ≠ it := fun b u e z => by rw [z, hn] at e; cases e
  refine I.step (g' := s.gens) (d' := s.drawn) (ch := [it]) (fun b hb => ?_) (fun b o _ _ hc e _ => k b o (fun z => hc (by simp [z])) e) (fun b o _ _ hc e _ => ⟨o.slots, k b o (fun z => hc (by simp [z])) e⟩) (fun _ _ _ _ n => n)
    (fun b o hc e => ⟨o, k b o (fun z => hc (by simp [z])) e⟩) (fun _ _ e => e) (fun _ _ _ e => e) (fun b ps e => ⟨#[], by rw [e]; simp⟩) (fun m hm => ?_) (fun b u e => ?_) I.bare
  · have e : b = it := by simpa using hb
    subst e
    exact ⟨h1, hL, h2, h3⟩
  · obtain ⟨o, es, ep, ho, r⟩ := hm
    exact ⟨o, es, ep, k _ o (Ne.symm hL) ho, r⟩
  · refine (I.hok b u e).stay (fun c v hc q => k c v ?_ q) (fun _ q => q) fun _ _ q => q
    rcases hc with z | z
    · rw [z]; exact nit b u e
    · exact nit c _ z
theorem Inv.tok (I : Inv X pins σ H s) (t : Nat) : Inv X pins σ H { s with toks := t } := I.un (h' := s.heap) (t' := t) Un.refl I.hok
/-- all objects kept -/
theorem Inv.kept {t' : Nat} (I : Inv X pins σ H s) (k : ∀ b u, s.heap.get? b = some u → h'.get? b = some u) : Inv X pins σ H { s with heap := h', toks := t' } := I.un (Un.kept k) (I.hok.kept k)
/-- a new object laid and tracked -/
theorem Inv.laid {a : Addr} {o : HO} {t' : Nat} (I : Inv X pins σ H s) (k : ∀ b u, s.heap.get? b = some u → h'.get? b = some u) (hp : s.heap.objs.size ≤ a) (new : ObjOk X.prog X.w (upd H a o) h' a o) :
    Inv X pins σ (upd H a o) { s with heap := h', toks := t' } := I.un (Un.laid k hp (I.hok.fresh hp)) (I.hok.laid k hp new)
/-- an object written -/
theorem Inv.write {x e : Addr} {o : HO} {t' : Nat} (I : Inv X pins σ H s) (mu : Mut (H x)) (he : e = x ∨ H e = some (.own x)) (k : ∀ b u, b ≠ e → s.heap.get? b = some u → h'.get? b = some u) (heo : ∃ u, h'.get? e = some u)
    (new : ObjOk X.prog X.w (upd H x o) h' x o) : Inv X pins σ (upd H x o) { s with heap := h', toks := t' } := I.un (Un.write mu he k heo) (I.hok.write mu he k heo new)
theorem Inv.pins_of {pins' : List (Addr × Obj)} (I : Inv X pins σ H s) (h : ∀ p ∈ pins', s.heap.get? p.1 = some p.2 ∧ H p.1 = none ∧ p.1 ≠ X.env.locals ∧ p.1 ∉ X.fs ∧ ∀ v, p.2.data ≠ .cell v) : Inv X pins' σ H s :=
  ⟨I.ok, I.os, I.bare, I.base, I.loc, I.cell, I.free, I.freeC, fun p hp => (List.mem_append.mp hp).elim (fun z => I.pin p (List.mem_append_left _ z)) (h p), I.hok, I.len⟩

theorem nodup_ix {N : List Str} (hN : N.Nodup) {i j : Nat} {x : Str} (a : N[i]? = some x) (b : N[j]? = some x) : i = j := by
  obtain ⟨h1, e1⟩ := List.getElem?_eq_some_iff.mp a
  obtain ⟨h2, e2⟩ := List.getElem?_eq_some_iff.mp b
  exact (List.getElem_inj hN).mp (e1.trans e2.symm)

/-- a name is stored; what changed -/
theorem store_ok2 {M : Model} {A : Around} {E : Value → Shared → Prop} {i : Nat} {x : Str} {v : V} {u : Value} {Q : Unit → Shared → Prop} (I : Inv X pins σ H s) (hN : X.N.Nodup) (hi : X.N[i]? = some x) (hx : Loc X.env.scope x) (r : RelV v u)
    (h : ∀ s', Inv X pins (σ.set i (some v)) H s' → (∃ a, Heap.SameBut a s.heap s'.heap ∧ (a = X.env.locals ∨ X.env.cells.lookup x = some a)) → Q () s') (hf : X.fn x = true ∨ X.env.scope.names.lookup x = some .local := by first | exact .inl rfl | exact .inr rfl | assumption) : wpAny M A (storeName X.env x u) Q E s := by
  obtain ⟨m, hn, hl⟩ := id I.loc
  have hcls : (X.env.scope.kind == .class || (X.env.scope.kind == .module && X.env.locals != X.env.globals)) = false := by rw [I.ok.kind]; rfl
  have hiσ : i < σ.length := by rw [I.len]; exact (List.getElem?_eq_some_iff.mp hi).1
  have cne := I.cne
  have tracked : ∀ {a : Addr} {h' : Heap}, (∃ o, s.heap.get? a = some o ∧ H a = none) → Heap.SameBut a s.heap h' → HOk X.prog X.w H h' := fun {a h'} ha hs b ob e => by
    obtain ⟨_, _, hfree⟩ := ha
    refine (I.hok b ob e).stay (fun c w' hc q => (hs.2 c ?_).trans q) (fun _ q => q) fun _ _ q => q
    rintro rfl
    rcases hc with rfl | hc
    · rw [hfree] at e; cases e
    · rw [hfree] at hc; cases hc
  rcases hx with hk | hk
  · refine wpAny_storeName_local hk hn (fun h' hn' hs => ?_) hcls
    obtain ⟨oL, _, _, hoL, _⟩ := id hn
    refine h _ ⟨I.ok, I.os, I.bare, ⟨fun b o e n hb hx => ?_, fun b o e n hb hx => ?_, I.base.free, fun b o e hx => ?_, I.base.tups, I.base.frzs, I.base.tbls⟩, ⟨_, hn', fun j y v' e1 e2 e3 => ?_⟩, fun y c e => ?_, I.free, I.freeC, fun p hp => ?_, tracked ⟨oL, hoL, I.free⟩ hs, by simpa using I.len⟩ ⟨_, hs, .inl rfl⟩
    · exact (hs.2 b (Nat.ne_of_lt (Nat.lt_of_lt_of_le (Heap.lt_size e) I.ok.above))).trans (I.base.keep b o e n hb hx)
    · obtain ⟨sl, e1⟩ := I.base.slot b o e n hb hx
      exact ⟨sl, (hs.2 b (Nat.ne_of_lt (Nat.lt_of_lt_of_le (Heap.lt_size e) I.ok.above))).trans e1⟩
    · obtain ⟨o', e1⟩ := I.base.there b o e hx
      exact ⟨o', (hs.2 b (Nat.ne_of_lt (Nat.lt_of_lt_of_le (Heap.lt_size e) I.ok.above))).trans e1⟩
    · by_cases hj : j = i
      · subst hj
        rw [hi] at e1; cases e1
        rw [List.getElem?_set_self hiσ] at e2
        cases e2
        exact ⟨u, r, .inl ⟨hk, by simp⟩⟩
      · rw [List.getElem?_set_ne (Ne.symm hj)] at e2
        obtain ⟨u', r', q⟩ := hl j y v' e1 e2 e3
        refine ⟨u', r', ?_⟩
        rcases q with ⟨k, e⟩ | ⟨k, c, e, z⟩
        · refine .inl ⟨k, ?_⟩
          have : y ≠ x := fun e => hj (nodup_ix hN e1 (e ▸ hi))
          simp [this, e]
        · exact .inr ⟨k, c, e, z.sameBut hs (cne y c e)⟩
    · obtain ⟨w', z⟩ := I.cell y c e
      exact ⟨w', z.sameBut hs (cne y c e)⟩
    · obtain ⟨e, n, ne, nf, d⟩ := I.pin p hp
      exact ⟨(hs.2 p.1 ne).trans e, n, ne, nf, d⟩
  · have hfn : X.fn x = true := by
      rcases hf with z | z
      · exact z
      · rw [z] at hk; cases hk
    obtain ⟨c, hc⟩ := I.ok.has x (.inl hk)
    obtain ⟨w', z⟩ := I.cell x c hc
    refine wpAny_storeName_cell I.ok.kind hk hc z (fun h' hc' hs => ?_)
    obtain ⟨oc, hoc, hocd⟩ := id z
    refine h { s with heap := h' } ⟨I.ok, I.os, I.bare, ⟨fun b o e n hb hx => ?_, fun b o e n hb hx => ?_, I.base.free, fun b o e hx => ?_, I.base.tups, I.base.frzs, I.base.tbls⟩, ⟨m, hn.sameBut hs (Ne.symm (cne x c hc)), fun j y v' e1 e2 e3 => ?_⟩, fun y c' e => ?_, I.free, I.freeC, fun p hp => ?_, tracked ⟨oc, hoc, I.freeC x c hc⟩ hs, by simpa using I.len⟩ ⟨c, hs, .inr hc⟩
    · exact (hs.2 b (Nat.ne_of_lt (Nat.lt_of_lt_of_le (Heap.lt_size e) (I.ok.cab x c hfn hc)))).trans (I.base.keep b o e n hb hx)
    · obtain ⟨sl, e1⟩ := I.base.slot b o e n hb hx
      exact ⟨sl, (hs.2 b (Nat.ne_of_lt (Nat.lt_of_lt_of_le (Heap.lt_size e) (I.ok.cab x c hfn hc)))).trans e1⟩
    · obtain ⟨o', e1⟩ := I.base.there b o e hx
      exact ⟨o', (hs.2 b (Nat.ne_of_lt (Nat.lt_of_lt_of_le (Heap.lt_size e) (I.ok.cab x c hfn hc)))).trans e1⟩
    · by_cases hj : j = i
      · subst hj
        rw [hi] at e1; cases e1
        rw [List.getElem?_set_self hiσ] at e2
        cases e2
        exact ⟨u, r, .inr ⟨.inl hk, c, hc, hc'⟩⟩
      · rw [List.getElem?_set_ne (Ne.symm hj)] at e2
        obtain ⟨u', r', q⟩ := hl j y v' e1 e2 e3
        refine ⟨u', r', ?_⟩
        rcases q with q | ⟨k, c', e, z'⟩
        · exact .inl q
        · refine .inr ⟨k, c', e, z'.sameBut hs ?_⟩
          rintro rfl
          exact hj (nodup_ix hN e1 (I.ok.inj _ _ _ e hc ▸ hi))
    · by_cases hcc : c' = c
      · subst hcc; exact ⟨_, hc'⟩
      · obtain ⟨w2, z2⟩ := I.cell y c' e
        exact ⟨w2, z2.sameBut hs hcc⟩
    · obtain ⟨e, n, ne, nf, d⟩ := I.pin p hp
      refine ⟨(hs.2 p.1 ?_).trans e, n, ne, nf, d⟩
      intro q
      rw [q, hoc] at e
      have q' : oc = p.2 := Option.some.inj e
      exact d w' (by rw [← q']; exact hocd)
theorem store_ok {M : Model} {A : Around} {E : Value → Shared → Prop} {i : Nat} {x : Str} {v : V} {u : Value} {Q : Unit → Shared → Prop} (I : Inv X pins σ H s) (hN : X.N.Nodup) (hi : X.N[i]? = some x) (hx : Loc X.env.scope x) (r : RelV v u)
    (h : ∀ s', Inv X pins (σ.set i (some v)) H s' → Q () s') (hf : X.fn x = true ∨ X.env.scope.names.lookup x = some .local := by first | exact .inl rfl | exact .inr rfl | assumption) : wpAny M A (storeName X.env x u) Q E s :=
  store_ok2 I hN hi hx r (fun s' I' _ => h s' I') hf
/-- behind a call or a block, the state as it is -/
theorem Inv.call' {s' : Shared} {ch : List Addr} (I : Inv X pins σ H s) (ho : s'.os = s.os) (u : Un (frs X.stack) ch H H' s.heap s'.heap) (hok : HOk X.prog X.w H' s'.heap) (hg : AllBare s'.gens)
    (hch : ∀ b ∈ ch, (b ∈ X.ex ∨ X.s₀.heap.objs.size ≤ b) ∧ b ≠ X.env.locals ∧ (∀ x c, X.env.cells.lookup x = some c → c ≠ b) ∧ ∀ p ∈ X.pn ++ pins, p.1 ≠ b) : Inv X pins σ H' s' := by
  obtain ⟨h', g', d', t', o'⟩ := s'
  have e : o' = s.os := ho
  subst e
  exact I.call (g' := g') (t' := t') (d' := d') u hok hg hch
end

/-! ### the judgements -/
/-- an exception: its class, its own dict's address (where it has one), the abstract heap behind it -/
abbrev XK := Value → Option Addr → Hp → Prop
abbrev St := List (Option V)
abbrev VK := V → Hp → Prop
/-- an expression's reading; a test's; an argument list's -/
abbrev TE := St → Hp → VK → Prop
abbrev TT := St → Hp → (Bool → Hp → Prop) → Prop
abbrev TA := St → Hp → (List V → Hp → Prop) → Prop
/-- what is wanted behind a statement -/
structure Ends where
  nx : St → Hp → Prop
  rt : VK
  bk : St → Hp → Prop := fun _ _ => False
  ct : St → Hp → Prop := fun _ _ => False
abbrev TS := Ends → St → Hp → Prop

def EP (X : Cx) (pins : List (Addr × Obj)) (σ : St) (Q : VK) (u : Value) (s' : Shared) : Prop := ∃ v H', Inv X pins σ H' s' ∧ RelV v u ∧ Q v H'
def TP (X : Cx) (pins : List (Addr × Obj)) (σ : St) (Q : Bool → Hp → Prop) (b : Bool) (s' : Shared) : Prop := ∃ H', Inv X pins σ H' s' ∧ Q b H'
def AP (X : Cx) (pins : List (Addr × Obj)) (σ : St) (Q : List V → Hp → Prop) (us : List Value) (s' : Shared) : Prop := ∃ vs H', Inv X pins σ H' s' ∧ Vals vs us ∧ Q vs H'
def SP (X : Cx) (pins : List (Addr × Obj)) (D : Ends) (f : Flow) (s' : Shared) : Prop :=
  match f with
  | .next => ∃ σ' H', Inv X pins σ' H' s' ∧ D.nx σ' H'
  | .brk => ∃ σ' H', Inv X pins σ' H' s' ∧ D.bk σ' H'
  | .cont => ∃ σ' H', Inv X pins σ' H' s' ∧ D.ct σ' H'
  | .ret u => ∃ v σ' H', Inv X pins σ' H' s' ∧ RelV v u ∧ D.rt v H'

def PE (X : Cx) (e : Expr) (t : TE) : Prop :=
  ∀ (pins : List (Addr × Obj)) (s : Shared) (σ : St) (H : Hp) (Q : VK), Inv X pins σ H s → t σ H Q → wpAny (model X.prog X.w) X.A (eval e X.env) (EP X pins σ Q) X.xe s
def PT (X : Cx) (e : Expr) (t : TT) : Prop :=
  ∀ (pins : List (Addr × Obj)) (s : Shared) (σ : St) (H : Hp) (Q : Bool → Hp → Prop), Inv X pins σ H s → t σ H Q → wpAny (model X.prog X.w) X.A (isTrue e X.env (eval e X.env)) (TP X pins σ Q) X.xe s
/-- a test whatever its 'whole' is (and, or) -/
def PW (X : Cx) (e : Expr) (t : TT) : Prop :=
  ∀ (whole : Sem Value) (pins : List (Addr × Obj)) (s : Shared) (σ : St) (H : Hp) (Q : Bool → Hp → Prop), Inv X pins σ H s → t σ H Q → wpAny (model X.prog X.w) X.A (isTrue e X.env whole) (TP X pins σ Q) X.xe s
theorem PW.pt {X : Cx} {e : Expr} {t : TT} (h : PW X e t) : PT X e t := h _
/-- an argument list (no star), from the left -/
def PA (X : Cx) (es : List Expr) (t : TA) : Prop :=
  ∀ (pos : Pos) (pins : List (Addr × Obj)) (s : Shared) (σ : St) (H : Hp) (Q : List V → Hp → Prop), Inv X pins σ H s → t σ H Q → wpAny (model X.prog X.w) X.A (spliced (backTo pos (starEach es X.env))) (AP X pins σ Q) X.xe s
def PS (X : Cx) (st : Stmt) (t : TS) : Prop :=
  ∀ (pins : List (Addr × Obj)) (s : Shared) (σ : St) (H : Hp) (D : Ends), Inv X pins σ H s → t D σ H → wpAny (model X.prog X.w) X.A (exec st X.env) (SP X pins D) X.xe s
def PSs (X : Cx) (st : List Stmt) (t : TS) : Prop :=
  ∀ (pins : List (Addr × Obj)) (s : Shared) (σ : St) (H : Hp) (D : Ends), Inv X pins σ H s → t D σ H → wpAny (model X.prog X.w) X.A (execs st X.env) (SP X pins D) X.xe s
/-- weaken the end -/
theorem thn {α : Type} {t : Sem α} {Q Q' : α → Shared → Prop} {M : Model} {A : Around} {E : Value → Shared → Prop} {s : Shared} (h : wpAny M A t Q E s) (hQ : ∀ a s, Q a s → Q' a s) : wpAny M A t Q' E s := wpAny_mono h hQ fun _ _ x => x
end L2

namespace L2
open PySem PySem.Spec PyProof.Rows
section
variable {X : Cx}

/-! ### names and constants -/
def tVar (i : Nat) : TE := fun σ H Q => ∃ v, σ[i]? = some (some v) ∧ Q v H
def tC (v : V) : TE := fun _ H Q => Q v H
theorem pe_var {i : Nat} {x : Str} {pos : Pos} (hN : X.N[i]? = some x) (hv : Vis X.env.scope x) (hd : (x == ("__debug__" : Str)) = false := by decide) (hcd : (x == ("__classdict__" : Str)) = false := by decide) : PE X (.Name x pos) (tVar i) := by
  intro pins s σ H Q I h
  obtain ⟨v, e, h⟩ := h
  obtain ⟨m, hn, hl⟩ := I.loc
  obtain ⟨u, r, l⟩ := hl i x v hN e hv
  have fin : EP X pins σ Q u s := ⟨v, H, I, r, h⟩
  rcases l with ⟨hk, hm⟩ | ⟨hk, c, hc, hcell⟩
  · exact wpAny_Name (wpAny_loadName_local I.ok.kind hk hn hm fin) hd
  · rcases hk with hk | hk
    · exact wpAny_Name (wpAny_loadName_cell I.ok.kind hk hc hcell fin) hd
    · exact wpAny_Name (wpAny_loadName_free I.ok.kind hk hc hcell fin hcd) hd
theorem pe_int {i j pos} : PE X (.Constant (.int i) j pos) (tC (.int i)) := fun _ _ _ H _ I h => wpAny_Constant_int ⟨.int i, H, I.tok _, ⟨_, rfl⟩, h⟩
theorem pe_bl {b j pos} : PE X (.Constant (.bool b) j pos) (tC (.bl b)) := fun _ _ _ H _ I h => Constant_bool ⟨.bl b, H, I, rfl, h⟩
theorem pe_str {x j pos} : PE X (.Constant (.str x) j pos) (tC (.str x)) := fun _ _ _ H _ I h => Calls.Constant_str ⟨.str x, H, I.tok _, ⟨_, rfl⟩, h⟩

/-- a global name of the def -/
def Gl (X : Cx) (x : Str) : Prop := X.env.kindOf x = some .globalImplicit
theorem ld_glob {E : Value → Shared → Prop} {pins : List (Addr × Obj)} {s : Shared} {σ : St} {H : Hp} {x : Str} {u : Value} {pos : Pos} {Q : Value → Shared → Prop} (I : Inv X pins σ H s) (hg : Gl X x) (hm : X.mg x = some u) (h : Q u s)
    (hd : (x == ("__debug__" : Str)) = false := by decide) : wpAny (model X.prog X.w) X.A (eval (.Name x pos) X.env) Q E s :=
  Calls.Name_function_global I.ok.kind hg (Calls.loadGlobal_global (by rw [I.ok.glob]; exact I.mod.glob.keeps I.bk) hm h) hd
theorem ld_blt {E : Value → Shared → Prop} {pins : List (Addr × Obj)} {s : Shared} {σ : St} {H : Hp} {x : Str} {u : Value} {pos : Pos} {Q : Value → Shared → Prop} (I : Inv X pins σ H s) (hg : Gl X x) (hm : X.mg x = none) (hv : bootBuiltins x = some u) (h : Q u s)
    (hn : x ≠ "__name__" := by decide) (hd : (x == ("__debug__" : Str)) = false := by decide) : wpAny (model X.prog X.w) X.A (eval (.Name x pos) X.env) Q E s := by
  obtain ⟨mb, h1, h2⟩ := I.mod.blt
  exact Calls.Name_function_global I.ok.kind hg (Calls.loadGlobal_builtin (by rw [I.ok.glob]; exact I.mod.glob.keeps I.bk) hm (by rw [I.ok.blt]; exact h1.keeps I.bk) ((h2 x hn).trans hv) h) hd
theorem pe_bltn {x : Str} {v : V} {u : Value} {pos : Pos} (hg : Gl X x) (hm : X.mg x = none) (hv : bootBuiltins x = some u) (r : RelV v u) (hn : x ≠ "__name__" := by decide) (hd : (x == ("__debug__" : Str)) = false := by decide) : PE X (.Name x pos) (tC v) :=
  fun _ _ _ H _ I h => ld_blt I hg hm hv ⟨v, H, I, r, h⟩ hn hd

/-! ### arithmetic -/
/-- two ints -/
def t2I (ta tb : TE) (k : Int → Int → Hp → Prop) : St → Hp → Prop := fun σ H => ta σ H fun x H1 => tb σ H1 fun y H2 => ∃ i j, x = .int i ∧ y = .int j ∧ k i j H2
def tAdd (ta tb : TE) : TE := fun σ H Q => t2I ta tb (fun i j H2 => Q (.int (i + j)) H2) σ H
def tSub (ta tb : TE) : TE := fun σ H Q => t2I ta tb (fun i j H2 => Q (.int (i - j)) H2) σ H
/-- the left factor below 2^64 -/
def tMul (ta tb : TE) : TE := fun σ H Q => t2I ta tb (fun i j H2 => (-(2 ^ 64) < i ∧ i < 2 ^ 64) ∧ Q (.int (i * j)) H2) σ H
variable {a b : Expr} {ta tb : TE} {pos : Pos}
/-! ### comparisons -/
def PC (X : Cx) (op : CmpOp) (a b : Expr) (t : TE) : Prop :=
  ∀ (pins : List (Addr × Obj)) (s : Shared) (σ : St) (H : Hp) (Q : VK), Inv X pins σ H s → t σ H Q →
    wpAny (model X.prog X.w) X.A (eval a X.env) (fun v s₁ => wpAny (model X.prog X.w) X.A (eval b X.env) (fun u s₂ => wpAny (model X.prog X.w) X.A (compareOp op v u) (EP X pins σ Q) X.xe s₂) X.xe s₁) X.xe s
def tCmp (p : Int → Int → Bool) (ta tb : TE) : TE := fun σ H Q => t2I ta tb (fun i j H2 => Q (.bl (p i j)) H2) σ H
abbrev tLt : TE → TE → TE := tCmp fun i j => decide (i < j)
abbrev tLe : TE → TE → TE := tCmp fun i j => decide (i ≤ j)
abbrev tGt : TE → TE → TE := tCmp fun i j => decide (j < i)
abbrev tGe : TE → TE → TE := tCmp fun i j => decide (j ≤ i)
abbrev tEqI : TE → TE → TE := tCmp fun i j => decide (i = j)
abbrev tNeI : TE → TE → TE := tCmp fun i j => !decide (i = j)
/-- is None -/
def tIsN (ta : TE) : TE := fun σ H Q => ta σ H fun x H1 => Q (.bl (decide (x = .non))) H1
def tNotN (ta : TE) : TE := fun σ H Q => ta σ H fun x H1 => Q (.bl (!decide (x = .non))) H1
/-- a comparison as a value, as a test -/
def tB (t : TE) : TT := fun σ H Q => t σ H fun x H1 => ∃ c, x = .bl c ∧ Q c H1
/-- an expression whose value is a bool, as a test -/
theorem pt_val {e : Expr} {t : TE} (h : PE X e t) (he : ∀ whole, isTrue e X.env whole = (do let v ← whole; standAt e.pos; holding [v] (truthy v)) := by intro _; rfl) : PT X e (tB t) := by
  intro pins s σ H Q I hw
  refine isTrue_plain (thn (h pins s σ H _ I hw) fun v s1 ⟨x, H1, I1, r1, q1⟩ => ?_) (he _)
  obtain ⟨d, rfl, q⟩ := q1
  cases r1
  exact wpAny_truthy_bool ⟨H1, I1, q⟩

/-! ### and, or, not -/
variable {tA tB' : TT} {rest : List Expr}
def tAnd (t u : TT) : TT := fun σ H Q => t σ H fun c H1 => if c = true then u σ H1 Q else Q false H1
def tOr (t u : TT) : TT := fun σ H Q => t σ H fun c H1 => if c = true then Q true H1 else u σ H1 Q
def tNot (t : TT) : TT := fun σ H Q => t σ H fun c H1 => Q (!c) H1
theorem pw_and1 (ha : PT X a tA) : PW X (.BoolOp .And [a] pos) tA := by
  intro wh pins s σ H Q I h
  refine isTrue_and (thn (ha pins s σ H Q I h) fun c s1 e => ?_)
  cases c with
  | true => exact isTrue_and_nil e
  | false => exact e
theorem pw_or1 (ha : PT X a tA) : PW X (.BoolOp .Or [a] pos) tA := by
  intro wh pins s σ H Q I h
  refine isTrue_or (thn (ha pins s σ H Q I h) fun c s1 e => ?_)
  cases c with
  | false => exact isTrue_or_nil e
  | true => exact e
theorem pw_and (ha : PT X a tA) (hb : PW X (.BoolOp .And (b :: rest) pos) tB') : PW X (.BoolOp .And (a :: b :: rest) pos) (tAnd tA tB') := by
  intro wh pins s σ H Q I h
  refine isTrue_and (thn (ha pins s σ H _ I h) fun c s1 ⟨H1, I1, q1⟩ => ?_)
  cases c with
  | true => exact hb wh pins s1 σ H1 Q I1 q1
  | false => exact ⟨H1, I1, q1⟩
theorem pw_or (ha : PT X a tA) (hb : PW X (.BoolOp .Or (b :: rest) pos) tB') : PW X (.BoolOp .Or (a :: b :: rest) pos) (tOr tA tB') := by
  intro wh pins s σ H Q I h
  refine isTrue_or (thn (ha pins s σ H _ I h) fun c s1 ⟨H1, I1, q1⟩ => ?_)
  cases c with
  | true => exact ⟨H1, I1, q1⟩
  | false => exact hb wh pins s1 σ H1 Q I1 q1
theorem pt_not (ha : PT X a tA) : PT X (.UnaryOp .Not a pos) (tNot tA) := by
  intro pins s σ H Q I h
  exact isTrue_not (ha pins s σ H (fun c H1 => Q (!c) H1) I h)
/-- .. as values (bools) -/
def tAndV (ta tb : TE) : TE := fun σ H Q => ta σ H fun x H1 => ∃ c, x = .bl c ∧ if c = true then tb σ H1 Q else Q (.bl false) H1
def tOrV (ta tb : TE) : TE := fun σ H Q => ta σ H fun x H1 => ∃ c, x = .bl c ∧ if c = true then Q (.bl true) H1 else tb σ H1 Q
def tNotV (ta : TE) : TE := fun σ H Q => ta σ H fun x H1 => ∃ c, x = .bl c ∧ Q (.bl (!c)) H1
theorem pe_one {op} {t : TE} (h : PE X a t) : PE X (.BoolOp op [a] pos) t := fun pins s σ H Q I hw => BoolOp_one (h pins s σ H Q I hw)
theorem pe_and (ha : PE X a ta) (hb : PE X (.BoolOp .And (b :: rest) pos) tb) : PE X (.BoolOp .And (a :: b :: rest) pos) (tAndV ta tb) := by
  intro pins s σ H Q I h
  refine BoolOp_and (thn (ha pins s σ H _ I h) fun v s1 ⟨x, H1, I1, r1, q1⟩ => ?_)
  obtain ⟨c, rfl, q1⟩ := q1
  cases r1
  refine wpAny_truthy_bool ?_
  cases c with
  | true => exact hb pins s1 σ H1 Q I1 q1
  | false => exact ⟨.bl false, H1, I1, rfl, q1⟩
/-- a if t else b -/
def tIf (t : TT) (ta tb : TE) : TE := fun σ H Q => t σ H fun c H1 => if c = true then ta σ H1 Q else tb σ H1 Q
end
end L2

namespace L2
open PySem PySem.Spec PyProof.Rows

/-! ### a list, a tuple that is read: tracked, frozen, or an object of the module -/
def SqL (K : PySem.W.Frag) (H : Hp) (a : Addr) (xs : List V) : Prop :=
  Rd H a (.lst xs) ∨
    ∃ (o : Obj) (its : Array Value) (n : Nat), K.lookup a = some o ∧ o.cls = .type "list" ∧ o.dict = none ∧ o.data = .seq its n ∧ its.size ≤ sizeLine ∧ Vals xs its.toList
def SqT (K : PySem.W.Frag) (H : Hp) (a : Addr) (xs : List V) : Prop :=
  Rd H a (.tup xs) ∨
    ∃ (o : Obj) (its : Array Value) (n : Nat), K.lookup a = some o ∧ o.cls = .type "tuple" ∧ o.data = .seq its n ∧ its.size ≤ sizeLine ∧ Vals xs its.toList
def absV : Value → Option V
  | .none => some .non
  | .bool b => some (.bl b)
  | .int i _ => some (.int i)
  | .str x _ => some (.str x)
  | .bytes b _ => some (.byt b)
  | .float b _ => some (.flt b)
  | .ref a => some (.ref a)
  | .type n => some (.ty n)
  | _ => none
theorem RelV.abs {x : V} {u : Value} (r : RelV x u) : absV u = some x := by
  cases x with
  | non => cases r; rfl
  | bl _ => cases r; rfl
  | int _ => obtain ⟨t, rfl⟩ := r; rfl
  | str _ => obtain ⟨t, rfl⟩ := r; rfl
  | byt _ => obtain ⟨t, rfl⟩ := r; rfl
  | flt _ => obtain ⟨t, rfl⟩ := r; rfl
  | ref _ => cases r; rfl
  | ty _ => cases r; rfl
theorem RelV.inj {x y : V} {u : Value} (r : RelV x u) (q : RelV y u) : x = y := Option.some.inj (r.abs.symm.trans q.abs)
theorem Vals.inj : ∀ {xs ys : List V} {us : List Value}, Vals xs us → Vals ys us → xs = ys
  | _, _, _, .nil, .nil => rfl
  | _, _, _, .cons r t, .cons r' t' => by rw [r.inj r', Vals.inj t t']
section
variable {X : Cx} {pins : List (Addr × Obj)} {σ : St} {H : Hp} {s : Shared} {a : Addr} {xs ys : List V}
theorem SqL.of {K : PySem.W.Frag} (h : H a = some (.lst xs)) : SqL K H a xs := .inl (.inl h)
theorem SqT.of {K : PySem.W.Frag} (h : H a = some (.tup xs)) : SqT K H a xs := .inl (.inl h)
theorem Inv.list (I : Inv X pins σ H s) (h : SqL X.K H a xs) : ∃ its : List Value, Vals xs its ∧ PlainL s.heap a its.toArray ∧ xs.length ≤ sizeLine := by
  rcases h with h | ⟨o, its, n, hk, hc, hd, hs, hz, r⟩
  · obtain ⟨z, its, n, r, e⟩ := h.ok I.hok
    exact ⟨its, r, ⟨_, n, e, rfl, rfl, rfl⟩, z⟩
  · refine ⟨its.toList, r, ⟨o, n, I.kIn a o hk, hc, hd, by simpa using hs⟩, ?_⟩
    have e := r.length
    simp only [Array.length_toList] at e
    omega
theorem Inv.tuple (I : Inv X pins σ H s) (h : SqT X.K H a xs) : ∃ its : List Value, Vals xs its ∧ IsTup s.heap a its.toArray ∧ xs.length ≤ sizeLine := by
  rcases h with h | ⟨o, its, n, hk, hc, hs, hz, r⟩
  · obtain ⟨z, its, r, p⟩ := h.ok I.hok
    exact ⟨its, r, p, z⟩
  · refine ⟨its.toList, r, ⟨o, I.kIn a o hk, hc, n, by simpa using hs⟩, ?_⟩
    have e := r.length
    simp only [Array.length_toList] at e
    omega
theorem Inv.list_inj (I : Inv X pins σ H s) (h : SqL X.K H a xs) (h' : SqL X.K H a ys) : xs = ys := by
  obtain ⟨its, r, ⟨o, n, e, _, _, d⟩, _⟩ := I.list h
  obtain ⟨its', r', ⟨o', n', e', _, _, d'⟩, _⟩ := I.list h'
  rw [e] at e'; cases e'
  rw [d] at d'
  injection d' with d1 _
  have : its = its' := by simpa using congrArg Array.toList d1
  subst this
  exact r.inj r'
theorem Inv.tuple_inj (I : Inv X pins σ H s) (h : SqT X.K H a xs) (h' : SqT X.K H a ys) : xs = ys := by
  obtain ⟨its, r, ⟨o, e, _, n, d⟩, _⟩ := I.tuple h
  obtain ⟨its', r', ⟨o', e', _, n', d'⟩, _⟩ := I.tuple h'
  rw [e] at e'; cases e'
  rw [d] at d'
  injection d' with d1 _
  have : its = its' := by simpa using congrArg Array.toList d1
  subst this
  exact r.inj r'
end

/-! ### another wish about exceptions -/
abbrev Cx.wish (X : Cx) (E : Value → Shared → Prop) : Cx := { X with xe := E }
/-- no exception leaves -/
abbrev Cx.nox (X : Cx) : Cx := X.wish fun _ _ => False
theorem Cx.Ok.wish {X : Cx} (ok : X.Ok) (E : Value → Shared → Prop) : (X.wish E).Ok :=
  ⟨ok.mod, ok.kind, ok.glob, ok.blt, ok.above, ok.inj, ok.has, ok.cab, ok.hd, ok.frames, ok.stk, ok.exf, ok.bs, ok.bsz, ok.noex, ok.exfs, ok.funs, ok.frf⟩
theorem Cx.Ok.unwish {X : Cx} {E : Value → Shared → Prop} (ok : (X.wish E).Ok) : X.Ok :=
  ⟨ok.mod, ok.kind, ok.glob, ok.blt, ok.above, ok.inj, ok.has, ok.cab, ok.hd, ok.frames, ok.stk, ok.exf, ok.bs, ok.bsz, ok.noex, ok.exfs, ok.funs, ok.frf⟩
section
variable {X : Cx} {pins : List (Addr × Obj)} {σ : St} {H : Hp} {s : Shared} {E : Value → Shared → Prop}
theorem Inv.wish (I : Inv X pins σ H s) (E : Value → Shared → Prop) : Inv (X.wish E) pins σ H s := ⟨I.ok.wish E, I.os, I.bare, I.base, I.loc, I.cell, I.free, I.freeC, I.pin, I.hok, I.len⟩
theorem Inv.unwish (I : Inv (X.wish E) pins σ H s) : Inv X pins σ H s := ⟨I.ok.unwish, I.os, I.bare, I.base, I.loc, I.cell, I.free, I.freeC, I.pin, I.hok, I.len⟩
theorem SP.unwish {D : Ends} {f : Flow} {s' : Shared} (h : SP (X.wish E) pins D f s') : SP X pins D f s' := by
  cases f with
  | next => obtain ⟨σ', H', I, q⟩ := h; exact ⟨σ', H', I.unwish, q⟩
  | brk => obtain ⟨σ', H', I, q⟩ := h; exact ⟨σ', H', I.unwish, q⟩
  | cont => obtain ⟨σ', H', I, q⟩ := h; exact ⟨σ', H', I.unwish, q⟩
  | ret u => obtain ⟨v, σ', H', I, r, q⟩ := h; exact ⟨v, σ', H', I.unwish, r, q⟩
theorem PE.nox {e : Expr} {t : TE} (h : PE X.nox e t) : PE X e t := fun pins s σ H Q I hw =>
  wpAny_mono (h pins s σ H Q (I.wish _) hw) (fun _ _ ⟨v, H', I', r, q⟩ => ⟨v, H', I'.unwish, r, q⟩) fun _ _ z => False.elim z
theorem PT.nox {e : Expr} {t : TT} (h : PT X.nox e t) : PT X e t := fun pins s σ H Q I hw =>
  wpAny_mono (h pins s σ H Q (I.wish _) hw) (fun _ _ ⟨H', I', q⟩ => ⟨H', I'.unwish, q⟩) fun _ _ z => False.elim z
theorem PSs.nox {st : List Stmt} {t : TS} (h : PSs X.nox st t) : PSs X st t := fun pins s σ H D I hw =>
  wpAny_mono (h pins s σ H D (I.wish _) hw) (fun _ _ q => q.unwish) fun _ _ z => False.elim z
end

/-! ### blocks and small statements -/
section
variable {X : Cx} {st : Stmt} {rest : List Stmt} {t u : TS} {e : Expr} {te : TE} {pos : Pos}
def tNext : TS := fun D σ H => D.nx σ H
def tSeq (t u : TS) : TS := fun D σ H => t { D with nx := u D } σ H
theorem pss_nil : PSs X [] tNext := fun _ _ σ H _ I h => wpAny_execs_nil ⟨σ, H, I, h⟩
theorem pss_cons (h1 : PS X st t) (h2 : PSs X rest u) : PSs X (st :: rest) (tSeq t u) := by
  intro pins s σ H D I h
  refine wpAny_execs_cons (thn (h1 pins s σ H { D with nx := u D } I h) fun f s1 q => ?_)
  cases f with
  | next =>
    obtain ⟨σ', H', I', q⟩ := q
    exact h2 pins s1 σ' H' D I' q
  | ret v => exact q
  | brk => exact q
  | cont => exact q
theorem pss_one (h1 : PS X st t) : PSs X [st] t := by
  intro pins s σ H D I h
  refine wpAny_execs_cons (thn (h1 pins s σ H D I h) fun f s1 q => ?_)
  cases f with
  | next => exact wpAny_execs_nil q
  | ret v => exact q
  | brk => exact q
  | cont => exact q
def tBreak : TS := fun D σ H => D.bk σ H
def tCont : TS := fun D σ H => D.ct σ H
/-- in a def's body nothing is shown -/
theorem Inv.quiet {pins : List (Addr × Obj)} {σ : St} {H : Hp} {s : Shared} (I : Inv X pins σ H s) : interactive X.env = false := by simp [interactive, I.ok.kind]
/-- an expression whose value is dropped -/
def tDrop (te : TE) : TS := fun D σ H => te σ H fun _ H1 => D.nx σ H1
theorem ps_expr (he : PE X e te) (hs : swapsWith e none pos.line X.env = pure false := by rfl) : PS X (.Expr e pos) (tDrop te) := by
  intro pins s σ H D I h
  exact wpAny_Expr_any (thn (he pins s σ H _ I h) fun v s1 ⟨x, H1, I1, r1, q1⟩ => ⟨σ, H1, I1, q1⟩) I.quiet hs
def tRet (te : TE) : TS := fun D σ H => te σ H D.rt
theorem ps_ret (he : PE X e te) : PS X (.Return (some e) pos) (tRet te) := by
  intro pins s σ H D I h
  exact wpAny_Return_some (thn (he pins s σ H _ I h) fun v s1 ⟨x, H1, I1, r1, q1⟩ => ⟨x, σ, H1, I1, r1, q1⟩)
def tRetN : TS := fun D _ H => D.rt .non H
def tIfS (c : TT) (t u : TS) : TS := fun D σ H => c σ H fun b H1 => if b = true then t D σ H1 else u D σ H1
theorem ps_if {c : Expr} {a b : List Stmt} {tc : TT} (hc : PT X c tc) (ha : PSs X a t) (hb : PSs X b u) : PS X (.If c a b pos) (tIfS tc t u) := by
  intro pins s σ H D I h
  refine wpAny_If (thn (hc pins s σ H _ I h) fun d s1 ⟨H1, I1, q1⟩ => ?_)
  cases d with
  | true => exact ha pins s1 σ H1 D I1 q1
  | false => exact hb pins s1 σ H1 D I1 q1
/-- code that the proof never comes to -/
def tNever : TS := fun _ _ _ => False
end

/-! ### targets -/
abbrev TG := V → St → Hp → (St → Hp → Prop) → Prop
abbrev TGs := List V → St → Hp → (St → Hp → Prop) → Prop
def PG (X : Cx) (target : Expr) (t : TG) : Prop :=
  ∀ (pins : List (Addr × Obj)) (s : Shared) (σ : St) (H : Hp) (v : V) (u : Value) (Q : St → Hp → Prop), Inv X pins σ H s → RelV v u → t v σ H Q →
    wpAny (model X.prog X.w) X.A (assign target X.env u) (fun _ s' => ∃ σ' H', Inv X pins σ' H' s' ∧ Q σ' H') X.xe s
/-- several targets, one after another -/
def PGs (X : Cx) (ts : List Expr) (t : TGs) : Prop :=
  ∀ (pins : List (Addr × Obj)) (s : Shared) (σ : St) (H : Hp) (vs : List V) (us : List Value) (Q : St → Hp → Prop), Inv X pins σ H s → Vals vs us → t vs σ H Q →
    wpAny (model X.prog X.w) X.A (assignInOrder ((assignEach ts X.env).map (·.2)) us) (fun _ s' => ∃ σ' H', Inv X pins σ' H' s' ∧ Q σ' H') X.xe s
/-- o[i] = v, by values -/
abbrev TSet := V → V → V → Hp → (Hp → Prop) → Prop
def PSet (X : Cx) (t : TSet) : Prop :=
  ∀ (pins : List (Addr × Obj)) (s : Shared) (σ : St) (H : Hp) (o i v : V) (ov iv u : Value) (Q : Hp → Prop), Inv X pins σ H s → RelV o ov → RelV i iv → RelV v u → t o i v H Q →
    wpAny (model X.prog X.w) X.A (setItem ov iv u) (fun _ s' => ∃ H', Inv X pins σ H' s' ∧ Q H') X.xe s
/-- a op= b, by values -/
abbrev TIp := V → V → Hp → VK → Prop
def PIp (X : Cx) (op : Operator) (t : TIp) : Prop :=
  ∀ (pins : List (Addr × Obj)) (s : Shared) (σ : St) (H : Hp) (x y : V) (v u : Value) (Q : VK), Inv X pins σ H s → RelV x v → RelV y u → t x y H Q →
    wpAny (model X.prog X.w) X.A (inplaceOp op v u) (EP X pins σ Q) X.xe s
section
variable {X : Cx} {pos : Pos}
def gName (i : Nat) : TG := fun v σ H Q => Q (σ.set i (some v)) H
theorem pg_name {i : Nat} {x : Str} (hN : X.N.Nodup) (hi : X.N[i]? = some x) (hx : Loc X.env.scope x) (hf : X.fn x = true ∨ X.env.scope.names.lookup x = some .local := by first | exact .inl rfl | exact .inr rfl | assumption) : PG X (.Name x pos) (gName i) := by
  intro pins s σ H v u Q I r h
  exact wpAny_assign_Name (store_ok I hN hi hx r (fun s' I' => ⟨_, H, I', h⟩) hf)
def gNil : TGs := fun vs σ H Q => vs = [] ∧ Q σ H
def gCons (t : TG) (u : TGs) : TGs := fun vs σ H Q => ∃ v r, vs = v :: r ∧ t v σ H fun σ' H' => u r σ' H' Q
theorem pgs_nil : PGs X [] gNil := by
  intro pins s σ H vs us Q I r h
  obtain ⟨e, h⟩ := h
  subst e
  cases r
  exact assignInOrder_nil ⟨σ, H, I, h⟩
theorem pgs_cons {e : Expr} {es : List Expr} {t : TG} {u : TGs} (h1 : PG X e t) (h2 : PGs X es u)
    (hs : (assignEach (e :: es) X.env).map (·.2) = assign e X.env :: (assignEach es X.env).map (·.2) := by rfl) : PGs X (e :: es) (gCons t u) := by
  intro pins s σ H vs us Q I r h
  obtain ⟨v, vr, e1, h⟩ := h
  subst e1
  cases r with
  | cons r rr =>
    rw [hs]
    refine assignInOrder_cons (thn (h1 pins s σ H _ _ _ I r h) fun _ s1 ⟨σ1, H1, I1, q1⟩ => ?_)
    exact h2 pins s1 σ1 H1 _ _ Q I1 rr q1
/-- (a, b, ..) = a tuple of that length -/
def gTup (K : PySem.W.Frag) (n : Nat) (t : TGs) : TG := fun v σ H Q => ∃ a xs, v = .ref a ∧ SqT K H a xs ∧ xs.length = n ∧ t xs σ H Q
theorem pg_tup {es : List Expr} {k : Nat} {t : TGs} {n : Nat} (hc : X.calm = true) (h : PGs X es t)
    (hn : (assignEach es X.env).length = n := by rfl) (hst : (assignEach es X.env).findIdx? (·.1) = none := by rfl) : PG X (.Tuple es k pos) (gTup X.K n t) := by
  intro pins s σ H v u Q I r hw
  obtain ⟨a, xs, e1, hq, hl, hw⟩ := hw
  subst e1
  cases r
  obtain ⟨its, rv, ht, hz⟩ := I.tuple hq
  refine assign_Tuple_tuple (I.ok.hd hc) ht (by simp [hn, ← hl, rv.length]) hst fun h' hx => ?_
  have I1 : Inv X pins σ H { s with heap := h' } := I.kept (t' := s.toks) fun b o e => hx b o (Nat.ne_of_lt (Heap.lt_size e)) e
  exact h pins _ σ H xs _ Q I1 (by simpa using rv) hw
/-- o[i] = .. -/
def gSub (to ti : TE) (t : TSet) : TG := fun v σ H Q => to σ H fun o H1 => ti σ H1 fun i H2 => t o i v H2 fun H3 => Q σ H3
/-- target = value -/
def tAsg (te : TE) (g : TG) : TS := fun D σ H => te σ H fun x H1 => g x σ H1 D.nx
theorem ps_asg {tg e : Expr} {te : TE} {g : TG} (he : PE X e te) (hg : PG X tg g) (hs : swapsWithSole [tg] e pos.line X.env = pure false := by rfl) (hw : swappedStores [tg] e X.env = pure none := by rfl)
    (h1 : (assignEach [tg] X.env).map (·.2) = [assign tg X.env] := by rfl) : PS X (.Assign [tg] e pos) (tAsg te g) := by
  intro pins s σ H D I h
  refine wpAny_Assign_stores (thn (he pins s σ H _ I h) fun v s1 ⟨x, H1, I1, r1, q1⟩ => ?_) hs hw
  rw [h1]
  exact thn (hg pins s1 σ H1 x v _ I1 r1 q1) fun _ s2 q => q
/-- name = value -/
theorem ps_set {i : Nat} {x : Str} {e : Expr} {te : TE} {pos' : Pos} (hN : X.N.Nodup) (hi : X.N[i]? = some x) (hx : Loc X.env.scope x) (he : PE X e te) (hs : swapsWith e (some (.Name x pos')) pos.line X.env = pure false := by rfl) (hf : X.fn x = true ∨ X.env.scope.names.lookup x = some .local := by first | exact .inl rfl | exact .inr rfl | assumption) :
    PS X (.Assign [.Name x pos'] e pos) (tAsg te (gName i)) := by
  intro pins s σ H D I h
  refine wpAny_Assign_Name (thn (he pins s σ H _ I h) fun v s1 ⟨y, H1, I1, r1, q1⟩ => ?_) hs
  exact store_ok I1 hN hi hx r1 (fun s2 I2 => ⟨_, H1, I2, q1⟩) hf
/-- a, b = x, y with plain local names: stored from the right; the pair itself is not tracked (the opening rows as in PyProof/Rows/TupAssign.lean:23) -/
def tPar (i j : Nat) (ta : TA) : TS := fun D σ H => ta σ H fun vs H1 => ∃ v w, vs = [v, w] ∧ D.nx ((σ.set i (some v)).set j (some w)) H1
/-- name op= e -/
def tAug (i : Nat) (te : TE) (ti : TIp) : TS := fun D σ H => ∃ x, σ[i]? = some (some x) ∧ te σ H fun y H1 => ti x y H1 fun z H2 => D.nx (σ.set i (some z)) H2
/-- o[i] op= e -/
def tAugS (to ti te : TE) (tget : V → V → Hp → VK → Prop) (tip : TIp) (tset : TSet) : TS := fun D σ H => to σ H fun o H1 => ti σ H1 fun i H2 => tget o i H2 fun x H3 => te σ H3 fun y H4 => tip x y H4 fun z H5 => tset o i z H5 fun H6 => D.nx σ H6
/-- o[i], by values -/
def PGet (X : Cx) (t : V → V → Hp → VK → Prop) : Prop :=
  ∀ (pins : List (Addr × Obj)) (s : Shared) (σ : St) (H : Hp) (o i : V) (ov iv : Value) (Q : VK), Inv X pins σ H s → RelV o ov → RelV i iv → t o i H Q →
    wpAny (model X.prog X.w) X.A (getItem ov iv) (EP X pins σ Q) X.xe s
/-- ints -/
def ipI (f : Int → Int → Int) : TIp := fun x y H Q => ∃ i j, x = .int i ∧ y = .int j ∧ Q (.int (f i j)) H
end

/-! ### while -/
section
variable {X : Cx} {pos : Pos}
/-- the invariant W with its measure -/
def tWhile (c : TT) (tb : TS) : TS := fun D σ H => ∃ W : Nat → St → Hp → Prop, (∃ m, W m σ H) ∧ ∀ m σ H, W m σ H →
  c σ H fun b H1 => if b = true then ∃ N : St → Hp → Prop, (∀ σ' H', N σ' H' → ∃ m', m' < m ∧ W m' σ' H') ∧ tb { D with nx := N, ct := N, bk := D.nx } σ H1 else D.nx σ H1
theorem ps_while {c : Expr} {body : List Stmt} {tc : TT} {tb : TS} (hp : PassesOwn (model X.prog X.w) X.A X.env X.xe) (hc : PT X c tc) (hb : PSs X body tb) : PS X (.While c body [] pos) (tWhile tc tb) := by
  intro pins s σ H D I h
  obtain ⟨W, ⟨m0, w0⟩, turn⟩ := h
  refine wpAny_While (codeAny_whileLoop (fun n s' => ∃ σ' H', Inv X pins σ' H' s' ∧ W n σ' H') ?_ m0 ⟨σ, H, I, w0⟩)
  rintro n s1 ⟨σ1, H1, I1, w1⟩
  refine wpAny_passesOwn hp (thn (hc pins s1 σ1 H1 _ I1 (turn n σ1 H1 w1)) fun b s2 ⟨H2, I2, q2⟩ => ?_)
  cases b with
  | true =>
    obtain ⟨N, hN, q2⟩ := q2
    rw [if_pos rfl]
    refine wpAny_passesOwn hp (thn (hb pins s2 σ1 H2 _ I2 q2) fun f s3 q3 => ?_)
    cases f with
    | next =>
      obtain ⟨σ3, H3, I3, n3⟩ := q3
      obtain ⟨m', hm, w3⟩ := hN σ3 H3 n3
      exact ⟨m', hm, σ3, H3, I3, w3⟩
    | cont =>
      obtain ⟨σ3, H3, I3, n3⟩ := q3
      obtain ⟨m', hm, w3⟩ := hN σ3 H3 n3
      exact ⟨m', hm, σ3, H3, I3, w3⟩
    | brk => exact q3
    | ret v => exact q3
  | false =>
    rw [if_neg Bool.false_ne_true]
    exact wpAny_execs_nil ⟨σ1, H2, I2, q2⟩
end

/-! ### what a loop or a comprehension walks -/
/-- at turn i: it yields x (the heap may grow), or it stops -/
structure It where
  go : Nat → Hp → Prop
  yld : Nat → Hp → V → Hp → Prop
  stop : Nat → Hp → Prop
/-- the iterator's own objects may turn: they are not the frame's, not pinned, younger than the entry (or a comprehension's own) -/
def FpOk (X : Cx) (pins : List (Addr × Obj)) (H : Hp) (b : Addr) : Prop :=
  H b = none ∧ b ≠ X.env.locals ∧ b ∉ X.fs ∧ (b ∈ X.ex ∨ X.s₀.heap.objs.size ≤ b) ∧ (∀ x c, X.env.cells.lookup x = some c → c ≠ b) ∧ ∀ p ∈ X.pn ++ pins, p.1 ≠ b
theorem Inv.fpOk {X : Cx} {pins : List (Addr × Obj)} {σ : St} {H H' : Hp} {s : Shared} {b : Addr} (I : Inv X pins σ H s) (hb : s.heap.objs.size ≤ b) (hn : H' b = none) : FpOk X pins H' b := by
  refine ⟨hn, Nat.ne_of_gt (Nat.lt_of_lt_of_le I.lt hb), I.nofs hb, .inr (Nat.le_trans I.sz hb), fun x c e z => ?_, fun p hp z => ?_⟩
  · obtain ⟨v, q⟩ := I.cell x c e
    exact absurd (Nat.lt_of_lt_of_le q.lt (by rw [z]; exact hb)) (Nat.lt_irrefl _)
  · exact absurd (Nat.lt_of_lt_of_le (Heap.lt_size (I.pin p hp).1) (by rw [z]; exact hb)) (Nat.lt_irrefl _)
structure Turn (P : Program) (w : World) (K : PySem.W.Frag) (tg : Expr) (J : It) (fp : List Addr) (it : Addr) (tn : Nat → Heap → Prop) : Prop where
  mem : it ∈ fp
  obj : ∀ i h, tn i h → ∀ b ∈ fp, ∃ o, h.get? b = some o ∧ ∀ v, o.data ≠ .cell v
  keep : ∀ i h h', tn i h → (∀ b ∈ fp, ∀ o, h.get? b = some o → h'.get? b = some o) → tn i h'
  item : ∀ (X : Cx), X.prog = P → X.w = w → X.K = K → X.calm = true → ∀ (i : Nat) (pins : List (Addr × Obj)) (s : Shared) (σ : St) (H : Hp) (E : Value → Shared → Prop), Inv X pins σ H s → (∀ b ∈ fp, FpOk X pins H b) → tn i s.heap → J.go i H →
    wpAny (model P w) X.A (pyNext (.ref it)) (fun r s1 => ∃ u, r = some u ∧
      wpAny (model P w) X.A (letOwnedTupleGo tg (.ref it) u) (fun _ s2 => ∃ x H', Inv X pins σ H' s2 ∧ RelV x u ∧ J.yld i H x H' ∧ tn (i + 1) s2.heap ∧ ∀ b ∈ fp, H' b = none) E s1) E s
  done : ∀ (X : Cx), X.prog = P → X.w = w → X.K = K → X.calm = true → ∀ (i : Nat) (pins : List (Addr × Obj)) (s : Shared) (σ : St) (H : Hp) (E : Value → Shared → Prop), Inv X pins σ H s → (∀ b ∈ fp, FpOk X pins H b) → tn i s.heap → J.stop i H →
    wpAny (model P w) X.A (pyNext (.ref it)) (fun r s1 => r = none ∧ Inv X pins σ H s1) E s
  self : ∀ (A : Around) (i : Nat) (s : Shared) (Q : Value → Shared → Prop) (E : Value → Shared → Prop), tn i s.heap → Q (.ref it) s → wpAny (model P w) A (pyIter (.ref it)) Q E s
abbrev TI := St → Hp → (It → Hp → Prop) → Prop
/-- an iterator has come -/
def PIE (X : Cx) (pins : List (Addr × Obj)) (σ : St) (tg : Expr) (R : It → Hp → Prop) (itv : Value) (s2 : Shared) : Prop :=
  ∃ (it : Addr) (fp : List Addr) (tn : Nat → Heap → Prop) (J : It) (H' : Hp), itv = .ref it ∧ Inv X pins σ H' s2 ∧ Turn X.prog X.w X.K tg J fp it tn ∧ tn 0 s2.heap ∧ (∀ b ∈ fp, FpOk X pins H' b) ∧ R J H'
def PI (X : Cx) (tg iter : Expr) (wi : TI) : Prop :=
  ∀ (pins : List (Addr × Obj)) (s : Shared) (σ : St) (H : Hp) (R : It → Hp → Prop), Inv X pins σ H s → wi σ H R →
    wpAny (model X.prog X.w) X.A (eval iter X.env) (fun v s1 => wpAny (model X.prog X.w) X.A (pyIter v) (PIE X pins σ tg R) X.xe s1) X.xe s

/-- the step ahead of the store is nothing for an iterator that keeps no tuple -/
theorem go_of {M : Model} {A : Around} {E : Value → Shared → Prop} {s : Shared} {tg : Expr} {it : Addr} {u : Value} {o : Obj} {n : String} {vs : Array Value} {Q : Unit → Shared → Prop} (ho : s.heap.get? it = some o) (hc : o.cls = .type n) (hd : o.data = .fields vs)
    (hn : ["enumerate", "zip", "dict_itemiterator", "dict_reverseitemiterator", "odict_iterator", "itertools.zip_longest", "itertools.pairwise"].contains n = false) (hQ : Q () s) : wpAny M A (letOwnedTupleGo tg (.ref it) u) Q E s := by
  unfold letOwnedTupleGo
  cases tg <;> first
    | exact wpAny_pure hQ
    | (cases u <;> first
        | exact wpAny_pure hQ
        | (refine wpAny_bind (wpAny_load ho ?_)
           rw [hc, hd]
           show wpAny M A (if (["enumerate", "zip", "dict_itemiterator", "dict_reverseitemiterator", "odict_iterator", "itertools.zip_longest", "itertools.pairwise"].contains n && vs[0]? == some (rawInt _)) = true then _ else _) Q E s
           rw [if_neg (by intro h; rw [hn, Bool.false_and] at h; cases h)]
           exact wpAny_pure hQ))

/-- the list at a, as it stands at each turn (a loop may append to it) -/
def Itl (K : PySem.W.Frag) (a : Addr) : It :=
  ⟨fun i H => ∃ xs x, SqL K H a xs ∧ xs[i]? = some x, fun i H x H' => H' = H ∧ ∀ xs, SqL K H a xs → xs[i]? = some x, fun i H => ∃ xs, SqL K H a xs ∧ xs.length ≤ i⟩
def Itt (K : PySem.W.Frag) (a : Addr) : It :=
  ⟨fun i H => ∃ xs x, SqT K H a xs ∧ xs[i]? = some x, fun i H x H' => H' = H ∧ ∀ xs, SqT K H a xs → xs[i]? = some x, fun i H => ∃ xs, SqT K H a xs ∧ xs.length ≤ i⟩
/-- lo, lo + 1, .. (n of them) -/
def Itr (lo : Int) (n : Nat) : It := ⟨fun i _ => i < n, fun i H x H' => H' = H ∧ x = .int (lo + i), fun i _ => n ≤ i⟩
theorem turn_list {P : Program} {w : World} {K : PySem.W.Frag} {tg : Expr} (a it : Addr) : Turn P w K tg (Itl K a) [it] it (fun i h => h.IsListIter it a i) where
  mem := by simp
  obj := fun i h st b hb => by
    have e : b = it := by simpa using hb
    subst e
    obtain ⟨o, e, c, d⟩ := st
    exact ⟨o, e, fun v z => by rw [d] at z; cases z⟩
  keep := fun i h h' st k => st.at fun o e => k it (by simp) o e
  item := by
    intro X hP hw hK hc i pins s σ H E I hf st hg
    subst hP hw hK
    obtain ⟨xs, x, hq, hx⟩ := hg
    obtain ⟨its, rv, p, hz⟩ := I.list hq
    obtain ⟨u, hu, ru⟩ := rv.get hx
    obtain ⟨f0, f1, f2, f3, f4, f5⟩ := hf it (by simp)
    refine wpAny_pyNext_list_item st p.isList (x := u) (by simpa using hu) fun h' st' sb => ?_
    have I1 : Inv X pins σ H { s with heap := h' } := I.turned (t' := s.toks) (fun b o hb e => (sb.2 b hb).trans e) f0 f1 f3 f4 f5
    obtain ⟨o, e, c, d⟩ := id st'
    exact ⟨u, rfl, go_of (s := { s with heap := h' }) e c d (by decide) ⟨x, H, I1, ru, ⟨rfl, fun ys hy => by rw [I.list_inj hy hq]; exact hx⟩, st', fun b hb => (hf b hb).1⟩⟩
  done := by
    intro X hP hw hK hc i pins s σ H E I hf st hg
    subst hP hw hK
    obtain ⟨xs, hq, hx⟩ := hg
    obtain ⟨its, rv, p, hz⟩ := I.list hq
    obtain ⟨f0, f1, f2, f3, f4, f5⟩ := hf it (by simp)
    have hl := rv.length
    exact wpAny_pyNext_list_end (I.ok.hd hc) st p.isList (by simp; omega) fun h' eb => ⟨rfl, I.turned (t' := s.toks) (fun b o hb e => eb b o hb e) f0 f1 f3 f4 f5⟩
  self := fun _ _ _ _ _ st h => wpAny_pyIter_listiter st h
theorem turn_tuple {P : Program} {w : World} {K : PySem.W.Frag} {tg : Expr} (a it : Addr) : Turn P w K tg (Itt K a) [it] it (fun i h => h.IsTupleIter it a i) where
  mem := by simp
  obj := fun i h st b hb => by
    have e : b = it := by simpa using hb
    subst e
    obtain ⟨o, e, c, d⟩ := st
    exact ⟨o, e, fun v z => by rw [d] at z; cases z⟩
  keep := fun i h h' st k => st.at fun o e => k it (by simp) o e
  item := by
    intro X hP hw hK hc i pins s σ H E I hf st hg
    subst hP hw hK
    obtain ⟨xs, x, hq, hx⟩ := hg
    obtain ⟨its, rv, p, hz⟩ := I.tuple hq
    obtain ⟨u, hu, ru⟩ := rv.get hx
    obtain ⟨f0, f1, f2, f3, f4, f5⟩ := hf it (by simp)
    refine wpAny_pyNext_tuple_item st (show s.heap.IsTuple a its.toArray from p) (x := u) (by simpa using hu) fun h' st' sb => ?_
    have I1 : Inv X pins σ H { s with heap := h' } := I.turned (t' := s.toks) (fun b o hb e => (sb.2 b hb).trans e) f0 f1 f3 f4 f5
    obtain ⟨o, e, c, d⟩ := id st'
    exact ⟨u, rfl, go_of (s := { s with heap := h' }) e c d (by decide) ⟨x, H, I1, ru, ⟨rfl, fun ys hy => by rw [I.tuple_inj hy hq]; exact hx⟩, st', fun b hb => (hf b hb).1⟩⟩
  done := by
    intro X hP hw hK hc i pins s σ H E I hf st hg
    subst hP hw hK
    obtain ⟨xs, hq, hx⟩ := hg
    obtain ⟨its, rv, p, hz⟩ := I.tuple hq
    obtain ⟨f0, f1, f2, f3, f4, f5⟩ := hf it (by simp)
    have hl := rv.length
    exact wpAny_pyNext_tuple_end (I.ok.hd hc) st (show s.heap.IsTuple a its.toArray from p) (by simp; omega) fun h' eb => ⟨rfl, I.turned (t' := s.toks) (fun b o hb e => eb b o hb e) f0 f1 f3 f4 f5⟩
  self := fun _ _ _ _ _ st h => wpAny_pyIter_tupleiter st h
theorem turn_range {P : Program} {w : World} {K : PySem.W.Frag} {tg : Expr} (it : Addr) (lo : Int) (n : Nat) : Turn P w K tg (Itr lo n) [it] it (fun i h => IsRangeIter h it (lo + (i : Nat) * 1) ((n : Int) - (i : Nat)) 1) where
  mem := by simp
  obj := fun i h st b hb => by
    have e : b = it := by simpa using hb
    subst e
    exact ⟨_, st, fun v z => by
      have z' : Data.fields _ = Data.cell v := z
      cases z'⟩
  keep := fun i h h' st k => k it (by simp) _ st
  item := by
    intro X hP hw hK hc i pins s σ H E I hf st hg
    subst hP hw hK
    obtain ⟨f0, f1, f2, f3, f4, f5⟩ := hf it (by simp)
    have W := Walks.range (prog := X.prog) (w := X.w) (I.ok.hd hc) it lo 1 n
    refine W.item i s _ _ hg st fun v h' tk hv st' kk => ?_
    obtain ⟨t, rfl⟩ := hv
    have I1 : Inv X pins σ H { s with heap := h', toks := tk } := I.turned (fun b o hb e => kk b o (by simpa using hb) e) f0 f1 f3 f4 f5
    refine ⟨_, rfl, go_of (s := { s with heap := h', toks := tk }) (n := "range_iterator") st' rfl rfl (by decide) ⟨.int (lo + i), H, I1, ⟨t, ?_⟩, ⟨rfl, rfl⟩, st', fun b hb => (hf b hb).1⟩⟩
    rw [Int.mul_one]
  done := by
    intro X hP hw hK hc i pins s σ H E I hf st hg
    subst hP hw hK
    obtain ⟨f0, f1, f2, f3, f4, f5⟩ := hf it (by simp)
    exact wpAny_pyNext_range_end (I.ok.hd hc) st (by have : n ≤ i := hg; omega) fun h' eb => ⟨rfl, I.turned (t' := s.toks) (fun b o hb e => eb b o hb e) f0 f1 f3 f4 f5⟩
  self := fun _ _ _ _ _ st h => wpAny_pyIter_rangeiter st h
end L2

namespace L2
open PySem PySem.Spec PyProof.Rows
section
variable {X : Cx} {tg : Expr}
def iList (K : PySem.W.Frag) (tl : TE) : TI := fun σ H R => tl σ H fun x H1 => ∃ a, x = .ref a ∧ (∃ xs, SqL K H1 a xs) ∧ R (Itl K a) H1
def iTup (K : PySem.W.Frag) (tl : TE) : TI := fun σ H R => tl σ H fun x H1 => ∃ a, x = .ref a ∧ (∃ xs, SqT K H1 a xs) ∧ R (Itt K a) H1
theorem pi_list {l : Expr} {tl : TE} (hl : PE X l tl) : PI X tg l (iList X.K tl) := by
  intro pins s σ H R I h
  refine thn (hl pins s σ H _ I h) fun v s1 ⟨x, H1, I1, r1, q1⟩ => ?_
  obtain ⟨a, e, ⟨xs, hq⟩, q⟩ := q1
  subst e
  cases r1
  obtain ⟨its, rv, p, hz⟩ := I1.list hq
  refine wpAny_pyIter_list p.isList ?_
  refine ⟨s1.heap.objs.size, [s1.heap.objs.size], _, _, H1, rfl, I1.kept (t' := s1.toks) fun b o e => Heap.get?_push_of_some _ e, turn_list a _, ⟨_, Heap.get?_push_size _ rfl, rfl, rfl⟩, fun b hb => ?_, q⟩
  have e : b = s1.heap.objs.size := by simpa using hb
  subst e
  exact I1.fpOk (Nat.le_refl _) (I1.hok.fresh (Nat.le_refl _))
theorem pi_tup {l : Expr} {tl : TE} (hl : PE X l tl) : PI X tg l (iTup X.K tl) := by
  intro pins s σ H R I h
  refine thn (hl pins s σ H _ I h) fun v s1 ⟨x, H1, I1, r1, q1⟩ => ?_
  obtain ⟨a, e, ⟨xs, hq⟩, q⟩ := q1
  subst e
  cases r1
  obtain ⟨its, rv, p, hz⟩ := I1.tuple hq
  refine wpAny_pyIter_tuple (show s1.heap.IsTuple a its.toArray from p) ?_
  refine ⟨s1.heap.objs.size, [s1.heap.objs.size], _, _, H1, rfl, I1.kept (t' := s1.toks) fun b o e => Heap.get?_push_of_some _ e, turn_tuple a _, ⟨_, Heap.get?_push_size _ rfl, rfl, rfl⟩, fun b hb => ?_, q⟩
  have e : b = s1.heap.objs.size := by simpa using hb
  subst e
  exact I1.fpOk (Nat.le_refl _) (I1.hok.fresh (Nat.le_refl _))
/-- a range object just made, walked -/
theorem range_it {pins : List (Addr × Obj)} {σ : St} {H : Hp} {s : Shared} {R : It → Hp → Prop} {E : Value → Shared → Prop} {lo hi : Int} {t u v : Tok} {tk : Nat} (I : Inv X pins σ H s) (h1 : -(2 ^ 62) ≤ lo) (h2 : lo < 2 ^ 62) (h3 : -(2 ^ 62) ≤ hi) (h4 : hi < 2 ^ 62)
    (q : R (Itr lo (hi - lo).toNat) H) : wpAny (model X.prog X.w) X.A (pyIter (.ref s.heap.objs.size)) (PIE X pins σ tg R) E { s with heap := s.heap.push { cls := .type "range", data := .fields #[.int lo t, .int hi u, .int 1 v] }, toks := tk } := by
  refine wpAny_pyIter_range (IsRange.new ..) (small_one h1 h2 h3 h4) ?_
  have I1 : Inv X pins σ H { s with heap := s.heap.push { cls := .type "range", data := .fields #[.int lo t, .int hi u, .int 1 v] }, toks := tk } := I.kept fun b o e => Heap.get?_push_of_some _ e
  refine ⟨(s.heap.push { cls := .type "range", data := .fields #[.int lo t, .int hi u, .int 1 v] }).objs.size, [(s.heap.push { cls := .type "range", data := .fields #[.int lo t, .int hi u, .int 1 v] }).objs.size], _, _, H, rfl,
    I1.kept (t' := tk) fun b o e => Heap.get?_push_of_some _ e, turn_range _ lo (hi - lo).toNat, ?_, fun b hb => ?_, q⟩
  · have e1 : lo + ((0 : Nat) : Int) * 1 = lo := by simp
    have e2 : (((hi - lo).toNat : Nat) : Int) - ((0 : Nat) : Int) = Builtin.Range.rangeSize lo hi 1 := by rw [rangeSize_one]; split <;> omega
    show IsRangeIter _ _ (lo + ((0 : Nat) : Int) * 1) ((((hi - lo).toNat : Nat) : Int) - ((0 : Nat) : Int)) 1
    rw [e1, e2]
    exact Heap.get?_push_size _ rfl
  · have e : b = (s.heap.push { cls := .type "range", data := .fields #[.int lo t, .int hi u, .int 1 v] }).objs.size := by simpa using hb
    subst e
    exact I1.fpOk (Nat.le_refl _) (I1.hok.fresh (Nat.le_refl _))
def iRng1 (ta : TA) : TI := fun σ H R => ta σ H fun vs H1 => ∃ j : Int, vs = [.int j] ∧ -(2 ^ 62) ≤ j ∧ j < 2 ^ 62 ∧ R (Itr 0 j.toNat) H1
def iRng2 (ta : TA) : TI := fun σ H R => ta σ H fun vs H1 => ∃ i j : Int, vs = [.int i, .int j] ∧ (-(2 ^ 62) ≤ i ∧ i < 2 ^ 62 ∧ -(2 ^ 62) ≤ j ∧ j < 2 ^ 62) ∧ R (Itr i (j - i).toNat) H1
theorem pi_range2 {a b : Expr} {ta : TA} {p pos : Pos} (hg : Gl X "range") (hm : X.mg "range" = none) (ha : PA X [a, b] ta) (hs : starEach [a, b] X.env = [(false, eval a X.env), (false, eval b X.env)] := by rfl) (hs2 : starEach [b] X.env = [(false, eval b X.env)] := by rfl) :
    PI X tg (.Call (.Name "range" p) [a, b] [] pos) (iRng2 ta) := by
  intro pins s σ H R I h
  refine Call_ (ld_blt I hg hm boot_range (PyProof.Rows.callWith_type1 (thn (ha pos pins s σ H _ I h) fun us s1 ⟨vs, H1, I1, r1, q1⟩ => ?_) (by rw [hs, hs2]) (by rw [hs2]; rfl)))
  obtain ⟨i, j, e, ⟨q1, q2, q3, q4⟩, q⟩ := q1
  subst e
  cases r1 with
  | cons r rr =>
    cases rr with
    | cons r' rr =>
      cases rr
      obtain ⟨t, rfl⟩ := r
      obtain ⟨t', rfl⟩ := r'
      exact call_range_2 (range_it I1 q1 q2 q3 q4 q)

/-! ### for -/
/-- W: the invariant by the turn and a measure; N: what the body is to reach -/
def tFor (wi : TI) (g : TG) (tb : TS) : TS := fun D σ H => wi σ H fun J H1 => ∃ W : Nat → Nat → St → Hp → Prop, (∃ m, W 0 m σ H1) ∧ ∀ i m σ H, W i m σ H →
  (J.stop i H ∧ D.nx σ H) ∨ (J.go i H ∧ ∃ N : St → Hp → Prop, (∀ σ' H', N σ' H' → ∃ m', m' < m ∧ W (i + 1) m' σ' H') ∧ ∀ x H', J.yld i H x H' → g x σ H' fun σ2 H2 => tb { D with nx := N, ct := N, bk := D.nx } σ2 H2)
/-- the records at fp as they stand -/
def pinsAt (fp : List Addr) (h : Heap) : List (Addr × Obj) := fp.filterMap fun b => (h.get? b).map fun o => (b, o)
theorem mem_pinsAt {fp : List Addr} {h : Heap} {b : Addr} {o : Obj} (hb : b ∈ fp) (e : h.get? b = some o) : (b, o) ∈ pinsAt fp h := List.mem_filterMap.mpr ⟨b, hb, by rw [e]; rfl⟩
theorem of_pinsAt {fp : List Addr} {h : Heap} {p : Addr × Obj} (hp : p ∈ pinsAt fp h) : p.1 ∈ fp ∧ h.get? p.1 = some p.2 := by
  obtain ⟨b, hb, e⟩ := List.mem_filterMap.mp hp
  cases q : h.get? b with
  | none => rw [q] at e; cases e
  | some o =>
    rw [q] at e
    have e' : (b, o) = p := Option.some.inj e
    subst e'
    exact ⟨hb, q⟩
theorem Inv.pinned {pins : List (Addr × Obj)} {σ : St} {H : Hp} {s : Shared} {fp : List Addr} (I : Inv X pins σ H s) (hf : ∀ b ∈ fp, FpOk X pins H b) (ho : ∀ b ∈ fp, ∃ o, s.heap.get? b = some o ∧ ∀ v, o.data ≠ .cell v) : Inv X (pins ++ pinsAt fp s.heap) σ H s :=
  I.pins_of fun p hp => (List.mem_append.mp hp).elim (fun z => I.pin p (List.mem_append_right _ z)) fun z => by
    obtain ⟨hb, e⟩ := of_pinsAt z
    obtain ⟨f0, f1, f2, _⟩ := hf p.1 hb
    obtain ⟨o, e', d⟩ := ho p.1 hb
    rw [e] at e'; cases e'
    exact ⟨e, f0, f1, f2, d⟩
theorem Inv.unpinned {pins pl : List (Addr × Obj)} {σ : St} {H : Hp} {s : Shared} (I : Inv X (pins ++ pl) σ H s) : Inv X pins σ H s := I.pins_of fun p hp => I.pin p (List.mem_append_right _ (List.mem_append_left _ hp))
theorem ps_for {iter : Expr} {body : List Stmt} {wi : TI} {g : TG} {tb : TS} {pos : Pos} (hp : PassesOwn (model X.prog X.w) X.A X.env X.xe) (hc : X.calm = true) (hi : PI X tg iter wi) (hg : PG X tg g) (hb : PSs X body tb)
    (hs : ∀ x, foldedSetIterable iter X.env x = pure x := by intro _; rfl) : PS X (.For tg iter body [] pos) (tFor wi g tb) := by
  intro pins s σ H D I h
  refine wpAny_For (thn (hi pins s σ H _ I h) fun v s1 h1 => thn h1 fun itv s2 h2 => ?_) hs
  obtain ⟨it, fp, tn, J, H2, e, I2, T, st2, f2, W, ⟨m0, w0⟩, turn⟩ := h2
  subst e
  -- what stays true of the iterator's objects through the loop
  have stat : ∀ {H' : Hp}, (∀ b ∈ fp, H' b = none) → ∀ b ∈ fp, FpOk X pins H' b := fun hn b hb => ⟨hn b hb, (f2 b hb).2⟩
  refine codeAny_forLoop_any (fun n s' => ∃ i σ' H', Inv X pins σ' H' s' ∧ tn i s'.heap ∧ (∀ b ∈ fp, H' b = none) ∧ W i n σ' H') ?_ m0 ⟨0, σ, H2, I2, st2, fun b hb => (f2 b hb).1, w0⟩
  rintro n s3 ⟨i, σ3, H3, I3, st3, fr3, w3⟩
  rcases turn i n σ3 H3 w3 with ⟨stop, qn⟩ | ⟨go, N, hN, step⟩
  · refine wpAny_passesOwn hp (thn (T.done X rfl rfl rfl hc i pins s3 σ3 H3 X.xe I3 (stat fr3) st3 stop) fun r s4 ⟨hr, I4⟩ => ?_)
    subst hr
    exact wpAny_execs_nil ⟨σ3, H3, I4, qn⟩
  · refine wpAny_passesOwn hp (thn (T.item X rfl rfl rfl hc i pins s3 σ3 H3 X.xe I3 (stat fr3) st3 go) fun r s4 ⟨u, hr, h4⟩ => ?_)
    subst hr
    refine wpAny_passesOwn hp (thn h4 fun _ s5 ⟨x, H5, I5, r5, y5, st5, fr5⟩ => ?_)
    have I5' := I5.pinned (stat fr5) (T.obj _ _ st5)
    refine wpAny_passesOwn hp (thn (hg _ s5 σ3 H5 x u _ I5' r5 (step x H5 y5)) fun _ s6 ⟨σ6, H6, I6, q6⟩ => ?_)
    refine wpAny_passesOwn hp (thn (hb _ s6 σ6 H6 _ I6 q6) fun f s7 q7 => ?_)
    have again : ∀ {σ7 : St} {H7 : Hp}, Inv X (pins ++ pinsAt fp s5.heap) σ7 H7 s7 → N σ7 H7 → ∃ m, m < n ∧ ∃ i σ' H', Inv X pins σ' H' s7 ∧ tn i s7.heap ∧ (∀ b ∈ fp, H' b = none) ∧ W i m σ' H' := fun {σ7 H7} I7 n7 => by
      obtain ⟨m', hm, w7⟩ := hN σ7 H7 n7
      refine ⟨m', hm, i + 1, σ7, H7, I7.unpinned, T.keep _ _ _ st5 fun b hb o e => (I7.pin (b, o) (List.mem_append_right _ (List.mem_append_right _ (mem_pinsAt hb e)))).1, fun b hb => ?_, w7⟩
      obtain ⟨o, e, d⟩ := T.obj _ _ st5 b hb
      exact (I7.pin (b, o) (List.mem_append_right _ (List.mem_append_right _ (mem_pinsAt hb e)))).2.1
    cases f with
    | next => obtain ⟨σ7, H7, I7, n7⟩ := q7; exact again I7 n7
    | cont => obtain ⟨σ7, H7, I7, n7⟩ := q7; exact again I7 n7
    | brk => obtain ⟨σ7, H7, I7, q7⟩ := q7; exact ⟨σ7, H7, I7.unpinned, q7⟩
    | ret v => obtain ⟨x7, σ7, H7, I7, r7, q7⟩ := q7; exact ⟨x7, σ7, H7, I7.unpinned, r7, q7⟩
end

/-! ### the forms one uses -/
/-- over a list that the body leaves as it is -/
theorem for_list {K : PySem.W.Frag} {a : Addr} {xs : List V} {g : TG} {tb : TS} {D : Ends} {σ : St} {H : Hp} (Pv : Nat → St → Hp → Prop) (h0 : Pv 0 σ H) (hl : ∀ i σ H, i ≤ xs.length → Pv i σ H → SqL K H a xs)
    (hs : ∀ i x σ H, xs[i]? = some x → Pv i σ H → g x σ H fun σ2 H2 => tb { D with nx := Pv (i + 1), ct := Pv (i + 1), bk := D.nx } σ2 H2) (hd : ∀ σ H, Pv xs.length σ H → D.nx σ H) :
    ∃ W : Nat → Nat → St → Hp → Prop, (∃ m, W 0 m σ H) ∧ ∀ i m σ H, W i m σ H →
      ((Itl K a).stop i H ∧ D.nx σ H) ∨ ((Itl K a).go i H ∧ ∃ N : St → Hp → Prop, (∀ σ' H', N σ' H' → ∃ m', m' < m ∧ W (i + 1) m' σ' H') ∧ ∀ x H', (Itl K a).yld i H x H' → g x σ H' fun σ2 H2 => tb { D with nx := N, ct := N, bk := D.nx } σ2 H2) := by
  refine ⟨fun i m σ H => m = xs.length - i ∧ i ≤ xs.length ∧ Pv i σ H, ⟨xs.length, by simp, Nat.zero_le _, h0⟩, ?_⟩
  rintro i m σ H ⟨rfl, hi, p⟩
  have q := hl i σ H hi p
  by_cases hlt : i < xs.length
  · refine .inr ⟨⟨xs, xs[i], q, by simp [hlt]⟩, Pv (i + 1), fun σ' H' p' => ⟨xs.length - (i + 1), by omega, rfl, hlt, p'⟩, fun x H' y => ?_⟩
    obtain ⟨e, y⟩ := y
    subst e
    exact hs i x σ _ (y xs q) p
  · have e : i = xs.length := by omega
    subst e
    exact .inl ⟨⟨xs, q, Nat.le_refl _⟩, hd σ H p⟩
theorem for_tup {K : PySem.W.Frag} {a : Addr} {xs : List V} {g : TG} {tb : TS} {D : Ends} {σ : St} {H : Hp} (Pv : Nat → St → Hp → Prop) (h0 : Pv 0 σ H) (hl : ∀ i σ H, i ≤ xs.length → Pv i σ H → SqT K H a xs)
    (hs : ∀ i x σ H, xs[i]? = some x → Pv i σ H → g x σ H fun σ2 H2 => tb { D with nx := Pv (i + 1), ct := Pv (i + 1), bk := D.nx } σ2 H2) (hd : ∀ σ H, Pv xs.length σ H → D.nx σ H) :
    ∃ W : Nat → Nat → St → Hp → Prop, (∃ m, W 0 m σ H) ∧ ∀ i m σ H, W i m σ H →
      ((Itt K a).stop i H ∧ D.nx σ H) ∨ ((Itt K a).go i H ∧ ∃ N : St → Hp → Prop, (∀ σ' H', N σ' H' → ∃ m', m' < m ∧ W (i + 1) m' σ' H') ∧ ∀ x H', (Itt K a).yld i H x H' → g x σ H' fun σ2 H2 => tb { D with nx := N, ct := N, bk := D.nx } σ2 H2) := by
  refine ⟨fun i m σ H => m = xs.length - i ∧ i ≤ xs.length ∧ Pv i σ H, ⟨xs.length, by simp, Nat.zero_le _, h0⟩, ?_⟩
  rintro i m σ H ⟨rfl, hi, p⟩
  have q := hl i σ H hi p
  by_cases hlt : i < xs.length
  · refine .inr ⟨⟨xs, xs[i], q, by simp [hlt]⟩, Pv (i + 1), fun σ' H' p' => ⟨xs.length - (i + 1), by omega, rfl, hlt, p'⟩, fun x H' y => ?_⟩
    obtain ⟨e, y⟩ := y
    subst e
    exact hs i x σ _ (y xs q) p
  · have e : i = xs.length := by omega
    subst e
    exact .inl ⟨⟨xs, q, Nat.le_refl _⟩, hd σ H p⟩
theorem for_range {lo : Int} {n : Nat} {g : TG} {tb : TS} {D : Ends} {σ : St} {H : Hp} (Pv : Nat → St → Hp → Prop) (h0 : Pv 0 σ H)
    (hs : ∀ i σ H, i < n → Pv i σ H → g (.int (lo + i)) σ H fun σ2 H2 => tb { D with nx := Pv (i + 1), ct := Pv (i + 1), bk := D.nx } σ2 H2) (hd : ∀ σ H, Pv n σ H → D.nx σ H) :
    ∃ W : Nat → Nat → St → Hp → Prop, (∃ m, W 0 m σ H) ∧ ∀ i m σ H, W i m σ H →
      ((Itr lo n).stop i H ∧ D.nx σ H) ∨ ((Itr lo n).go i H ∧ ∃ N : St → Hp → Prop, (∀ σ' H', N σ' H' → ∃ m', m' < m ∧ W (i + 1) m' σ' H') ∧ ∀ x H', (Itr lo n).yld i H x H' → g x σ H' fun σ2 H2 => tb { D with nx := N, ct := N, bk := D.nx } σ2 H2) := by
  refine ⟨fun i m σ H => m = n - i ∧ i ≤ n ∧ Pv i σ H, ⟨n, by simp, Nat.zero_le _, h0⟩, ?_⟩
  rintro i m σ H ⟨rfl, hi, p⟩
  by_cases hlt : i < n
  · refine .inr ⟨hlt, Pv (i + 1), fun σ' H' p' => ⟨n - (i + 1), by omega, rfl, hlt, p'⟩, fun x H' y => ?_⟩
    obtain ⟨e, y⟩ := y
    subst e y
    exact hs i σ _ hlt p
  · have e : i = n := by omega
    subst e
    exact .inl ⟨Nat.le_refl _, hd σ H p⟩
/-- while, by a word and a measure of the state -/
theorem while_by {c : TT} {tb : TS} {D : Ends} {σ : St} {H : Hp} (Pv : St → Hp → Prop) (μ : St → Hp → Nat) (h0 : Pv σ H)
    (hs : ∀ σ H, Pv σ H → c σ H fun b H1 => if b = true then tb { D with nx := fun σ' H' => Pv σ' H' ∧ μ σ' H' < μ σ H, ct := fun σ' H' => Pv σ' H' ∧ μ σ' H' < μ σ H, bk := D.nx } σ H1 else D.nx σ H1)
    (mono : ∀ σ H Q Q', (∀ b H1, Q b H1 → Q' b H1) → c σ H Q → c σ H Q') : tWhile c tb D σ H := by
  refine ⟨fun m σ H => m = μ σ H ∧ Pv σ H, ⟨_, rfl, h0⟩, ?_⟩
  rintro m σ H ⟨rfl, p⟩
  refine mono σ H _ _ (fun b H1 q => ?_) (hs σ H p)
  cases b with
  | true => exact ⟨_, fun σ' H' ⟨p', l⟩ => ⟨_, l, rfl, p'⟩, q⟩
  | false => exact q
end L2

namespace L2
open PySem PySem.Spec PyProof.Rows

abbrev R2 := V → V → Hp → VK → Prop
/-- a two-place operation on values: f is binaryOp op, inplaceOp op or compareOp op -/
def OpR (X : Cx) (f : Value → Value → Sem Value) (r : R2) : Prop :=
  ∀ (pins : List (Addr × Obj)) (s : Shared) (σ : St) (H : Hp) (x y : V) (v u : Value) (Q : VK), Inv X pins σ H s → RelV x v → RelV y u → r x y H Q →
    wpAny (model X.prog X.w) X.A (f v u) (EP X pins σ Q) X.xe s
/-- a one-place operation -/
def UnR (X : Cx) (f : Value → Sem Value) (r : V → Hp → VK → Prop) : Prop :=
  ∀ (pins : List (Addr × Obj)) (s : Shared) (σ : St) (H : Hp) (x : V) (v : Value) (Q : VK), Inv X pins σ H s → RelV x v → r x H Q →
    wpAny (model X.prog X.w) X.A (f v) (EP X pins σ Q) X.xe s
/-- a call of a value that is known (a builtin, a type) with values -/
def CallR (X : Cx) (f : Value) (r : List V → Hp → VK → Prop) : Prop :=
  ∀ (pins : List (Addr × Obj)) (s : Shared) (σ : St) (H : Hp) (xs : List V) (us : List Value) (Q : VK), Inv X pins σ H s → Vals xs us → r xs H Q →
    wpAny (model X.prog X.w) X.A (call f us) (EP X pins σ Q) X.xe s
/-- a value's truth -/
def TruR (X : Cx) (r : V → Hp → (Bool → Hp → Prop) → Prop) : Prop :=
  ∀ (pins : List (Addr × Obj)) (s : Shared) (σ : St) (H : Hp) (x : V) (v : Value) (Q : Bool → Hp → Prop), Inv X pins σ H s → RelV x v → r x H Q →
    wpAny (model X.prog X.w) X.A (truthy v) (TP X pins σ Q) X.xe s

def tOp (r : R2) (ta tb : TE) : TE := fun σ H Q => ta σ H fun x H1 => tb σ H1 fun y H2 => r x y H2 Q
def tUn (r : V → Hp → VK → Prop) (ta : TE) : TE := fun σ H Q => ta σ H fun x H1 => r x H1 Q
/-- ints in, under C, and a value out -/
def rI (C : Int → Int → Prop) (g : Int → Int → V) : R2 := fun x y H Q => ∃ i j, x = .int i ∧ y = .int j ∧ C i j ∧ Q (g i j) H
def rI0 (g : Int → Int → V) : R2 := fun x y H Q => ∃ i j, x = .int i ∧ y = .int j ∧ Q (g i j) H
def rU (g : Int → V) : V → Hp → VK → Prop := fun x H Q => ∃ i, x = .int i ∧ Q (g i) H

section
variable {X : Cx} {a b c : Expr} {ta tb tc : TE} {pos : Pos}

theorem binT (ha : PE X a ta) (hb : PE X b tb) {pins : List (Addr × Obj)} {s : Shared} {σ : St} {H : Hp} {R : V → V → Hp → Prop} (I : Inv X pins σ H s)
    (h : ta σ H fun x H1 => tb σ H1 fun y H2 => R x y H2) {Q : Value → Shared → Prop} {f : Value → Value → Sem Value}
    (hf : ∀ v u s2 x y H2, Inv X pins σ H2 s2 → RelV x v → RelV y u → R x y H2 → wpAny (model X.prog X.w) X.A (f v u) Q X.xe s2) :
    wpAny (model X.prog X.w) X.A (eval a X.env) (fun v s₁ => wpAny (model X.prog X.w) X.A (eval b X.env) (fun u s₂ => wpAny (model X.prog X.w) X.A (f v u) Q X.xe s₂) X.xe s₁) X.xe s := by
  refine thn (ha pins s σ H _ I h) fun v s1 ⟨x, H1, I1, r1, q1⟩ => ?_
  refine thn (hb pins s1 σ H1 _ I1 q1) fun u s2 ⟨y, H2, I2, r2, q2⟩ => ?_
  exact hf v u s2 x y H2 I2 r1 r2 q2

theorem pe_op {op : Operator} {r : R2} (ho : OpR X (binaryOp op) r) (ha : PE X a ta) (hb : PE X b tb) : PE X (.BinOp a op b pos) (tOp r ta tb) := by
  intro pins s σ H Q I h
  exact wpAny_BinOp (binT ha hb I h fun v u s2 x y H2 I2 rx ry q => ho pins s2 σ H2 x y v u Q I2 rx ry q)
theorem pe_un {op : UnaryOp} {r : V → Hp → VK → Prop} (ho : UnR X (unaryOp op) r) (ha : PE X a ta) : PE X (.UnaryOp op a pos) (tUn r ta) := by
  intro pins s σ H Q I h
  exact UnaryOp_ (thn (ha pins s σ H _ I h) fun v s1 ⟨x, H1, I1, r1, q1⟩ => ho pins s1 σ H1 x v Q I1 r1 q1)
/-! ### ints -/
theorem opI {f : Value → Value → Sem Value} {C : Int → Int → Prop} {g : Int → Int → Int}
    (rule : ∀ (i j : Int) (t u : Tok) (s : Shared) (Q : Value → Shared → Prop) (E : Value → Shared → Prop), C i j → Q (.int (g i j) s.toks) { s with toks := s.toks + 1 } → wpAny (model X.prog X.w) X.A (f (.int i t) (.int j u)) Q E s) :
    OpR X f (rI C fun i j => .int (g i j)) := by
  intro pins s σ H x y v u Q I rx ry h
  obtain ⟨i, j, rfl, rfl, hc, q⟩ := h
  obtain ⟨t, rfl⟩ := rx
  obtain ⟨t', rfl⟩ := ry
  exact rule i j t t' s _ _ hc ⟨.int (g i j), H, I.tok _, ⟨_, rfl⟩, q⟩
theorem opI0 {f : Value → Value → Sem Value} {g : Int → Int → Int}
    (rule : ∀ (i j : Int) (t u : Tok) (s : Shared) (Q : Value → Shared → Prop) (E : Value → Shared → Prop), Q (.int (g i j) s.toks) { s with toks := s.toks + 1 } → wpAny (model X.prog X.w) X.A (f (.int i t) (.int j u)) Q E s) :
    OpR X f (rI0 fun i j => .int (g i j)) := by
  intro pins s σ H x y v u Q I rx ry h
  obtain ⟨i, j, rfl, rfl, q⟩ := h
  obtain ⟨t, rfl⟩ := rx
  obtain ⟨t', rfl⟩ := ry
  exact rule i j t t' s _ _ ⟨.int (g i j), H, I.tok _, ⟨_, rfl⟩, q⟩
theorem opB0 {f : Value → Value → Sem Value} {g : Int → Int → Bool}
    (rule : ∀ (i j : Int) (t u : Tok) (s : Shared) (Q : Value → Shared → Prop) (E : Value → Shared → Prop), Q (.bool (g i j)) s → wpAny (model X.prog X.w) X.A (f (.int i t) (.int j u)) Q E s) :
    OpR X f (rI0 fun i j => .bl (g i j)) := by
  intro pins s σ H x y v u Q I rx ry h
  obtain ⟨i, j, rfl, rfl, q⟩ := h
  obtain ⟨t, rfl⟩ := rx
  obtain ⟨t', rfl⟩ := ry
  exact rule i j t t' s _ _ ⟨.bl (g i j), H, I, rfl, q⟩

def CDiv (i j : Int) : Prop := 0 < j ∧ j < 1073741824
def CDivN (i j : Int) : Prop := j ≠ 0 ∧ j.natAbs < 1073741824
def CPow (i j : Int) : Prop := 0 ≤ j ∧ j ≤ 1000000 ∧ i.natAbs < 2 ^ 64
def CMul (i j : Int) : Prop := (-(2 ^ 64) < i ∧ i < 2 ^ 64) ∨ (-(2 ^ 64) < j ∧ j < 2 ^ 64)
theorem CMul.ok {i j : Int} (h : CMul i j) : IntMulOk i j := by
  rcases h with ⟨h1, h2⟩ | ⟨h1, h2⟩
  · exact .of_left (intBits_le_64 h1 h2)
  · exact .of_right (intBits_le_64 h1 h2)
theorem op_add : OpR X (binaryOp .Add) (rI0 fun i j => .int (i + j)) := opI0 fun _ _ _ _ _ _ _ q => add_int q
theorem op_sub : OpR X (binaryOp .Sub) (rI0 fun i j => .int (i - j)) := opI0 fun _ _ _ _ _ _ _ q => sub_int q
theorem op_mul : OpR X (binaryOp .Mult) (rI CMul fun i j => .int (i * j)) := opI fun _ _ _ _ _ _ _ hc q => mul_int q hc.ok
/-- // by a positive divisor -/
theorem op_fdiv : OpR X (binaryOp .FloorDiv) (rI CDiv fun i j => .int (i / j)) := opI fun i j _ _ _ _ _ hc q => by
  have h1 : (0 : Int) < j := hc.1
  have h2 : j < 1073741824 := hc.2
  exact floordiv_int (by omega) (by rw [Int.fdiv_eq_ediv_of_nonneg i (by omega)]; exact q) (.inl (PyProof.noPylong_small (by omega)))
/-- % by a positive divisor of any size -/
theorem op_mod : OpR X (binaryOp .Mod) (rI (fun _ j => 0 < j) fun i j => .int (i % j)) := opI fun i j _ _ _ _ _ hc q => by
  have h1 : (0 : Int) < j := hc
  exact mod_int' (by omega) (by rw [Int.fmod_eq_emod_of_nonneg i (by omega)]; exact q)
theorem op_modN : OpR X (binaryOp .Mod) (rI (fun _ j => j ≠ 0) fun i j => .int (i.fmod j)) := opI fun _ _ _ _ _ _ _ hc q => mod_int' hc q
theorem op_pow : OpR X (binaryOp .Pow) (rI CPow fun i j => .int (i ^ j.toNat)) := opI fun _ _ _ _ _ _ _ hc q => pow_int_small hc.1 hc.2.1 hc.2.2 q
theorem unI {f : Value → Sem Value} {g : Int → Int}
    (rule : ∀ (i : Int) (t : Tok) (s : Shared) (Q : Value → Shared → Prop) (E : Value → Shared → Prop), Q (.int (g i) s.toks) { s with toks := s.toks + 1 } → wpAny (model X.prog X.w) X.A (f (.int i t)) Q E s) :
    UnR X f (rU fun i => .int (g i)) := by
  intro pins s σ H x v Q I rx h
  obtain ⟨i, rfl, q⟩ := h
  obtain ⟨t, rfl⟩ := rx
  exact rule i t s _ _ ⟨.int (g i), H, I.tok _, ⟨_, rfl⟩, q⟩
theorem un_neg : UnR X (unaryOp .USub) (rU fun i => .int (-i)) := unI fun _ _ _ _ _ q => neg_int q
/-! ### bools among ints: n += (a < b) -/
end

/-! ### comparisons -/
/-- the scalars that == tells apart as data does -/
def scal : V → V → Bool
  | .non, .non => true | .non, .int _ => true | .int _, .non => true | .non, .bl _ => true | .bl _, .non => true | .non, .str _ => true | .str _, .non => true
  | .int _, .int _ => true | .bl _, .bl _ => true | .str _, .str _ => true | .byt _, .byt _ => true
  | .int _, .str _ => true | .str _, .int _ => true | .bl _, .str _ => true | .str _, .bl _ => true
  | _, _ => false
def rEq : R2 := fun x y H Q => scal x y = true ∧ Q (.bl (decide (x = y))) H
def rNe : R2 := fun x y H Q => scal x y = true ∧ Q (.bl (!decide (x = y))) H

theorem dec_int {i j : Int} : decide (V.int i = V.int j) = (i == j) := by
  rw [Bool.eq_iff_iff]
  simp
theorem dec_bl {i j : Bool} : decide (V.bl i = V.bl j) = (i == j) := by
  rw [Bool.eq_iff_iff]
  simp
theorem dec_str {i j : Str} : decide (V.str i = V.str j) = (i == j) := by
  rw [Bool.eq_iff_iff]
  simp
theorem dec_byt {i j : Array UInt8} : decide (V.byt i = V.byt j) = (i.toList == j.toList) := by
  rw [Bool.eq_iff_iff]
  cases i
  cases j
  simp

section
variable {X : Cx} {a b c : Expr} {ta tb tc : TE} {pos : Pos}
theorem fin_bl {pins : List (Addr × Obj)} {σ : St} {H : Hp} {s : Shared} {Q : VK} {k k' : Bool} (I : Inv X pins σ H s) (q : Q (.bl k) H) (e : k = k') : EP X pins σ Q (.bool k') s := by
  subst e
  exact ⟨.bl k, H, I, rfl, q⟩
theorem op_eq : OpR X (compareOp .Eq) rEq := by
  intro pins s σ H x y v u Q I rx ry h
  obtain ⟨hs, q⟩ := h
  cases x with
  | non =>
    cases rx
    cases y with
    | non => cases ry; exact PySem.EqNone.eq_none_none (fin_bl I q (by simp))
    | bl j => cases ry; exact PySem.EqNone.eq_none_bool (fin_bl I q (by simp))
    | int j => obtain ⟨t', rfl⟩ := ry; exact PySem.EqNone.eq_none_int (fin_bl I q (by simp))
    | str j => obtain ⟨t', rfl⟩ := ry; exact PySem.EqNone.eq_none_str (fin_bl I q (by simp))
    | _ => exact absurd (show false = true from hs) Bool.false_ne_true
  | bl i =>
    cases rx
    cases y with
    | non => cases ry; exact PySem.EqNone.eq_bool_none (fin_bl I q (by simp))
    | bl j => cases ry; exact eq_bool (fin_bl I q dec_bl)
    | str j => obtain ⟨t', rfl⟩ := ry; exact PySem.EqMixed.eq_bool_str (fin_bl I q (by simp))
    | _ => exact absurd (show false = true from hs) Bool.false_ne_true
  | int i =>
    obtain ⟨t, rfl⟩ := rx
    cases y with
    | non => cases ry; exact PySem.EqNone.eq_int_none (fin_bl I q (by simp))
    | int j => obtain ⟨t', rfl⟩ := ry; exact eq_int (fin_bl I q dec_int)
    | str j => obtain ⟨t', rfl⟩ := ry; exact PySem.EqMixed.eq_int_str (fin_bl I q (by simp))
    | _ => exact absurd (show false = true from hs) Bool.false_ne_true
  | str i =>
    obtain ⟨t, rfl⟩ := rx
    cases y with
    | non => cases ry; exact PySem.EqNone.eq_str_none (fin_bl I q (by simp))
    | bl j => cases ry; exact PySem.EqMixed.eq_str_bool (fin_bl I q (by simp))
    | int j => obtain ⟨t', rfl⟩ := ry; exact PySem.EqMixed.eq_str_int (fin_bl I q (by simp))
    | str j => obtain ⟨t', rfl⟩ := ry; exact eq_str (fin_bl I q dec_str)
    | _ => exact absurd (show false = true from hs) Bool.false_ne_true
  | byt i =>
    obtain ⟨t, rfl⟩ := rx
    cases y with
    | byt j => obtain ⟨t', rfl⟩ := ry; exact PySem.W.eq_bytes (fin_bl I q dec_byt)
    | _ => exact absurd (show false = true from hs) Bool.false_ne_true
  | _ => cases y <;> exact absurd (show false = true from hs) Bool.false_ne_true
theorem op_ne : OpR X (compareOp .NotEq) rNe := by
  intro pins s σ H x y v u Q I rx ry h
  obtain ⟨hs, q⟩ := h
  cases x with
  | non =>
    cases rx
    cases y with
    | non => cases ry; exact PySem.EqNone.ne_none_none (fin_bl I q (by simp))
    | bl j => cases ry; exact PySem.EqNone.ne_none_bool (fin_bl I q (by simp))
    | int j => obtain ⟨t', rfl⟩ := ry; exact PySem.EqNone.ne_none_int (fin_bl I q (by simp))
    | str j => obtain ⟨t', rfl⟩ := ry; exact PySem.EqNone.ne_none_str (fin_bl I q (by simp))
    | _ => exact absurd (show false = true from hs) Bool.false_ne_true
  | bl i =>
    cases rx
    cases y with
    | non => cases ry; exact PySem.EqNone.ne_bool_none (fin_bl I q (by simp))
    | bl j => cases ry; exact ne_bool (fin_bl I q (congrArg not dec_bl))
    | str j => obtain ⟨t', rfl⟩ := ry; exact PySem.EqMixed.ne_bool_str (fin_bl I q (by simp))
    | _ => exact absurd (show false = true from hs) Bool.false_ne_true
  | int i =>
    obtain ⟨t, rfl⟩ := rx
    cases y with
    | non => cases ry; exact PySem.EqNone.ne_int_none (fin_bl I q (by simp))
    | int j => obtain ⟨t', rfl⟩ := ry; exact ne_int (fin_bl I q (congrArg not dec_int))
    | str j => obtain ⟨t', rfl⟩ := ry; exact PySem.EqMixed.ne_int_str (fin_bl I q (by simp))
    | _ => exact absurd (show false = true from hs) Bool.false_ne_true
  | str i =>
    obtain ⟨t, rfl⟩ := rx
    cases y with
    | non => cases ry; exact PySem.EqNone.ne_str_none (fin_bl I q (by simp))
    | bl j => cases ry; exact PySem.EqMixed.ne_str_bool (fin_bl I q (by simp))
    | int j => obtain ⟨t', rfl⟩ := ry; exact PySem.EqMixed.ne_str_int (fin_bl I q (by simp))
    | str j => obtain ⟨t', rfl⟩ := ry; exact ne_str (fin_bl I q (congrArg not dec_str))
    | _ => exact absurd (show false = true from hs) Bool.false_ne_true
  | byt i =>
    obtain ⟨t, rfl⟩ := rx
    cases y with
    | byt j => obtain ⟨t', rfl⟩ := ry; exact PySem.W.ne_bytes (fin_bl I q (congrArg not dec_byt))
    | _ => exact absurd (show false = true from hs) Bool.false_ne_true
  | _ => cases y <;> exact absurd (show false = true from hs) Bool.false_ne_true

theorem op_lt : OpR X (compareOp .Lt) (rI0 fun i j => .bl (decide (i < j))) := opB0 fun _ _ _ _ _ _ _ q => lt_int q
theorem op_le : OpR X (compareOp .LtE) (rI0 fun i j => .bl (decide (i ≤ j))) := opB0 fun _ _ _ _ _ _ _ q => le_int q
theorem op_gt : OpR X (compareOp .Gt) (rI0 fun i j => .bl (decide (j < i))) := opB0 fun _ _ _ _ _ _ _ q => gt_int q
/-- is, is not of two objects that are tracked lists or instances -/
def isObj : HO → Bool
  | .lst _ => true
  | .ins _ _ _ => true
  | _ => false
/-- two rules for one operation: by cases -/
theorem OpR.or {f : Value → Value → Sem Value} {r r' : R2} (h : OpR X f r) (h' : OpR X f r') : OpR X f (fun x y H Q => r x y H Q ∨ r' x y H Q) := by
  intro pins s σ H x y v u Q I rx ry q
  rcases q with q | q
  · exact h pins s σ H x y v u Q I rx ry q
  · exact h' pins s σ H x y v u Q I rx ry q

theorem nomark (b : Expr) {op : CmpOp} (h : op ≠ .In := by decide) (h2 : op ≠ .NotIn := by decide) : behindInMarks op b = false := by
  have e1 : (op == CmpOp.In) = false := by cases op <;> first | rfl | exact absurd rfl h
  have e2 : (op == CmpOp.NotIn) = false := by cases op <;> first | rfl | exact absurd rfl h2
  cases b <;> simp [behindInMarks, e1, e2]
/-- a comparison as a value; hm: nomark b, or (for in, not in) by with_unfolding_all rfl -/
theorem pe_cmpR {op : CmpOp} {r : R2} (ho : OpR X (compareOp op) r) (ha : PE X a ta) (hb : PE X b tb) (hm : behindInMarks op b = false) : PE X (.Compare a [op] [b] pos) (tOp r ta tb) := by
  intro pins s σ H Q I h
  exact wpAny_Compare1 (binT ha hb I h fun v u s2 x y H2 I2 rx ry q => ho pins s2 σ H2 x y v u Q I2 rx ry q) hm
/-- a reading of a value as a test -/
def tTest (t : TE) : TT := fun σ H Q => t σ H fun x H' => ∃ k, x = .bl k ∧ Q k H'
theorem pt_cmpR {op : CmpOp} {r : R2} (ho : OpR X (compareOp op) r) (ha : PE X a ta) (hb : PE X b tb) (hm : behindInMarks op b = false) : PT X (.Compare a [op] [b] pos) (tTest (tOp r ta tb)) := by
  intro pins s σ H Q I h
  refine wpAny_isTrue_Compare1 (thn (ha pins s σ H _ I h) fun v s1 ⟨x, H1, I1, r1, q1⟩ => thn (hb pins s1 σ H1 _ I1 q1) fun u s2 ⟨y, H2, I2, r2, q2⟩ =>
    thn (ho pins s2 σ H2 x y v u _ I2 r1 r2 q2) fun c s3 ⟨z, H3, I3, r3, k, e, q3⟩ => ?_) hm
  subst e
  cases r3
  exact wpAny_truthy_bool ⟨H3, I3, q3⟩
/-- a op1 b op2 c -/
def tChain (r r' : R2) (ta tb tc : TE) : TE := fun σ H Q => ta σ H fun x H1 => tb σ H1 fun y H2 => r x y H2 fun z H3 => ∃ k, z = .bl k ∧
  (if k = true then tc σ H3 fun w' H4 => r' y w' H4 Q else Q (.bl false) H3)
/-! ### truth -/
/-- a value's truth by the abstract heap -/
def TruV (K : PySem.W.Frag) (x : V) (H : Hp) (k : Bool) : Prop :=
  match x with
  | .non => k = false
  | .bl b => k = b
  | .int i => k = (i != 0)
  | .str y => y.length ≤ sizeLine ∧ k = ((y.length : Int) != 0)
  | .byt y => y.size ≤ sizeLine ∧ k = ((y.size : Int) != 0)
  | .ref p => (∃ xs, SqL K H p xs ∧ k = !xs.isEmpty) ∨ (∃ xs, SqT K H p xs ∧ k = !xs.isEmpty) ∨ ∃ kvs, H p = some (.dK kvs) ∧ k = !kvs.isEmpty
  | _ => False
theorem line63 : (sizeLine : Nat) < 2 ^ 63 := by rw [sizeLine_eq]; decide
/-! ### strs and bytes -/
def PlainIxT (b : Expr) : Prop := ∀ o i, subscripted b false o i = operate [o, i] (getItem o i)
/-! ### scalar builtins, by CallR -/
theorem vals1 {x : V} {us : List Value} (r : Vals [x] us) : ∃ u, us = [u] ∧ RelV x u := by
  cases r with
  | cons r1 r2 => cases r2; exact ⟨_, rfl, r1⟩
theorem vals2 {x y : V} {us : List Value} (r : Vals [x, y] us) : ∃ u w', us = [u, w'] ∧ RelV x u ∧ RelV y w' := by
  cases r with
  | cons r1 r2 =>
    cases r2 with
    | cons r3 r4 => cases r4; exact ⟨_, _, rfl, r1, r3⟩
theorem call_abs : CallR X (.builtin "abs") (fun xs H Q => ∃ i, xs = [.int i] ∧ Q (.int (if i < 0 then -i else i)) H) := by
  intro pins s σ H xs us Q I r h
  obtain ⟨i, rfl, q⟩ := h
  obtain ⟨u, rfl, t, rfl⟩ := vals1 r
  exact call_abs_int fun u tk => ⟨.int (if i < 0 then -i else i), H, I.tok _, ⟨_, rfl⟩, q⟩
theorem call_min2 (hc : X.calm = true) : CallR X (.builtin "min") (fun xs H Q => ∃ i j, xs = [.int i, .int j] ∧ Q (.int (if j < i then j else i)) H) := by
  intro pins s σ H xs us Q I r h
  obtain ⟨i, j, rfl, q⟩ := h
  obtain ⟨u, w', rfl, ⟨t, rfl⟩, ⟨t', rfl⟩⟩ := vals2 r
  refine min_two_ints (I.ok.hd hc) fun h' tk k => ⟨_, H, I.kept k, ?_, q⟩
  by_cases hj : j < i
  · rw [if_pos hj, if_pos hj]; exact ⟨_, rfl⟩
  · rw [if_neg hj, if_neg hj]; exact ⟨_, rfl⟩
/-- len of a str, a bytes, a list, a tuple -/
def LenV (K : PySem.W.Frag) (x : V) (H : Hp) (n : Nat) : Prop :=
  match x with
  | .str y => y.length ≤ sizeLine ∧ n = y.length
  | .byt y => y.size ≤ sizeLine ∧ n = y.size
  | .ref p => (∃ xs, SqL K H p xs ∧ n = xs.length) ∨ ∃ xs, SqT K H p xs ∧ n = xs.length
  | _ => False
end
end L2

namespace L2
open PySem PySem.Spec PyProof.Rows

/-! ### an instance, its attributes a map -/
structure ObjM (h : Heap) (x dx C : Addr) (mA : Str → Option Value) : Prop where
  obj : h.get? x = some (PySem.W.instObj C dx)
  ns : h.Ns1 dx mA
  ne : dx ≠ x

theorem lookIn_ns {h : Heap} {dx : Addr} {mA : Str → Option Value} (n : h.Ns1 dx mA) : ∃ od, h.get? dx = some od ∧ ∀ name, PySem.W.lookIn name od = some (mA name) := by
  obtain ⟨o, es, ep, ho, hd, hk, _, hm⟩ := n
  refine ⟨o, ho, fun name => ?_⟩
  have e := hm name
  unfold nsFind findBy at e
  rw [← Array.find?_toList] at e
  unfold PySem.W.lookIn
  rw [hd]
  dsimp only
  split
  · rename_i y q
    rw [q] at e
    exact congrArg some e
  · rename_i q
    rw [q] at e
    have a : es.toList.any (·.refKey) = false := by
      rw [List.any_eq_false]
      intro y hy
      obtain ⟨z, t, hkey⟩ := hk y (Array.mem_toList_iff.mp hy)
      simp [DictEntry.refKey, hkey]
    have a' : ¬ es.toList.any (·.refKey) = true := by rw [a]; exact Bool.false_ne_true
    rw [if_neg a']
    exact congrArg some e

theorem ObjM.look {h : Heap} {x dx C : Addr} {mA : Str → Option Value} (I : ObjM h x dx C mA) : ∃ od, PySem.W.InstAt h x (PySem.W.instObj C dx) C (some od) ∧ ∀ name, PySem.W.lookIn name od = some (mA name) :=
  let ⟨od, ho, hl⟩ := lookIn_ns I.ns
  ⟨od, ⟨I.obj, rfl, rfl, ho⟩, hl⟩

section
variable {prog : Program} {w : World} {A : Around} {E : Value → Shared → Prop} {s : Shared} {K : PySem.W.Frag} {x dx C f : Addr} {mA : Str → Option Value} {name : Str} {v : Value}

end

/-! ### the attributes as a list of pairs -/
def putF (f : Str) (v : V) : List (Str × V) → List (Str × V)
  | [] => [(f, v)]
  | (g, x) :: r => if g = f then (g, v) :: r else (g, x) :: putF f v r
theorem RelO.none_of {o : Option Value} (r : RelO none o) : o = none := by
  cases o with
  | none => rfl
  | some u => exact (show False from r).elim
section
variable {P : Program} {w : World} {H H' : Hp} {h h' : Heap} {a C dx : Addr} {fs fs' : List (Str × V)}
theorem ins_get (hok : HOk P w H h) (e : H a = some (.ins C dx fs)) : ∃ mA, ObjM h a dx C mA ∧ (∀ f, RelO (fs.lookup f) (mA f)) ∧ PySem.Within mA (fs.map (·.1)) ∧ fs.length ≤ 1000 ∧ H dx = some (.own a) := by
  obtain ⟨d, z, ne, ob, mA, n, r, q⟩ := (show ObjOk P w H h a (.ins C dx fs) from hok a _ e)
  exact ⟨mA, ⟨ob, n, ne⟩, r, q, z, d⟩
end

/-! ### what of the text a class must have -/
structure Cls (K : PySem.W.Frag) (C : Addr) : Prop where
  pg : PySem.W.plainGet K C Str.empty = true
  hd : PySem.W.hasDictIn K C = true
  po : PySem.W.plainOver K C = true
  sa : PySem.W.findIn K (.ref C) "__setattr__" = some (some (.builtin "object.__setattr__"))
theorem Cls.get {K : PySem.W.Frag} {C : Addr} (c : Cls K C) (f : Str) : PySem.W.plainGet K C f = true := c.pg
/-- no class of it has the name -/
def NoAttr (K : PySem.W.Frag) (C : Addr) (f : Str) : Prop := PySem.W.findIn K (.ref C) f = some none
/-- a constant of the class -/
structure Con (K : PySem.W.Frag) (C : Addr) (f : Str) (v : V) (u : Value) : Prop where
  at_ : PySem.W.findIn K (.ref C) f = some (some u)
  rel : RelV v u
  get : PySem.W.specialIn K u "__get__" = some none
  cp : PySem.W.copiedNames.contains f = false
/-- a method: a plain def of the class or of one above it -/
structure Meth (K : PySem.W.Frag) (C : Addr) (m : Str) (f : Addr) : Prop where
  at_ : PySem.W.findIn K (.ref C) m = some (some (.ref f))
  fn : PySem.W.isFn K (.ref f) = true
  kp : PySem.W.keepIn K (.ref f) = true

section
variable {X : Cx} {pins : List (Addr × Obj)} {σ : St} {H : Hp} {s : Shared} {a C dx : Addr} {fs : List (Str × V)} {f : Str} {v : V} {A : Around} {E : Value → Shared → Prop}

/-- a new instance, tracked, without attributes -/
theorem Inv.made (I : Inv X pins σ H s) : Inv X pins σ (upd (upd H s.heap.objs.size (.own (s.heap.objs.size + 1))) (s.heap.objs.size + 1) (.ins C s.heap.objs.size []))
    { s with heap := (s.heap.push PySem.W.emptyDict).push (PySem.W.instObj C s.heap.objs.size) } := by
  have e1 : (s.heap.push PySem.W.emptyDict).get? s.heap.objs.size = some PySem.W.emptyDict := Heap.get?_push_size s.heap rfl
  have e2 : ((s.heap.push PySem.W.emptyDict).push (PySem.W.instObj C s.heap.objs.size)).get? (s.heap.objs.size + 1) = some (PySem.W.instObj C s.heap.objs.size) := by
    have := Heap.get?_push_size (s.heap.push PySem.W.emptyDict) (o := PySem.W.instObj C s.heap.objs.size) rfl
    rwa [Heap.size_push] at this
  have e3 : (s.heap.push PySem.W.emptyDict).Ns s.heap.objs.size (fun _ => none) := ⟨PySem.W.emptyDict, #[], _, e1, rfl, (fun e he => absurd he (by simp)), fun _ => rfl⟩
  have I1 := I.laid (a := s.heap.objs.size) (o := .own (s.heap.objs.size + 1)) (h' := s.heap.push PySem.W.emptyDict) (t' := s.toks) (fun b u q => Heap.get?_push_of_some _ q) (Nat.le_refl _) ⟨_, e1⟩
  refine I1.laid (a := s.heap.objs.size + 1) (o := .ins C s.heap.objs.size []) (t' := s.toks) (fun b u q => Heap.get?_push_of_some _ q) (Nat.le_of_eq (Heap.size_push _ _)) ?_
  have ne : s.heap.objs.size ≠ s.heap.objs.size + 1 := Nat.ne_of_lt (Nat.lt_succ_self _)
  refine ⟨by rw [upd_ne ne, upd_same], Nat.zero_le _, ne, e2, fun _ => none, (Heap.Ns1.of_empty e3).at fun o q => Heap.get?_push_of_some _ q, fun _ => True.intro, fun y hy => absurd rfl hy⟩

end

/-! ### readings and rules -/
/-- e.f, an attribute of the instance -/
def tFld (K : PySem.W.Frag) (ta : TE) (f : Str) : TE := fun σ H Q => ta σ H fun x H1 => ∃ a C dx fs v, x = .ref a ∧ H1 a = some (.ins C dx fs) ∧ Cls K C ∧ NoAttr K C f ∧ fs.lookup f = some v ∧ Q v H1
/-- e.f, a constant of the class -/
def tCon (K : PySem.W.Frag) (ta : TE) (f : Str) : TE := fun σ H Q => ta σ H fun x H1 => ∃ a C dx fs v u, x = .ref a ∧ H1 a = some (.ins C dx fs) ∧ Cls K C ∧ Con K C f v u ∧ fs.lookup f = none ∧ Q v H1
/-- e.f = value -/
def sFld (K : PySem.W.Frag) (ta tv : TE) (f : Str) : TS := fun D σ H => tv σ H fun y H1 => ta σ H1 fun x H2 => ∃ a C dx fs, x = .ref a ∧ H2 a = some (.ins C dx fs) ∧ Cls K C ∧ NoAttr K C f ∧ fs.length < 1000 ∧
  D.nx σ (upd H2 a (.ins C dx (putF f y fs)))
/-- an augmented operator on two values -/
def InOp (X : Cx) (op : Operator) (rd : V → V → Hp → VK → Prop) : Prop :=
  ∀ (pins : List (Addr × Obj)) (s : Shared) (σ : St) (H : Hp) (x y : V) (u v : Value) (Q : VK), Inv X pins σ H s → RelV x u → RelV y v → rd x y H Q → wpAny (model X.prog X.w) X.A (inplaceOp op u v) (EP X pins σ Q) X.xe s
/-- e.f op= value -/
def sFldAug (K : PySem.W.Frag) (ta tv : TE) (rd : V → V → Hp → VK → Prop) (f : Str) : TS := fun D σ H => ta σ H fun x H1 => ∃ a C dx fs v, x = .ref a ∧ H1 a = some (.ins C dx fs) ∧ Cls K C ∧ NoAttr K C f ∧ fs.lookup f = some v ∧
  tv σ H1 fun y H2 => rd v y H2 fun z H3 => ∃ dx' fs', H3 a = some (.ins C dx' fs') ∧ fs'.length < 1000 ∧ D.nx σ (upd H3 a (.ins C dx' (putF f z fs')))

section
variable {X : Cx} {o e value : Expr} {f : Str} {pos pos' tpos : Pos} {ta tv : TE}
def rAdd : V → V → Hp → VK → Prop := fun x y H Q => ∃ i j, x = .int i ∧ y = .int j ∧ Q (.int (i + j)) H
def rSub : V → V → Hp → VK → Prop := fun x y H Q => ∃ i j, x = .int i ∧ y = .int j ∧ Q (.int (i - j)) H
end

/-! ### isinstance -/
section
variable {X : Cx} {pins : List (Addr × Obj)} {σ : St} {H : Hp} {s : Shared} {A : Around} {E : Value → Shared → Prop} {Q : Value → Shared → Prop} {c : Value} {b : Bool}
/-- the type of a value, as the fragment's deciders take it; for an instance its class -/
inductive TyOf (K : PySem.W.Frag) (H : Hp) : V → Value → Prop where
  | non : TyOf K H .non (.type "NoneType")
  | bl (x : Bool) : TyOf K H (.bl x) (.type "bool")
  | int (i : Int) : TyOf K H (.int i) (.type "int")
  | str (x : Str) : TyOf K H (.str x) (.type "str")
  | flt (x : UInt64) : TyOf K H (.flt x) (.type "float")
  | lst {a : Addr} {xs : List V} (e : H a = some (.lst xs)) : TyOf K H (.ref a) (.type "list")
  | frz {a : Addr} {o : Obj} {xs : List V} (e : H a = some (.frz o (.lst xs))) : TyOf K H (.ref a) (.type "list")
  | tup {a : Addr} {xs : List V} (e : H a = some (.tup xs)) : TyOf K H (.ref a) (.type "tuple")
  | dK {a : Addr} {kvs : List (Key × V)} (e : H a = some (.dK kvs)) : TyOf K H (.ref a) (.type "dict")
  | dT {a : Addr} {kvs : List (List Key × V)} (e : H a = some (.dT kvs)) : TyOf K H (.ref a) (.type "dict")
  | ins {a C dx : Addr} {fs : List (Str × V)} (e : H a = some (.ins C dx fs)) (cl : Cls K C) (ha : PySem.W.findIn K (.ref C) "__class__" = some (some (.builtin "object.__class__")))
      (hn : PySem.W.specialIn K (.builtin "object.__class__") "__get__" = some (some (.builtin "getset_descriptor.__get__"))) (htk : PySem.W.takesIn K (.builtin "object.__class__") = some true)
      (hm : PySem.W.mroIn K C (.type "object") = some true) : TyOf K H (.ref a) (.ref C)
/-- isinstance(x, c) for one class c, a built-in or an own one: kitOne's answer -/
theorem isinst_ok {x : V} {u t : Value} (I : Inv X pins σ H s) (rx : RelV x u) (ty : TyOf X.K H x t) (e : PySem.W.kitOne X.K t c = some b) (h : ∀ tk, Q (.bool b) { s with toks := tk }) :
    wpAny (model X.prog X.w) A (call (.builtin "isinstance") [u, c]) Q E s := by
  cases ty with
  | non => cases (show u = Value.none from rx); exact PySem.W.kia_one PySem.W.kitx_none I.kIn True.intro e (fun z => nomatch z) h
  | bl y => cases (show u = Value.bool y from rx); exact PySem.W.kia_one PySem.W.kitx_bool I.kIn True.intro e (fun z => nomatch z) h
  | int i => obtain ⟨t, q⟩ := (show ∃ t, u = Value.int i t from rx); cases q; exact PySem.W.kia_one PySem.W.kitx_int I.kIn True.intro e (fun z => nomatch z) h
  | str y => obtain ⟨t, q⟩ := (show ∃ t, u = Value.str y t from rx); cases q; exact PySem.W.kia_one PySem.W.kitx_str I.kIn True.intro e (fun z => nomatch z) h
  | flt y => obtain ⟨t, q⟩ := (show ∃ t, u = Value.float y t from rx); cases q; exact PySem.W.kia_one PySem.W.kitx_float I.kIn True.intro e (fun z => nomatch z) h
  | @lst a xs ea =>
    cases (show u = Value.ref a from rx)
    obtain ⟨_, _, n, _, h1⟩ := (show ObjOk X.prog X.w H s.heap a (.lst xs) from I.hok a _ ea)
    exact PySem.W.kia_one PySem.W.kitx_list I.kIn ⟨_, h1, rfl⟩ e (fun z => nomatch z) h
  | @frz a ob xs ea =>
    cases (show u = Value.ref a from rx)
    obtain ⟨_, _, _, n, _, h1⟩ := (show ObjOk X.prog X.w H s.heap a (.frz ob (.lst xs)) from I.hok a _ ea)
    exact PySem.W.kia_one PySem.W.kitx_list I.kIn ⟨_, h1, rfl⟩ e (fun z => nomatch z) h
  | @tup a xs ea =>
    cases (show u = Value.ref a from rx)
    obtain ⟨_, _, _, p⟩ := (show ObjOk X.prog X.w H s.heap a (.tup xs) from I.hok a _ ea)
    obtain ⟨o, h1, h2, _⟩ := p
    exact PySem.W.kia_one PySem.W.kitx_tuple I.kIn ⟨o, h1, h2⟩ e (fun z => nomatch z) h
  | @dK a kvs ea =>
    cases (show u = Value.ref a from rx)
    obtain ⟨_, _, vs, _, p⟩ := (show ObjOk X.prog X.w H s.heap a (.dK kvs) from I.hok a _ ea)
    obtain ⟨o, es, ep, h1, h2, _⟩ := p
    exact PySem.W.kia_one PySem.W.kitx_dict I.kIn ⟨o, h1, h2.1⟩ e (fun z => nomatch z) h
  | @dT a kvs ea =>
    cases (show u = Value.ref a from rx)
    obtain ⟨_, _, xs, _, o, es, ep, h1, h2, _⟩ := (show ObjOk X.prog X.w H s.heap a (.dT kvs) from I.hok a _ ea)
    exact PySem.W.kia_one PySem.W.kitx_dict I.kIn ⟨o, h1, h2.1⟩ e (fun z => nomatch z) h
  | @ins a C dx fs ea cl ha hn htk hm =>
    cases (show u = Value.ref a from rx)
    obtain ⟨mA, O, _⟩ := ins_get I.hok ea
    obtain ⟨od, J, _⟩ := O.look
    exact PySem.W.kia_one (PySem.W.kitx_own (cl.get _) cl.hd ha hn htk hm) I.kIn J e (fun z => nomatch z) h
end
end L2

namespace L2
open PySem PySem.Spec PyProof.Rows

/-! ### room -/
structure Room (k : Nat) (A : Around) : Prop where
  hd : A.handled = none
  dp : A.depth + 3 * k + 5 < recursionLimit
  un : A.units + 16 * k + 200 < cLine
theorem Room.mono {j k : Nat} {A : Around} (r : Room k A) (h : j ≤ k) : Room j A := ⟨r.hd, by have := r.dp; omega, by have := r.un; omega⟩
theorem Room.deeper {k : Nat} {A : Around} (r : Room (k + 1) A) (env : Env) : Room k (A.deeper env) :=
  ⟨r.hd, by have := r.dp; show A.depth + 1 + 3 * k + 5 < _; omega, by have := r.un; show A.units + 3 + 16 * k + 200 < _; omega⟩
theorem Room.in1 {k : Nat} {A : Around} (r : Room (k + 1) A) : Room k A.in1 :=
  ⟨r.hd, by have := r.dp; show A.depth + 3 * k + 5 < _; omega, by have := r.un; show A.units + 1 + 16 * k + 200 < _; omega⟩
theorem make_depth {A : Around} {C : Addr} {us : List Value} {kw : List (Str × Value)} : (A.under (.builtin "type.__call__" ⟨.ref C :: us, kw⟩)).depth = A.depth + 1 := by
  first | rfl | simp [Around.under, Code.weight, Code.isCreation, Code.isGuard, Code.isCaller, Code.frames, Code.isFrame, guardIds]
theorem make_units {A : Around} {C : Addr} {us : List Value} {kw : List (Str × Value)} : (A.under (.builtin "type.__call__" ⟨.ref C :: us, kw⟩)).units = A.units + 1 := by
  first | rfl | simp [Around.under, Code.cUnits, Code.frames, Code.isFrame]
theorem Room.make {k : Nat} {A : Around} (r : Room (k + 1) A) (C : Addr) (us : List Value) (kw : List (Str × Value)) : Room k (A.under (.builtin "type.__call__" ⟨.ref C :: us, kw⟩)) :=
  ⟨r.hd, by have := r.dp; rw [make_depth]; omega, by have := r.un; rw [make_units]; omega⟩
theorem Room.depth {k : Nat} {A : Around} (r : Room k A) : A.depth < recursionLimit := by have := r.dp; omega
theorem Room.units {k : Nat} {A : Around} (r : Room k A) : A.units + 64 < cLine := by have := r.un; omega
/-! ### argument lists and displays -/
def tNil : TA := fun _ H Q => Q [] H
def tCons (ta : TE) (tr : TA) : TA := fun σ H Q => ta σ H fun x H1 => tr σ H1 fun xs H2 => Q (x :: xs) H2
section
variable {X : Cx} {e : Expr} {es : List Expr} {te : TE} {t : TA} {pos : Pos}
theorem pa_nil : PA X [] tNil := fun _ _ _ _ H Q I h => Calls.spliced_nil ⟨[], H, I, .nil, h⟩
theorem pa_cons (ha : PE X e te) (hr : PA X es t) (hs : starEach (e :: es) X.env = (false, eval e X.env) :: starEach es X.env := by rfl) : PA X (e :: es) (tCons te t) := by
  intro pos pins s σ H Q I h
  rw [hs]
  show wpAny _ _ (spliced ((false, eval e X.env) :: backTo pos (starEach es X.env))) _ _ s
  refine Calls.spliced_cons (thn (ha pins s σ H _ I h) fun u s1 ⟨x, H1, I1, r1, q1⟩ => ?_)
  exact thn (hr pos pins s1 σ H1 _ I1 q1) fun us s2 ⟨xs, H2, I2, r2, q2⟩ => ⟨x :: xs, H2, I2, .cons r1 r2, q2⟩

/-- a tuple, a list of written items -/
def tTup (t : TA) : TE := fun σ H Q => t σ H fun xs H1 => xs.length ≤ sizeLine ∧ ∀ p, H1 p = none → Q (.ref p) (upd H1 p (.tup xs))
def tLst (t : TA) : TE := fun σ H Q => t σ H fun xs H1 => xs.length ≤ sizeLine ∧ ∀ p, H1 p = none → Q (.ref p) (upd H1 p (.lst xs))
theorem pe_tup {x1} (h : PA X es t) : PE X (.Tuple es x1 pos) (tTup t) := by
  intro pins s σ H Q I hq
  refine wpAny_Tuple_spliced (thn (h pos pins s σ H _ I hq) fun us s1 ⟨xs, H1, I1, r, z, q⟩ => ⟨by rw [← r.length]; exact z, ?_⟩)
  have hf : H1 s1.heap.objs.size = none := I1.hok.fresh (Nat.le_refl _)
  refine ⟨.ref s1.heap.objs.size, upd H1 s1.heap.objs.size (.tup xs), I1.laid (t' := s1.toks) (fun b u e => Heap.get?_push_of_some _ e) (Nat.le_refl _) ?_, rfl, q _ hf⟩
  exact ⟨z, us, r, ⟨_, Heap.get?_push_size _ rfl, rfl, _, rfl⟩⟩
theorem pe_lst (h : PA X es t) : PE X (.List es pos) (tLst t) := by
  intro pins s σ H Q I hq
  refine wpAny_List_spliced (thn (h pos pins s σ H _ I hq) fun us s1 ⟨xs, H1, I1, r, z, q⟩ => ⟨by rw [← r.length]; exact z, ?_⟩)
  have hf : H1 s1.heap.objs.size = none := I1.hok.fresh (Nat.le_refl _)
  refine ⟨.ref s1.heap.objs.size, upd H1 s1.heap.objs.size (.lst xs), I1.laid (t' := s1.toks) (fun b u e => Heap.get?_push_of_some _ e) (Nat.le_refl _) ?_, rfl, q _ hf⟩
  exact ⟨z, us, 0, r, Heap.get?_push_size _ rfl⟩
end

/-! ### what a def promises -/
/-- a def's promise: the bound arguments in the parameters' order, the heap, the wanted end, the wanted exception -/
abbrev Sp := List V → Hp → VK → XK → Prop
/-- how an exception lies behind a call (file 08 gives it): the callers' frames, abstract heap and state ahead of the call, the wish, the exception, the state -/
abbrev CXT := List Env → Hp → Shared → XK → Value → Shared → Prop

/-- the state at a call -/
structure Env0 (P : Program) (w : World) (K : PySem.W.Frag) (mg : Str → Option Value) (base : Heap) (A : Around) (outer : List Env) (s : Shared) (H : Hp) : Prop where
  frames : A.frames = some outer
  mod : Mod K mg base
  bs : ∀ b o, base.get? b = some o → s.heap.get? b = some o ∧ H b = none
  bsz : base.objs.size ≤ s.heap.objs.size
  funs : s.heap.FunFrames base outer
  frf : ∀ b ∈ frs outer, H b = none
  hok : HOk P w H s.heap
  bare : AllBare s.gens
/-- a call's end -/
def CE (outer : List Env) (P : Program) (w : World) (H : Hp) (s : Shared) (Q : VK) (u : Value) (s' : Shared) : Prop :=
  ∃ v H', s'.os = s.os ∧ AllBare s'.gens ∧ Un (frs outer) [] H H' s.heap s'.heap ∧ HOk P w H' s'.heap ∧ RelV v u ∧ Q v H'
def CR (CX : CXT) (outer : List Env) (P : Program) (w : World) (H : Hp) (s : Shared) (Q : VK) (E : XK) (r : Result) (s' : Shared) : Prop :=
  match r with
  | .ok (.ret u) => CE outer P w H s Q u s'
  | .ok _ => False
  | .error e => CX outer H s E e s'
structure FnOk (P : Program) (w : World) (K : PySem.W.Frag) (mg : Str → Option Value) (base : Heap) (CX : CXT) (k : Nat) (f : Addr) (fd : FuncData) (ps : List Str) (sp : Sp) : Prop where
  len : ∀ vs H Q E, sp vs H Q E → vs.length = ps.length
  run : ∀ (A : Around) (outer : List Env) (s : Shared) (H : Hp) (args : Args) (us : List Value) (vs : List V) (Q : VK) (E : XK), Room k A → Env0 P w K mg base A outer s H → BindsTo s fd args (ps.zip us) → Vals vs us → sp vs H Q E →
    codeAny (model P w) A (.call (.ref f) args) (CR CX outer P w H s Q E) s
theorem FnOk.mono {P : Program} {w : World} {K : PySem.W.Frag} {mg : Str → Option Value} {base : Heap} {CX : CXT} {j k : Nat} {f : Addr} {fd : FuncData} {ps : List Str} {sp : Sp} (F : FnOk P w K mg base CX j f fd ps sp) (h : j ≤ k) :
    FnOk P w K mg base CX k f fd ps sp := ⟨F.len, fun A outer s H args us vs Q E hr => F.run A outer s H args us vs Q E (hr.mono h)⟩
theorem Env0.make {P : Program} {w : World} {K : PySem.W.Frag} {mg : Str → Option Value} {base : Heap} {A : Around} {outer : List Env} {s : Shared} {H : Hp} (e : Env0 P w K mg base A outer s H) (C : Addr) (us : List Value) (kw : List (Str × Value)) :
    Env0 P w K mg base (A.under (.builtin "type.__call__" ⟨.ref C :: us, kw⟩)) outer s H := ⟨by first | exact e.frames | (simpa [Around.under, Code.envs, Code.isFrame, pushEnvs] using e.frames), e.mod, e.bs, e.bsz, e.funs, e.frf, e.hok, e.bare⟩
theorem Env0.in1 {P : Program} {w : World} {K : PySem.W.Frag} {mg : Str → Option Value} {base : Heap} {A : Around} {outer : List Env} {s : Shared} {H : Hp} (e : Env0 P w K mg base A outer s H) :
    Env0 P w K mg base A.in1 outer s H := ⟨e.frames, e.mod, e.bs, e.bsz, e.funs, e.frf, e.hok, e.bare⟩

section
variable {X : Cx} {pins : List (Addr × Obj)} {σ : St} {H : Hp} {s s' : Shared}
/-- from a body: what a callee wants -/
theorem Inv.env0 (I : Inv X pins σ H s) : Env0 X.prog X.w X.K X.mg X.base X.A X.stack s H :=
  ⟨I.ok.frames, I.ok.mod, I.bs, Nat.le_trans I.ok.bsz I.sz, I.stack, I.stkFree, I.hok, I.bare⟩
/-- behind a call -/
theorem Inv.after {Q : VK} {u : Value} (I : Inv X pins σ H s) (h : CE X.stack X.prog X.w H s Q u s') : EP X pins σ Q u s' := by
  obtain ⟨v, H', os, bare, un, hok, r, q⟩ := h
  obtain ⟨hh, g, d, t, os'⟩ := s'
  obtain rfl : os' = s.os := os
  exact ⟨v, H', I.call (h' := hh) (g' := g) (d' := d) (t' := t) (ch := []) un hok bare (fun b z => absurd z (by simp)), r, q⟩
end

/-! ### calls -/
/-- f(..): the written arguments, then the defaults dvs; E: what is wanted of an exception -/
def tCall (sp : Sp) (dvs : List V) (E : XK) (t : TA) : TE := fun σ H Q => t σ H fun vs H1 => sp (vs ++ dvs) H1 Q E
/-- o.m(..) of an instance of the class at C -/
def tMeth (C : Addr) (m : Str) (sp : Sp) (dvs : List V) (E : XK) (ta : TE) (t : TA) : TE := fun σ H Q => ta σ H fun x H1 => ∃ a dx fs, x = .ref a ∧ H1 a = some (.ins C dx fs) ∧ fs.lookup m = none ∧
  t σ H1 fun vs H2 => sp (x :: (vs ++ dvs)) H2 Q E
/-- C(..): a new instance and its dict, then __init__ -/
def tMake (C : Addr) (sp : Sp) (dvs : List V) (E : XK) (t : TA) : TE := fun σ H Q => t σ H fun vs H1 => ∀ x dx, H1 x = none → H1 dx = none → dx ≠ x →
  sp (.ref x :: (vs ++ dvs)) (upd (upd H1 dx (.own x)) x (.ins C dx [])) (fun v H2 => v = .non ∧ Q (.ref x) H2) E

/-- how the parameters are bound: us the positional arguments, kw the keywords' values by name, ds the defaults that fill up -/
def Binds (K : PySem.W.Frag) (fd : FuncData) (ps : List Str) (ds : List Value) : Prop :=
  ∀ (s : Shared) (us : List Value), K.In s.heap → (us ++ ds).length = ps.length → BindsTo s fd ⟨us, []⟩ (ps.zip (us ++ ds))
/-- every parameter is given -/
theorem Binds.all {K : PySem.W.Frag} {fd : FuncData} {ps : List Str} (h : ∀ us : List Value, us.length = ps.length → bindArgs fd ⟨us, []⟩ = pure (ps.zip us)) : Binds K fd ps [] := fun s us _ hl => by
  rw [List.append_nil] at hl ⊢
  exact .of_eq (h us hl)

/-- an exception of a callee reaches what this body wants of exceptions -/
def Passes (CX : CXT) (X : Cx) (E : XK) : Prop := ∀ (pins : List (Addr × Obj)) (σ : St) (H : Hp) (s : Shared) (e : Value) (s' : Shared), Inv X pins σ H s → CX X.stack H s E e s' → X.xe e s'

section
variable {X : Cx} {CX : CXT} {k : Nat} {f C : Addr} {fd : FuncData} {ps : List Str} {sp : Sp} {dvs : List V} {ds : List Value} {E : XK} {x m : Str} {p pos apos : Pos} {e o : Expr} {es : List Expr} {ta : TE} {t : TA}

/-- the callee runs -/
theorem run_fn {pins : List (Addr × Obj)} {σ : St} {H : Hp} {s : Shared} {Q : VK} {us : List Value} {vs : List V} (F : FnOk X.prog X.w X.K X.mg X.base CX k f fd ps sp) (hr : Room k X.A) (hb : Binds X.K fd ps ds) (hd : Vals dvs ds) (hx : Passes CX X E)
    (I : Inv X pins σ H s) (r : Vals vs us) (h : sp (vs ++ dvs) H Q E) : wpAny (model X.prog X.w) X.A (call (.ref f) us) (EP X pins σ Q) X.xe s := by
  have r2 : Vals (vs ++ dvs) (us ++ ds) := r.append hd
  have hl : (us ++ ds).length = ps.length := by rw [← r2.length]; exact F.len _ _ _ _ h
  refine wpAny_call (codeAny_mono (F.run X.A X.stack s H ⟨us, []⟩ (us ++ ds) (vs ++ dvs) Q E hr I.env0 (hb s us I.kIn hl) r2 h) fun r s' hq => ?_)
  cases r with
  | error e => exact hx pins σ H s e s' I hq
  | ok fl =>
    cases fl with
    | ret u => exact I.after hq
    | next => exact False.elim hq
    | brk => exact False.elim hq
    | cont => exact False.elim hq

theorem pe_call (F : FnOk X.prog X.w X.K X.mg X.base CX k f fd ps sp) (hr : Room k X.A) (hg : Gl X x) (hm : X.mg x = some (.ref f)) (hk : PySem.W.keepIn X.K (.ref f) = true) (hb : Binds X.K fd ps ds) (hd : Vals dvs ds) (hx : Passes CX X E)
    (ha : PA X (e :: es) t) (hdb : (x == ("__debug__" : Str)) = false := by decide) (he : starEach (e :: es) X.env = (false, eval e X.env) :: starEach es X.env := by rfl) (hpl : (backTo pos (starEach es X.env)).any (·.1) = false := by rfl) :
    PE X (.Call (.Name x p) (e :: es) [] pos) (tCall sp dvs E t) := by
  intro pins s σ H Q I h
  refine wpAny_Call_Name_kw (ld_glob I hg hm ?_ hdb)
  refine PySem.W.callWith_K (h₀ := X.base) I.ok.mod.kin hk (thn (ha pos pins s σ H _ I h) fun us s1 ⟨vs, H1, I1, r, q⟩ => ⟨I1.kIn, ?_⟩) he hpl
  exact run_fn F hr hb hd hx I1 r q
/-- what a class must have to be made -/
structure Mk (K : PySem.W.Frag) (C f : Addr) : Prop where
  makes : PySem.W.makesIn K C = true
  init : PySem.W.findIn K (.ref C) "__init__" = some (some (.ref f))
  fn : PySem.W.isFn K (.ref f) = true
  kp : PySem.W.keepIn K (.ref C) = true

end

/-! ### keywords -/
/-- the values of the keywords, from the left -/
def PK (X : Cx) (kws : List Keyword) (t : TA) : Prop :=
  ∀ (pos : Pos) (pins : List (Addr × Obj)) (s : Shared) (σ : St) (H : Hp) (Q : List V → Hp → Prop), Inv X pins σ H s → t σ H Q → wpAny (model X.prog X.w) X.A (evalAll ((backToKw pos (keywordEach kws X.env)).map (·.2))) (AP X pins σ Q) X.xe s
section
variable {X : Cx} {CX : CXT} {k : Nat} {f C : Addr} {fd : FuncData} {ps ks : List Str} {sp : Sp} {E : XK} {x m : Str} {p pos apos kpos : Pos} {e o : Expr} {es : List Expr} {kws : List Keyword} {te ta : TE} {t tk : TA} {nm : Option Str}
/-- how a call with keywords binds: g puts the positional values us and the keywords' values ws (names ks) in the parameters' order, defaults among them -/
structure KBinds (K : PySem.W.Frag) (fd : FuncData) (ps ks : List Str) (g : List Value → List Value → List Value) (gV : List V → List V → List V) : Prop where
  to : ∀ (s : Shared) (us ws : List Value), K.In s.heap → (g us ws).length = ps.length → BindsTo s fd ⟨us, ks.zip ws⟩ (ps.zip (g us ws))
  rel : ∀ {vs : List V} {us : List Value} {zs : List V} {ws : List Value}, Vals vs us → Vals zs ws → Vals (gV vs zs) (g us ws)
def tCallK (sp : Sp) (gV : List V → List V → List V) (E : XK) (t tk : TA) : TE := fun σ H Q => t σ H fun vs H1 => tk σ H1 fun zs H2 => sp (gV vs zs) H2 Q E
variable {g : List Value → List Value → List Value} {gV : List V → List V → List V}
end

/-! ### a def's body keeps its promise -/
/-- names: the parameters first -/
structure FnScope (N P : List Str) (sc : Scope) : Prop where
  kind : sc.kind = .function
  co : sc.isCoroutine = false
  gen : sc.isGenerator = false
  nd : N.Nodup
  pre : N.take P.length = P
  par : ∀ x ∈ P, sc.names.lookup x = some .local ∨ sc.names.lookup x = some .cell
  nofree : ∀ y ∈ sc.names, y.2 ≠ .free

theorem bindL_out {kindOf : Str → Option NameKind} {x : Str} : ∀ {binds : List (Str × Value)} {m : Str → Option Value}, (∀ v, (x, v) ∉ binds) → bindL kindOf binds m x = m x
  | [], _, _ => rfl
  | (n, v) :: r, m, h => by
    unfold bindL
    rw [bindL_out fun w hw => h w (List.mem_cons_of_mem _ hw)]
    split
    · have : x ≠ n := by rintro rfl; exact h v List.mem_cons_self
      simp [this]
    · rfl
theorem bindC_out {kindOf : Str → Option NameKind} {x : Str} : ∀ {binds : List (Str × Value)} {m : Str → Option Value}, (∀ v, (x, v) ∉ binds) → bindC kindOf binds m x = m x
  | [], _, _ => rfl
  | (n, v) :: r, m, h => by
    unfold bindC
    rw [bindC_out fun w hw => h w (List.mem_cons_of_mem _ hw)]
    split
    · rfl
    · have : x ≠ n := by rintro rfl; exact h v List.mem_cons_self
      simp [this]
theorem bindL_get {kindOf : Str → Option NameKind} {x : Str} {v : Value} : ∀ {P : List Str} {vs : List Value} {i : Nat} {m : Str → Option Value}, P.Nodup → P[i]? = some x → vs[i]? = some v → kindOf x = some .local →
    bindL kindOf (P.zip vs) m x = some v
  | [], _, _, _, _, h, _, _ => by simp at h
  | _ :: _, [], _, _, _, _, h, _ => by simp at h
  | p :: P, w :: vs, 0, m, nd, h1, h2, hk => by
    simp at h1 h2; subst h1; subst h2
    show bindL kindOf ((p, w) :: P.zip vs) m p = _
    unfold bindL
    rw [bindL_out fun v hv => (List.nodup_cons.mp nd).1 (List.of_mem_zip hv).1, if_pos hk]
    simp
  | p :: P, w :: vs, i + 1, m, nd, h1, h2, hk => by
    show bindL kindOf ((p, w) :: P.zip vs) m x = _
    unfold bindL
    exact bindL_get (i := i) (List.nodup_cons.mp nd).2 (by simpa using h1) (by simpa using h2) hk
theorem bindC_get {kindOf : Str → Option NameKind} {x : Str} {v : Value} : ∀ {P : List Str} {vs : List Value} {i : Nat} {m : Str → Option Value}, P.Nodup → P[i]? = some x → vs[i]? = some v → kindOf x ≠ some .local →
    bindC kindOf (P.zip vs) m x = some v
  | [], _, _, _, _, h, _, _ => by simp at h
  | _ :: _, [], _, _, _, _, h, _ => by simp at h
  | p :: P, w :: vs, 0, m, nd, h1, h2, hk => by
    simp at h1 h2; subst h1; subst h2
    show bindC kindOf ((p, w) :: P.zip vs) m p = _
    unfold bindC
    rw [bindC_out fun v hv => (List.nodup_cons.mp nd).1 (List.of_mem_zip hv).1, if_neg hk]
    simp
  | p :: P, w :: vs, i + 1, m, nd, h1, h2, hk => by
    show bindC kindOf ((p, w) :: P.zip vs) m x = _
    unfold bindC
    exact bindC_get (i := i) (List.nodup_cons.mp nd).2 (by simpa using h1) (by simpa using h2) hk

/-- the names' values at the entry -/
def start (N : List Str) (vs : List V) : St := vs.map some ++ List.replicate (N.length - vs.length) none

/-- the context of a def's body, at its entry; an exception leaves the frame, then lies as CX says -/
def cxOf (CX : CXT) (P : Program) (w : World) (K : PySem.W.Frag) (mg : Str → Option Value) (base : Heap) (N : List Str) (qual : Str) (scope : Scope) (f : Addr) (cd : Value) (A : Around) (outer : List Env) (s : Shared) (H : Hp) (E : XK) : Cx where
  prog := P
  w := w
  K := K
  mg := mg
  base := base
  A := A.deeper (envOfC qual scope s.heap.objs.size f cd)
  N := N
  s₀ := s
  H₀ := H
  env := envOfC qual scope s.heap.objs.size f cd
  outer := outer
  stack := envOfC qual scope s.heap.objs.size f cd :: outer
  ex := []
  calm := true
  fn := fun _ => true
  pn := []
  xe := fun e s' => wpAny (model P w) (A.deeper (envOfC qual scope s.heap.objs.size f cd)) (leaving (envOfC qual scope s.heap.objs.size f cd) e) (fun _ s'' => CX outer H s E e s'') (fun e' s'' => CX outer H s E e' s'') s'

theorem cell_has {sc : Scope} {n : Nat} {x : Str} (h : sc.names.lookup x = some .cell) : ∃ c, (cellsFrom n sc.names []).lookup x = some c := by
  have q := PySem.W.cellsFrom_some sc.names n [] (.inl h)
  exact Option.isSome_iff_exists.mp q

theorem inv_start {CX : CXT} {P : Program} {w : World} {K : PySem.W.Frag} {mg : Str → Option Value} {base : Heap} {N ps : List Str} {qual : Str} {scope : Scope} {f : Addr} {cd : Value} {A : Around} {outer : List Env} {s s1 : Shared} {H : Hp} {E : XK} {us : List Value} {vs : List V}
    (S : FnScope N ps scope) (hd : A.handled = none) (e0 : Env0 P w K mg base A outer s H) (hl : vs.length = ps.length) (r : Vals vs us)
    (x : InCallC s s.heap.objs.size (bindL (envOfC qual scope s.heap.objs.size f cd).kindOf (ps.zip us) fun _ => none) (cellsFrom (s.heap.objs.size + 1) scope.names []) (bindC (envOfC qual scope s.heap.objs.size f cd).kindOf (ps.zip us) fun _ => none) s1) :
    Inv (cxOf CX P w K mg base N qual scope f cd A outer s H E) [] (start N vs) H s1 := by
  have hpl : ps.length ≤ N.length := by have := congrArg List.length S.pre; rw [List.length_take] at this; omega
  obtain ⟨h1, tk, rfl, hk⟩ := x.done
  have noA : ∀ b : Addr, b ∉ (cxOf CX P w K mg base N qual scope f cd A outer s H E).ex := fun b z => absurd (show b ∈ ([] : List Addr) from z) (by simp)
  refine ⟨⟨e0.mod, S.kind, rfl, rfl, Nat.le_refl _, fun y z c h1 h2 => ?_, fun y hy => ?_, fun y c _ h => ?_, fun _ => hd, Around.frames_deeper e0.frames, .inr ⟨rfl, rfl⟩, fun b z => absurd z (noA b), e0.bs, e0.bsz, fun b _ _ => noA b, fun b z => absurd z (noA b), e0.funs, e0.frf⟩,
    rfl, e0.bare, Un.kept hk, ⟨_, x.toInCall.ns, fun i y v h1 h2 h3 => ?_⟩, fun y c h => ⟨_, x.cell y c h⟩, e0.hok.fresh (Nat.le_refl _), fun y c h => ?_, fun p hp => absurd (show p ∈ ([] : List (Addr × Obj)) from hp) (by simp), e0.hok.kept hk, ?_⟩
  · exact name_of_addr x.apart (PySem.mem_of_lookup h1) (PySem.mem_of_lookup h2)
  · have hy : scope.names.lookup y = some .cell ∨ scope.names.lookup y = some .free := hy
    rcases hy with hy | hy
    · exact cell_has hy
    · exact absurd rfl (S.nofree _ (PySem.mem_of_lookup hy))
  · exact Nat.le_of_lt (x.above y c (PySem.mem_of_lookup h))
  · have hi : i < vs.length := by
      unfold start at h2
      by_cases hi : i < vs.length
      · exact hi
      · rw [List.getElem?_append_right (by simpa using hi)] at h2
        rw [List.getElem?_replicate] at h2
        split at h2 <;> cases h2
    have ha : vs[i]? = some v := by
      unfold start at h2
      rw [List.getElem?_append_left (by simpa using hi), List.getElem?_map] at h2
      cases e : vs[i]? with
      | none => rw [e] at h2; cases h2
      | some a => rw [e] at h2; cases h2; rfl
    obtain ⟨u, hu, rv⟩ := r.get ha
    have hp : ps[i]? = some y := by
      rw [← S.pre, List.getElem?_take_of_lt (by omega)]; exact h1
    have ndP : ps.Nodup := by rw [← S.pre]; exact S.nd.sublist (List.take_sublist _ _)
    refine ⟨u, rv, ?_⟩
    rcases S.par y (List.mem_of_getElem? hp) with k | k
    · exact .inl ⟨k, bindL_get ndP hp hu k⟩
    · obtain ⟨c, e⟩ := cell_has (n := s.heap.objs.size + 1) k
      refine .inr ⟨.inl k, c, e, ?_⟩
      have q := x.cell y c e
      rw [bindC_get ndP hp hu (by show scope.names.lookup y ≠ _; rw [k]; decide)] at q
      exact q
  · exact e0.hok.fresh (Nat.le_of_lt (x.above y c (PySem.mem_of_lookup h)))
  · unfold start
    show _ = N.length
    rw [List.length_append, List.length_map, List.length_replicate]
    omega

/-- THE RULE: a def (or a method) of the text, by its body. The body's reading t is chosen for each entry; it is run at the parameters' values -/
theorem fn_of {CX : CXT} {P : Program} {w : World} {K : PySem.W.Frag} {mg : Str → Option Value} {base : Heap} {k : Nat} {f : Addr} {name qual : Str} {params : Arguments} {body : List Stmt} {scope : Scope} {dV kV doc pm cdv ct oc : Value} {an od : Option Addr}
    {osl : Array (Option Value)} {N ps : List Str} {sp : Sp} (lk : K.lookup f = some ⟨oc, od, .func (PySem.W.fnOf name qual params body scope dV kV doc pm an cdv ct), osl⟩) (hcd : PySem.W.codeIn K cdv qual = true) (S : FnScope N ps scope)
    (len : ∀ vs H Q E, sp vs H Q E → vs.length = ps.length)
    (hbody : ∀ (A : Around) (outer : List Env) (s : Shared) (H : Hp) (vs : List V) (Q : VK) (E : XK), Room k (A.deeper (envOfC qual scope s.heap.objs.size f cdv)) → sp vs H Q E →
      ∃ t, PSs (cxOf CX P w K mg base N qual scope f cdv A outer s H E) body t ∧ t { nx := fun _ H' => Q .non H', rt := Q } (start N vs) H) :
    FnOk P w K mg base CX (k + 1) f (PySem.W.fnOf name qual params body scope dV kV doc pm an cdv ct) ps sp := by
  refine ⟨len, fun A outer s H args us vs Q E hr e0 hb r hsp => ?_⟩
  have hl := len _ _ _ _ hsp
  have KX : K.In s.heap := e0.mod.kin.keeps fun b o e => (e0.bs b o e).1
  have lim : s.heap.NoLimit := e0.mod.nolimit.keeps fun b o e => (e0.bs b o e).1
  have hkind : ∀ y ∈ ps.zip us, scope.names.lookup y.1 = some .local ∨ (scope.names.lookup y.1 = some .cell ∧ ((cellsFrom (s.heap.objs.size + 1) scope.names []).lookup y.1).isSome = true) := fun ⟨n, v⟩ hy => by
    rcases S.par n (List.of_mem_zip hy).1 with q | q
    · exact .inl q
    · exact .inr ⟨q, PySem.W.cellsFrom_some _ _ _ (.inl q)⟩
  refine codeAny_call_function hr.depth (KX _ _ lk) rfl S.co S.gen rfl (PySem.W.codeRec_of KX hcd) (hb _ _ _ _ ?_)
  refine wpAny_newFunctionEnv_cells S.kind hkind fun env he s1 x => ?_
  subst he
  refine ⟨lim.keeps x.toInCall.keep, codeAny_func ?_⟩
  obtain ⟨t, ht, hq⟩ := hbody A outer s H vs Q E (hr.deeper _) hsp
  have I : Inv (cxOf CX P w K mg base N qual scope f cdv A outer s H E) [] (start N vs) H s1 := inv_start S hr.hd e0 hl r x
  refine wpAny_mono (ht [] s1 (start N vs) H _ I hq) (fun fl s' hs => ?_) fun e s' hs => hs
  have fin : ∀ {σ' : St} {H' : Hp} {v : V} {u : Value}, Inv (cxOf CX P w K mg base N qual scope f cdv A outer s H E) [] σ' H' s' → RelV v u → Q v H' → CE outer P w H s Q u s' :=
    fun {σ' H' v u} J rv q => ⟨v, H', J.os, J.bare, J.base, J.hok, rv, q⟩
  cases fl with
  | ret u =>
    obtain ⟨v, σ', H', J, rv, q⟩ := hs
    exact fin J rv q
  | next =>
    obtain ⟨σ', H', J, q⟩ := hs
    exact fin (v := V.non) (u := Value.none) J rfl q
  | brk =>
    obtain ⟨_, _, _, q⟩ := hs
    exact False.elim q
  | cont =>
    obtain ⟨_, _, _, q⟩ := hs
    exact False.elim q
end L2

namespace L2
open PySem PySem.Spec PyProof.Rows
section
variable {X : Cx} {x : Str} {p pos : Pos} {e : Expr} {es : List Expr} {t : TA} {id T : String} {r : List V → Hp → VK → Prop}

def tCB (r : List V → Hp → VK → Prop) (t : TA) : TE := fun σ H Q => t σ H fun vs H1 => r vs H1 Q
/-- f(e, ..), f a built-in function -/
theorem pe_callB (hc : CallR X (.builtin id) r) (hg : Gl X x) (hm : X.mg x = none) (hv : bootBuiltins x = some (.builtin id)) (ha : PA X (e :: es) t) (hn : x ≠ "__name__" := by decide) (hdb : (x == ("__debug__" : Str)) = false := by decide)
    (he : starEach (e :: es) X.env = (false, eval e X.env) :: starEach es X.env := by rfl) (hpl : (backTo pos (starEach es X.env)).any (·.1) = false := by rfl) : PE X (.Call (.Name x p) (e :: es) [] pos) (tCB r t) := by
  intro pins s σ H Q I h
  refine wpAny_Call_Name_kw (ld_blt I hg hm hv ?_ hn hdb)
  exact PyProof.Rows.callWith_builtin1 (thn (ha pos pins s σ H _ I h) fun us s1 ⟨vs, H1, I1, r1, q1⟩ => hc pins s1 σ H1 vs us Q I1 r1 q1) he hpl
/-- T(e, ..), T a built-in type -/
theorem pe_callTy (hc : CallR X (.type T) r) (hg : Gl X x) (hm : X.mg x = none) (hv : bootBuiltins x = some (.type T)) (ha : PA X (e :: es) t) (hn : x ≠ "__name__" := by decide) (hdb : (x == ("__debug__" : Str)) = false := by decide)
    (he : starEach (e :: es) X.env = (false, eval e X.env) :: starEach es X.env := by rfl) (hpl : (backTo pos (starEach es X.env)).any (·.1) = false := by rfl) : PE X (.Call (.Name x p) (e :: es) [] pos) (tCB r t) := by
  intro pins s σ H Q I h
  refine wpAny_Call_Name_kw (ld_blt I hg hm hv ?_ hn hdb)
  exact PyProof.Rows.callWith_type1 (thn (ha pos pins s σ H _ I h) fun us s1 ⟨vs, H1, I1, r1, q1⟩ => hc pins s1 σ H1 vs us Q I1 r1 q1) he hpl
end
end L2

namespace HT
open PySem PyProof.Rows

/-- t < u of tuples of ints -/
def lexLt : List Int → List Int → Bool
  | [], [] => false
  | [], _ :: _ => true
  | _ :: _, [] => false
  | x :: xs, y :: ys => if x = y then lexLt xs ys else decide (x < y)
section
open PySem.SeqAt
open PySem.AutoSeq1 (wpAny_loadPart')
open PySem.MeetsSeq PySem.MeetsSeq2 PySem.MeetsSeq3

end

section
variable {prog : Program} {w : World} {A : Around} {E : Value → Shared → Prop} {s : Shared}

/-! ### t[a:b], not the whole -/
/-- a slice's bound as a place among n (d where it is left out) -/
def sIx (n d : Nat) : Option Int → Nat
  | none => d
  | some v => if v < 0 then (v + (n : Int)).toNat else min v.toNat n
theorem sIx_le (n d : Nat) (hd : d ≤ n) (o : Option Int) : sIx n d o ≤ n := by
  cases o with
  | none => exact hd
  | some v =>
    show (if v < 0 then (v + (n : Int)).toNat else min v.toNat n) ≤ n
    by_cases hv : v < 0
    · rw [if_pos hv]; omega
    · rw [if_neg hv]; exact Nat.min_le_right _ _
theorem clip_eq (v : Int) (n d : Nat) : (if v < 0 then max (v + (n : Int)) 0 else min v (n : Int)) = ((sIx n d (some v) : Nat) : Int) := by
  show (if v < 0 then max (v + (n : Int)) 0 else min v (n : Int)) = (((if v < 0 then (v + (n : Int)).toNat else min v.toNat n) : Nat) : Int)
  by_cases hv : v < 0
  · simp only [if_pos hv]; omega
  · simp only [if_neg hv]; omega
theorem adjust_gen (lo hi : Option Int) (n : Nat) : Builtin.Slice.sliceAdjust lo hi 1 (n : Int) = (((sIx n 0 lo : Nat) : Int), ((sIx n n hi : Nat) : Int)) := by
  have h1 : ¬ ((1 : Int) < 0) := by omega
  unfold Builtin.Slice.sliceAdjust
  simp only [h1, if_false]
  refine Prod.ext ?_ ?_
  · cases lo with
    | none => rfl
    | some v => exact clip_eq v n 0
  · cases hi with
    | none => rfl
    | some v => exact clip_eq v n n
theorem places_gen (i j : Nat) : Builtin.Slice.slicePlaces (i : Int) (j : Int) 1 = j - i := by
  unfold Builtin.Slice.slicePlaces
  have h1 : (1 : Int) > 0 := by omega
  simp only [h1, if_true, Int.ediv_one]
  split <;> omega
theorem slicePart_ {v : Value} {o : Option Int} {Q : Option Int → Shared → Prop} (p : IsPart v o) (h : Q o s) : wpAny (model prog w) A (Builtin.Slice.slicePartIndex v) Q E s := by
  cases p with
  | none => exact slicePart_none h
  | int i t => exact slicePart_int h
theorem sliceApplied_gen {sl : Addr} {vl vu : Value} {lo hi : Option Int} {n : Nat} {Q : Int × Int × Nat → Shared → Prop} (hs : s.heap.IsSliceOf sl vl vu .none) (pl : IsPart vl lo) (pu : IsPart vu hi)
    (h : Q (((sIx n 0 lo : Nat) : Int), 1, sIx n n hi - sIx n 0 lo) s) : wpAny (model prog w) A (Builtin.Slice.sliceApplied (.ref sl) (pure (n : Int))) Q E s := by
  obtain ⟨os, hos, hcs, hds⟩ := id hs
  unfold Builtin.Slice.sliceApplied Builtin.Slice.sliceFields
  refine wpAny_bind (wpAny_bind (wpAny_field hos hds (x := vl) rfl (wpAny_bind (wpAny_field hos hds (x := vu) rfl (wpAny_bind (wpAny_field hos hds (x := .none) rfl (wpAny_pure ?_)))))))
  refine wpAny_bind (slicePart_none ?_)
  show wpAny _ _ (if ((1 : Int) == 0) = true then _ else _) _ _ s
  rw [if_neg (by decide)]
  refine wpAny_bind (slicePart_ pl (wpAny_bind (slicePart_ pu (wpAny_bind (wpAny_pure ?_)))))
  show wpAny _ _ (match Builtin.Slice.sliceAdjust lo hi 1 (n : Int) with | (lo, hi) => pure (lo, (1 : Int), Builtin.Slice.slicePlaces lo hi 1)) _ _ s
  rw [adjust_gen lo hi n]
  show wpAny _ _ (pure (((sIx n 0 lo : Nat) : Int), (1 : Int), Builtin.Slice.slicePlaces ((sIx n 0 lo : Nat) : Int) ((sIx n n hi : Nat) : Int) 1)) _ _ s
  rw [places_gen]
  exact wpAny_pure h
theorem pick_gen (xs : Array Value) (i k : Nat) : ((List.range k).filterMap fun (m : Nat) => xs[((i : Int) + (m : Int) * 1).toNat]?).toArray = ((xs.toList.drop i).take k).toArray := by
  have e : (fun (m : Nat) => xs[((i : Int) + (m : Int) * 1).toNat]?) = fun m => xs[i + m]? := by
    funext m
    have : ((i : Int) + (m : Int) * 1).toNat = i + m := by omega
    rw [this]
  rw [e]
  have := pick_run xs i k
  rw [List.filterMap_map] at this
  have e2 : ((fun x => xs[x]?) ∘ fun x => i + x) = fun m => xs[i + m]? := rfl
  rw [e2] at this
  rw [this]

theorem getItem_tuple_cut {t sl : Addr} {items : Array Value} {vl vu : Value} {lo hi : Option Int} {Q : Value → Shared → Prop} (ht : IsTup s.heap t items) (hs : s.heap.IsSliceOf sl vl vu .none) (pl : IsPart vl lo) (pu : IsPart vu hi)
    (hw : ¬ (sIx items.size 0 lo = 0 ∧ sIx items.size items.size hi = items.size))
    (h : Q (.ref s.heap.objs.size) { s with heap := s.heap.push { cls := .type "tuple", data := .seq ((items.toList.drop (sIx items.size 0 lo)).take (sIx items.size items.size hi - sIx items.size 0 lo)).toArray } })
    (hsz : items.size ≤ sizeLine) : wpAny (model prog w) A (getItem (.ref t) (.ref sl)) Q E s := by
  have htake : sizeOk (.seq ((items.toList.drop (sIx items.size 0 lo)).take (sIx items.size items.size hi - sIx items.size 0 lo)).toArray) := by
    show ((items.toList.drop (sIx items.size 0 lo)).take (sIx items.size items.size hi - sIx items.size 0 lo)).toArray.size ≤ sizeLine
    rw [List.size_toArray, List.length_take, List.length_drop, Array.length_toList]
    omega
  have hj : sIx items.size items.size hi ≤ items.size := sIx_le _ _ (Nat.le_refl _) hi
  obtain ⟨os, hos, hcs, hds⟩ := id hs
  have hTs : s.TypeIs (.ref sl) "slice" := ⟨os, hos, hcs⟩
  unfold getItem
  try with_reducible refine wpAny_holding ?_
  first | refine wpAny_bind (wpAny_pure ?_) | skip
  refine wpAny_bind (wpAny_sequenceKey ht.typeIs (by decide) ?_)
  refine wpAny_bind (wpAny_callSpecial?_slot (name := Str.ofString "__getitem__") ht.typeIs PyProof.Rows.slot_tuple_getitem
    (wpAny_call_entry PyProof.Rows.slot_tuple_getitem ht.typeIs entry_tuple_getitem ?_ (args_tuple_getitem _ _)))
  show wpAny _ _ (Builtin.Tuple.tupleItemsOf (.ref t) >>= _) _ _ s
  refine wpAny_bind (tupleItemsOf_ ht ?_)
  refine wpAny_bind (wpAny_typeOf hTs ?_)
  rw [if_pos (by decide)]
  refine wpAny_bind (sliceApplied_gen hs pl pu ?_)
  have hno : ¬ ((((sIx items.size 0 lo : Nat) : Int) == 0 && (1 : Int) == 1 && (sIx items.size items.size hi - sIx items.size 0 lo) == items.size) = true) := by
    intro q
    rw [Bool.and_eq_true, Bool.and_eq_true] at q
    have q1 : ((sIx items.size 0 lo : Nat) : Int) = 0 := eq_of_beq q.1.1
    have q2 : sIx items.size items.size hi - sIx items.size 0 lo = items.size := eq_of_beq q.2
    exact hw ⟨by omega, by omega⟩
  show wpAny _ _ (if (((sIx items.size 0 lo : Nat) : Int) == 0 && (1 : Int) == 1 && (sIx items.size items.size hi - sIx items.size 0 lo) == items.size) = true then _ else _) _ _ s
  rw [if_neg hno, pick_gen]
  first
    | exact wpAny_bind (m := Builtin.Tuple.tupleExact _) (wpAny_newObj_type (wpAny_pure ⟨_, rfl, wpAny_pure h⟩) htake)
    | exact wpAny_bind (m := Builtin.Tuple.tupleExact _) (wpAny_newObj_type (wpAny_bind (wpAny_pure (wpAny_pure ⟨_, rfl, wpAny_pure h⟩))) htake)
    | exact wpAny_bind (wpAny_bind (m := Builtin.Tuple.tupleExact _) (wpAny_newObj_type (wpAny_pure (wpAny_pure ⟨_, rfl, wpAny_pure h⟩)) htake))
    | exact wpAny_bind (wpAny_bind (m := Builtin.Tuple.tupleExact _) (wpAny_newObj_type (wpAny_pure ⟨_, rfl, wpAny_pure h⟩) htake))
end
end HT

namespace L2
open PySem PySem.Spec PyProof.Rows

/-! ### the parts of a slice -/
abbrev TO := St → Hp → (Option Int → Hp → Prop) → Prop
/-- a slice's part (left out, or an int) -/
def PO (X : Cx) (e : Option Expr) (t : TO) : Prop :=
  ∀ (pins : List (Addr × Obj)) (s : Shared) (σ : St) (H : Hp) (Q : Option Int → Hp → Prop), Inv X pins σ H s → t σ H Q →
    wpAny (model X.prog X.w) X.A (evalPart e X.env) (fun u s' => ∃ o H', Inv X pins σ H' s' ∧ IsPart u o ∧ Q o H') X.xe s
def tNoPart : TO := fun _ H Q => Q none H
def tPart (t : TE) : TO := fun σ H Q => t σ H fun x H1 => ∃ i, x = .int i ∧ Q (some i) H1

section
variable {X : Cx} {e : Expr} {te : TE} {lo hi : Option Expr} {tl th : TO} {pos p2 : Pos}

theorem po_none : PO X none tNoPart := by
  intro pins s σ H Q I h
  rw [evalPart_none]
  exact wpAny_pure ⟨none, H, I, .none, h⟩
theorem po_some (h : PE X e te) : PO X (some e) (tPart te) := by
  intro pins s σ H Q I hw
  rw [evalPart_some]
  refine thn (h pins s σ H _ I hw) fun u s1 ⟨x, H1, I1, r1, q1⟩ => ?_
  obtain ⟨i, rfl, q⟩ := q1
  obtain ⟨t, rfl⟩ := r1
  exact ⟨some i, H1, I1, .int i t, q⟩

/-- what a slice of a value is, by values: the slice object stands at sl -/
def SlR (X : Cx) (r : V → Option Int → Option Int → Hp → VK → Prop) : Prop :=
  ∀ (pins : List (Addr × Obj)) (s : Shared) (σ : St) (H : Hp) (x : V) (v vl vu : Value) (lo hi : Option Int) (sl : Addr) (Q : VK), Inv X pins σ H s → RelV x v → s.heap.IsSliceOf sl vl vu .none → IsPart vl lo → IsPart vu hi → r x lo hi H Q →
    ∃ T id, typeLookup (.type T) "__getitem__" = pure (some (.builtin id)) ∧ s.TypeIs v T ∧ wpAny (model X.prog X.w) X.A (getItem v (.ref sl)) (EP X pins σ Q) X.xe s
theorem SlR.or {r r' : V → Option Int → Option Int → Hp → VK → Prop} (h : SlR X r) (h' : SlR X r') : SlR X (fun x lo hi H Q => r x lo hi H Q ∨ r' x lo hi H Q) := by
  intro pins s σ H x v vl vu lo hi sl Q I rx hs pl pu q
  rcases q with q | q
  · exact h pins s σ H x v vl vu lo hi sl Q I rx hs pl pu q
  · exact h' pins s σ H x v vl vu lo hi sl Q I rx hs pl pu q
def tSl (r : V → Option Int → Option Int → Hp → VK → Prop) (te : TE) (tl th : TO) : TE := fun σ H Q => te σ H fun x H1 => tl σ H1 fun l H2 => th σ H2 fun u H3 => r x l u H3 Q
/-- a[lo:hi], any a -/
theorem pe_slice {r : V → Option Int → Option Int → Hp → VK → Prop} (hr : SlR X r) (he : PE X e te) (hl : PO X lo tl) (hu : PO X hi th) : PE X (.Subscript e (.Slice lo hi none p2) pos) (tSl r te tl th) := by
  intro pins s σ H Q I h
  refine Subscript_ (thn (he pins s σ H _ I h) fun v s1 ⟨x, H1, I1, r1, q1⟩ => ?_)
  refine wpAny_Slice (thn (hl pins s1 σ H1 _ I1 q1) fun vl s2 ⟨l, H2, I2, pl, q2⟩ => thn (hu pins s2 σ H2 _ I2 q2) fun vu s3 ⟨u, H3, I3, pu, q3⟩ => ?_)
  rw [evalPart_none]
  refine wpAny_pure ?_
  have I4 : Inv X pins σ H3 { s3 with heap := s3.heap.push { cls := .type "slice", data := .fields #[vl, vu, .none] } } := I3.kept (t' := s3.toks) fun b ob q => Heap.get?_push_of_some _ q
  obtain ⟨T, id, hT, ht, hg⟩ := hr pins { s3 with heap := s3.heap.push { cls := .type "slice", data := .fields #[vl, vu, .none] } } σ H3 x v vl vu l u s3.heap.objs.size Q I4 r1 (Heap.IsSliceOf.new ..) pl pu q3
  show wpAny (model X.prog X.w) X.A (subscriptTail e (.Slice lo hi none p2) v (.ref s3.heap.objs.size)) (EP X pins σ Q) X.xe { s3 with heap := s3.heap.push { cls := .type "slice", data := .fields #[vl, vu, .none] } }
  exact tail_any (ops := [.ref s3.heap.objs.size, v]) ht hT hg (by with_unfolding_all rfl)

/-- the items of xs[lo:hi] -/
def cutV (xs : List V) (lo hi : Option Int) : List V := (xs.drop (HT.sIx xs.length 0 lo)).take (HT.sIx xs.length xs.length hi - HT.sIx xs.length 0 lo)
theorem cutV_length (xs : List V) (lo hi : Option Int) : (cutV xs lo hi).length ≤ xs.length := by
  unfold cutV
  rw [List.length_take, List.length_drop]
  omega
/-- t[lo:hi], not the whole of it (the whole would be t itself) -/
def rSlT (K : PySem.W.Frag) : V → Option Int → Option Int → Hp → VK → Prop := fun x lo hi H Q => ∃ a xs, x = .ref a ∧ SqT K H a xs ∧
  ¬ (HT.sIx xs.length 0 lo = 0 ∧ HT.sIx xs.length xs.length hi = xs.length) ∧ ∀ p, H p = none → Q (.ref p) (upd H p (.tup (cutV xs lo hi)))
theorem sl_tup : SlR X (rSlT X.K) := by
  intro pins s σ H x v vl vu lo hi sl Q I rx hs pl pu h
  obtain ⟨a, xs, rfl, hx, hw, q⟩ := h
  cases rx
  obtain ⟨its, r, ht, hz⟩ := I.tuple hx
  have hlen : its.toArray.size = xs.length := by rw [List.size_toArray]; exact r.length.symm
  refine ⟨"tuple", _, PyProof.Rows.slot_tuple_getitem.lookup, ht.typeIs, ?_⟩
  refine HT.getItem_tuple_cut ht hs pl pu (by rw [hlen]; exact hw) ?_ (by rw [hlen]; exact hz)
  rw [hlen]
  refine ⟨.ref s.heap.objs.size, _, I.laid (t' := s.toks) (o := .tup (cutV xs lo hi)) (fun b ob q => Heap.get?_push_of_some _ q) (Nat.le_refl _) ?_, rfl, q _ (I.hok.fresh (Nat.le_refl _))⟩
  exact ⟨Nat.le_trans (cutV_length xs lo hi) hz, _, (r.drop (HT.sIx xs.length 0 lo)).take (HT.sIx xs.length xs.length hi - HT.sIx xs.length 0 lo), IsTup.new _ _⟩

/-! ### t < u, t + u -/
def rLtT (K : PySem.W.Frag) : R2 := fun x y H Q => ∃ a b ns ms, x = .ref a ∧ y = .ref b ∧ SqT K H a (ns.map V.int) ∧ SqT K H b (ms.map V.int) ∧ Q (.bl (HT.lexLt ns ms)) H
/-- t + u, t not empty: u empty gives t itself -/
def rCatT (K : PySem.W.Frag) : R2 := fun x y H Q => ∃ a b xs ys, x = .ref a ∧ y = .ref b ∧ SqT K H a xs ∧ SqT K H b ys ∧ xs ≠ [] ∧ xs.length + ys.length ≤ sizeLine ∧
  (ys = [] → Q (.ref a) H) ∧ (ys ≠ [] → ∀ p, H p = none → Q (.ref p) (upd H p (.tup (xs ++ ys))))
end
end L2

namespace L2
open PySem PySem.Spec PyProof.Rows

/-! ### places -/
/-- the place that an index of any sign means -/
def ixN (n : Nat) (i : Int) : Option Nat := if 0 ≤ i then (if i < n then some i.toNat else none) else if -(n : Int) ≤ i then some (i + n).toNat else none
def atI {α : Type} (xs : List α) (i : Int) : Option α := (ixN xs.length i).bind fun j => xs[j]?
theorem ixN_seq {n : Nat} {i : Int} {j : Nat} (h : ixN n i = some j) : seqIndex? i n = some j ∧ j < n ∧ -(n : Int) ≤ i ∧ i < n := by
  unfold ixN at h
  by_cases h0 : 0 ≤ i
  · rw [if_pos h0] at h
    by_cases h1 : i < n
    · rw [if_pos h1] at h
      have e : i.toNat = j := Option.some.inj h
      exact ⟨by rw [seqIndex_of h0 h1, e], by omega, by omega, h1⟩
    · rw [if_neg h1] at h; cases h
  · rw [if_neg h0] at h
    by_cases h1 : -(n : Int) ≤ i
    · rw [if_pos h1] at h
      have e : (i + n).toNat = j := Option.some.inj h
      exact ⟨by rw [seqIndex_neg (by omega) h1, e], by omega, h1, by omega⟩
    · rw [if_neg h1] at h; cases h
theorem atI_get {α : Type} {xs : List α} {i : Int} {v : α} (h : atI xs i = some v) : ∃ j, seqIndex? i xs.length = some j ∧ xs[j]? = some v ∧ j < xs.length ∧ -(xs.length : Int) ≤ i ∧ i < xs.length := by
  unfold atI at h
  cases e : ixN xs.length i with
  | none => rw [e] at h; cases h
  | some j =>
    rw [e] at h
    obtain ⟨h1, h2, h3, h4⟩ := ixN_seq e
    exact ⟨j, h1, h, h2, h3, h4⟩
theorem atI_nat {α : Type} {xs : List α} {j : Nat} {v : α} (h : xs[j]? = some v) : atI xs (j : Int) = some v := by
  have hj : j < xs.length := (List.getElem?_eq_some_iff.mp h).1
  have e : ixN xs.length (j : Int) = some j := by
    unfold ixN
    rw [if_pos (by omega), if_pos (by omega)]; simp
  unfold atI; rw [e]; exact h
/-! ### what may be subscripted -/
/-- what stands as an index of a plain subscript -/
def PlainIx (b : Expr) : Prop := ∀ o i, subscripted b false o i = operate [o, i] (getItem o i)
/-- a subscript by values -/
def IxR (X : Cx) (r : R2) : Prop :=
  ∀ (value slice : Expr) (pins : List (Addr × Obj)) (s : Shared) (σ : St) (H : Hp) (x y : V) (v u : Value) (Q : VK), Inv X pins σ H s → RelV x v → RelV y u → r x y H Q →
    subscripted slice false v u = operate [v, u] (getItem v u) → wpAny (model X.prog X.w) X.A (subscriptTail value slice v u) (EP X pins σ Q) X.xe s
/-- a call of a builtin's method by values: the receiver, the arguments -/
def MtR (X : Cx) (id : String) (r : V → List V → Hp → VK → Prop) : Prop :=
  ∀ (pins : List (Addr × Obj)) (s : Shared) (σ : St) (H : Hp) (x : V) (xs : List V) (v : Value) (us : List Value) (Q : VK), Inv X pins σ H s → RelV x v → Vals xs us → r x xs H Q →
    wpAny (model X.prog X.w) X.A (call (.builtin id) (v :: us)) (EP X pins σ Q) X.xe s
section
variable {X : Cx} {a b : Expr} {ta tb : TE} {pos : Pos}
theorem IxR.or {r r' : R2} (h : IxR X r) (h' : IxR X r') : IxR X (fun x y H Q => r x y H Q ∨ r' x y H Q) := by
  intro value slice pins s σ H x y v u Q I rx ry q hs
  rcases q with q | q
  · exact h value slice pins s σ H x y v u Q I rx ry q hs
  · exact h' value slice pins s σ H x y v u Q I rx ry q hs
theorem MtR.or {id : String} {r r' : V → List V → Hp → VK → Prop} (h : MtR X id r) (h' : MtR X id r') : MtR X id (fun x xs H Q => r x xs H Q ∨ r' x xs H Q) := by
  intro pins s σ H x xs v us Q I rx rs q
  rcases q with q | q
  · exact h pins s σ H x xs v us Q I rx rs q
  · exact h' pins s σ H x xs v us Q I rx rs q
/-- a[b] -/
theorem pe_ix {r : R2} (hr : IxR X r) (ha : PE X a ta) (hb : PE X b tb) (hs : PlainIx b) : PE X (.Subscript a b pos) (tOp r ta tb) := by
  intro pins s σ H Q I h
  exact Subscript_ (binT ha hb I h fun v u s2 x y H2 I2 rx ry q => hr a b pins s2 σ H2 x y v u Q I2 rx ry q (hs _ _))

def rIxL (K : PySem.W.Frag) : R2 := fun x y H Q => ∃ p xs i v, x = .ref p ∧ y = .int i ∧ SqL K H p xs ∧ atI xs i = some v ∧ Q v H
def rIxT (K : PySem.W.Frag) : R2 := fun x y H Q => ∃ p xs i v, x = .ref p ∧ y = .int i ∧ SqT K H p xs ∧ atI xs i = some v ∧ Q v H
def rIxS : R2 := fun x y H Q => ∃ z i c, x = .str z ∧ y = .int i ∧ z.length ≤ sizeLine ∧ atI z.cps.toList i = some c ∧ Q (.str ⟨#[c]⟩) H
theorem ix_list : IxR X (rIxL X.K) := by
  intro value slice pins s σ H x y v u Q I rx ry h hs
  obtain ⟨p, xs, i, z, rfl, rfl, hq, he, q⟩ := h
  cases rx
  obtain ⟨t, rfl⟩ := ry
  obtain ⟨its, r, pl, hz⟩ := I.list hq
  obtain ⟨j, h1, h2, h3, h4, h5⟩ := atI_get he
  obtain ⟨w, ew, rw'⟩ := r.get h2
  have hl := r.length
  have hn := line63
  have fin : EP X pins σ Q w s := ⟨z, H, I, rw', q⟩
  by_cases h0 : 0 ≤ i
  · have hj : i.toNat = j := by
      rw [seqIndex_of h0 h5] at h1
      exact Option.some.inj h1
    exact item_listR pl.isList h0 (by omega) (by rw [hj]; simpa using ew) fin hs
  · have hj : (i + (its.toArray.size : Int)).toNat = j := by
      rw [seqIndex_neg (by omega) h4] at h1
      rw [List.size_toArray, ← hl]
      exact Option.some.inj h1
    exact subscriptTail_builtinR (x := w) pl.isList.typeIs slot_list_getitem.lookup
      (wpAny_getItem_list_neg (Q := fun r s' => r = w ∧ EP X pins σ Q r s') pl.isList (by omega) (by rw [List.size_toArray] <;> omega) (by omega) (by rw [hj]; simpa using ew) ⟨rfl, fin⟩) hs
theorem ix_tup : IxR X (rIxT X.K) := by
  intro value slice pins s σ H x y v u Q I rx ry h hs
  obtain ⟨p, xs, i, z, rfl, rfl, hq, he, q⟩ := h
  cases rx
  obtain ⟨t, rfl⟩ := ry
  obtain ⟨its, r, pl, hz⟩ := I.tuple hq
  obtain ⟨j, h1, h2, h3, h4, h5⟩ := atI_get he
  obtain ⟨w, ew, rw'⟩ := r.get h2
  have hl := r.length
  have hn := line63
  have fin : EP X pins σ Q w s := ⟨z, H, I, rw', q⟩
  exact subscriptTail_builtinR (x := w) pl.typeIs slot_tuple_getitem.lookup
    (getItem_tuple (j := j) (Q := fun r s' => r = w ∧ EP X pins σ Q r s') pl (by omega) (by omega) (by rw [List.size_toArray, ← hl]; exact h1) (by simpa using ew) ⟨rfl, fin⟩) hs
/-- list, tuple or str -/
def rIx (K : PySem.W.Frag) : R2 := fun x y H Q => rIxL K x y H Q ∨ rIxT K x y H Q ∨ rIxS x y H Q
/-! ### xs[i] = v, any sign -/
theorem Inv.lst {pins : List (Addr × Obj)} {σ : St} {H : Hp} {s : Shared} {p : Addr} {xs : List V} (I : Inv X pins σ H s) (h : H p = some (.lst xs)) :
    ∃ (its : List Value) (n : Nat), Vals xs its ∧ s.heap.get? p = some { cls := .type "list", data := .seq its.toArray n } ∧ xs.length ≤ sizeLine := by
  obtain ⟨z, its, n, r, e⟩ := I.hok p _ h
  exact ⟨its, n, r, e, z⟩
def rSetL : V → V → V → Hp → (Hp → Prop) → Prop := fun o i v H Q => ∃ p xs k j, o = .ref p ∧ i = .int k ∧ H p = some (.lst xs) ∧ ixN xs.length k = some j ∧ Q (upd H p (.lst (xs.set j v)))
/-! ### slices -/
theorem slice_bounds (lo hi : Option Int) (n : Nat) : (sliceBounds lo hi none n).1 = ((HT.sIx n 0 lo : Nat) : Int) ∧ (sliceBounds lo hi none n).2.1 = ((HT.sIx n n hi : Nat) : Int) ∧ (sliceBounds lo hi none n).2.2 = 1 := by
  refine ⟨?_, ?_, rfl⟩
  · cases lo with
    | none => simp [sliceBounds, HT.sIx]
    | some i =>
      simp only [sliceBounds, HT.sIx, Option.getD_none, show (1 : Int) > 0 by decide, if_true]
      by_cases h : i < 0
      · simp only [h, if_true] <;> omega
      · simp only [h, if_false] <;> omega
  · cases hi with
    | none => simp [sliceBounds, HT.sIx]
    | some i =>
      simp only [sliceBounds, HT.sIx, Option.getD_none, show (1 : Int) > 0 by decide, if_true]
      by_cases h : i < 0
      · simp only [h, if_true] <;> omega
      · simp only [h, if_false] <;> omega
theorem slicePick_cut (its : List Value) (lo hi : Option Int) : slicePick its.toArray lo hi none = ((its.drop (HT.sIx its.length 0 lo)).take (HT.sIx its.length its.length hi - HT.sIx its.length 0 lo)).toArray := by
  obtain ⟨h1, h2, h3⟩ := slice_bounds lo hi its.toArray.size
  unfold slicePick
  rw [h1, h2, h3]
  simp only [sliceRange_one, pick_run, List.size_toArray] <;> rfl
/-- xs[lo:hi] of a list: a new list -/
def rSlL (K : PySem.W.Frag) : V → Option Int → Option Int → Hp → VK → Prop := fun x lo hi H Q => ∃ a xs, x = .ref a ∧ SqL K H a xs ∧ ∀ p, H p = none → Q (.ref p) (upd H p (.lst (cutV xs lo hi)))
theorem sl_list : SlR X (rSlL X.K) := by
  intro pins s σ H x v vl vu lo hi sl Q I rx hs pl pu h
  obtain ⟨a, xs, rfl, hx, q⟩ := h
  cases rx
  obtain ⟨its, r, ht, hz⟩ := I.list hx
  have hlen := r.length
  refine ⟨"list", _, slot_list_getitem.lookup, ht.isList.typeIs, ?_⟩
  refine wpAny_getItem_list_slice ht.isList hs pl pu .none (by simp) ?_ (by rw [List.size_toArray] <;> omega)
  rw [slicePick_cut, ← hlen]
  refine ⟨.ref s.heap.objs.size, _, I.laid (t' := s.toks) (o := .lst (cutV xs lo hi)) (fun b ob q => Heap.get?_push_of_some _ q) (Nat.le_refl _) ?_, rfl, q _ (I.hok.fresh (Nat.le_refl _))⟩
  exact ⟨Nat.le_trans (cutV_length xs lo hi) hz, _, 0, (r.drop (HT.sIx xs.length 0 lo)).take (HT.sIx xs.length xs.length hi - HT.sIx xs.length 0 lo), Heap.get?_push_size _ rfl⟩

/-! ### in, not in: flat items -/
def flatV : V → Bool
  | .non => true
  | .bl _ => true
  | .int _ => true
  | .str _ => true
  | _ => false
/-- == of flat values -/
def eqV : V → V → Bool
  | .non, .non => true
  | .bl a, .bl b => a == b
  | .bl a, .int b => (if a then 1 else 0) == b
  | .int a, .bl b => a == (if b then 1 else 0)
  | .int a, .int b => a == b
  | .str a, .str b => a == b
  | _, _ => false
/-- the items' answers, read off the values (a value's own answer does not lean on its token) -/
def eqU (x : V) (u : Value) : Bool := match u with
  | .none => eqV .non x
  | .bool b => eqV (.bl b) x
  | .int i _ => eqV (.int i) x
  | .str z _ => eqV (.str z) x
  | _ => false
def inV (x : V) (xs : List V) : Bool := xs.any fun y => eqV y x
/-- x in a list or tuple of flat items -/
def rIn (K : PySem.W.Frag) (neg : Bool) : R2 := fun x y H Q => ∃ p xs, y = .ref p ∧ (SqL K H p xs ∨ SqT K H p xs) ∧ flatV x = true ∧ xs.all flatV = true ∧ Q (.bl (if neg then !inV x xs else inV x xs)) H
/-! ### len, list(x), tuple(x) of any list or tuple that is read -/
theorem call_len_seq : CallR X (.builtin "len") (fun xs H Q => ∃ p ys, xs = [.ref p] ∧ (SqL X.K H p ys ∨ SqT X.K H p ys) ∧ Q (.int ys.length) H) := by
  intro pins s σ H xs us Q I r h
  obtain ⟨p, ys, rfl, hq, q⟩ := h
  obtain ⟨u, rfl, rx⟩ := vals1 r
  cases rx
  have hn := line63
  rcases hq with hq | hq
  · obtain ⟨its, r', pl, hz⟩ := I.list hq
    have hlen := r'.length
    exact Calls.call_len_list pl.isList (by simp only [List.size_toArray] <;> omega) ⟨.int ys.length, H, I.tok _, ⟨s.toks + 1, by rw [List.size_toArray, hlen]⟩, q⟩
  · obtain ⟨its, r', pl, hz⟩ := I.tuple hq
    have hlen := r'.length
    exact len_tuple pl (by simp only [List.size_toArray] <;> omega) ⟨.int ys.length, H, I.tok _, ⟨s.toks + 1, by rw [List.size_toArray, hlen]⟩, q⟩
theorem CallR.or {f : Value} {r r' : List V → Hp → VK → Prop} (h : CallR X f r) (h' : CallR X f r') : CallR X f (fun xs H Q => r xs H Q ∨ r' xs H Q) := by
  intro pins s σ H xs us Q I rs q
  rcases q with q | q
  · exact h pins s σ H xs us Q I rs q
  · exact h' pins s σ H xs us Q I rs q
theorem call_list_of : CallR X (.type "list") (fun xs H Q => ∃ p ys, xs = [.ref p] ∧ (SqL X.K H p ys ∨ SqT X.K H p ys) ∧ ∀ l, H l = none → Q (.ref l) (upd H l (.lst ys))) := by
  intro pins s σ H xs us Q I r h
  obtain ⟨p, ys, rfl, hq, q⟩ := h
  obtain ⟨u, rfl, rx⟩ := vals1 r
  cases rx
  have fin : ∀ (its : List Value), Vals ys its → ys.length ≤ sizeLine → ∀ (h' : Heap) (c' : Nat), (∀ b o', s.heap.get? b = some o' → h'.get? b = some o') →
      h'.get? s.heap.objs.size = some { cls := .type "list", dict := none, data := .seq its.toArray c', slots := #[] } → EP X pins σ Q (.ref s.heap.objs.size) { s with heap := h' } := fun its r' hz h' c' kp e =>
    ⟨.ref s.heap.objs.size, _, I.laid (t' := s.toks) kp (Nat.le_refl _) (show ObjOk X.prog X.w _ h' _ (.lst ys) from ⟨hz, its, c', r', e⟩), rfl, q _ (I.hok.fresh (Nat.le_refl _))⟩
  rcases hq with hq | hq
  · obtain ⟨its, r', pl, hz⟩ := I.list hq
    have hlen := r'.length
    obtain ⟨o, ho, hc, n, hd⟩ := pl.isList
    exact call_list_seq p (.inl rfl) ho hc hd (fun h' c' kp e => fin its r' hz h' c' kp e) (by simp only [List.size_toArray] <;> omega)
  · obtain ⟨its, r', pl, hz⟩ := I.tuple hq
    have hlen := r'.length
    obtain ⟨o, ho, hc, n, hd⟩ := pl
    exact call_list_seq p (.inr rfl) ho hc hd (fun h' c' kp e => fin its r' hz h' c' kp e) (by simp only [List.size_toArray] <;> omega)
theorem call_tuple_of : CallR X (.type "tuple") (fun xs H Q => ∃ p ys, xs = [.ref p] ∧ ((SqL X.K H p ys ∧ ∀ l, H l = none → Q (.ref l) (upd H l (.tup ys))) ∨ (SqT X.K H p ys ∧ Q (.ref p) H))) := by
  intro pins s σ H xs us Q I r h
  obtain ⟨p, ys, rfl, h⟩ := h
  obtain ⟨u, rfl, rx⟩ := vals1 r
  cases rx
  rcases h with ⟨hq, q⟩ | ⟨hq, q⟩
  · obtain ⟨its, r', pl, hz⟩ := I.list hq
    have hlen := r'.length
    refine call_tuple_list pl.isList (fun h' kp => ?_) (by simp only [List.size_toArray] <;> omega)
    have I1 : Inv X pins σ H { s with heap := h' } := I.kept (t' := s.toks) kp
    have I2 : Inv X pins σ (upd H h'.objs.size (.tup ys)) { s with heap := h'.push { cls := .type "tuple", data := .seq its.toArray } } :=
      I1.laid (t' := s.toks) (fun b o e => Heap.get?_push_of_some _ e) (Nat.le_refl _) (show ObjOk X.prog X.w _ _ _ (.tup ys) from ⟨hz, its, r', IsTup.new _ _⟩)
    exact ⟨.ref h'.objs.size, _, I2, rfl, q _ (I1.hok.fresh (Nat.le_refl _))⟩
  · obtain ⟨its, r', pl, hz⟩ := I.tuple hq
    exact call_tuple_same pl ⟨.ref p, H, I, rfl, q⟩

/-! ### the call of a builtin's method: o.m(..) -/
/-- the value is of that builtin type -/
def tyV (K : PySem.W.Frag) (T : String) (x : V) (H : Hp) : Prop := match x with
  | .str _ => T = "str"
  | .int _ => T = "int"
  | .ref p => (T = "list" ∧ ∃ xs, SqL K H p xs) ∨ (T = "tuple" ∧ ∃ o, K.lookup p = some o ∧ o.cls = .type "tuple" ∧ o.dict = none) ∨
      (T = "dict" ∧ ((∃ kvs, H p = some (.dK kvs)) ∨ ∃ kvs, H p = some (.dT kvs))) ∨ (T = "set" ∧ ∃ S n, H p = some (.set S n))
  | _ => False
theorem tyV_is {pins : List (Addr × Obj)} {σ : St} {H : Hp} {s : Shared} {T : String} {x : V} {v : Value} (I : Inv X pins σ H s) (r : RelV x v) (ty : tyV X.K T x H) :
    s.TypeIs v T ∧ ∀ a, v = .ref a → ∃ ob, s.heap.get? a = some ob ∧ ob.dict = none := by
  cases x with
  | str z =>
    obtain ⟨t, rfl⟩ := r
    cases (show T = "str" from ty)
    exact ⟨typeIs_str s z t, fun _ e => nomatch e⟩
  | int i =>
    obtain ⟨t, rfl⟩ := r
    cases (show T = "int" from ty)
    exact ⟨typeIs_int s i t, fun _ e => nomatch e⟩
  | ref p =>
    cases r
    rcases ty with ⟨rfl, xs, hq⟩ | ⟨rfl, o, hk, hc, hd⟩ | ⟨rfl, hk⟩ | ⟨rfl, S, n, hk⟩
    · obtain ⟨its, _, pl, _⟩ := I.list hq
      refine ⟨pl.isList.typeIs, fun a e => ?_⟩
      cases e
      obtain ⟨o, n, e, c, hd, _⟩ := pl
      exact ⟨o, e, hd⟩
    · refine ⟨⟨o, I.kIn p o hk, hc⟩, fun a e => ?_⟩
      cases e
      exact ⟨o, I.kIn _ o hk, hd⟩
    · have z : ∃ o, s.heap.get? p = some o ∧ o.ExactDict := by
        rcases hk with ⟨kvs, hk⟩ | ⟨kvs, hk⟩
        · obtain ⟨_, _, _, _, o, _, _, e, ex, _⟩ := I.hok p _ hk
          exact ⟨o, e, ex⟩
        · obtain ⟨_, _, _, _, o, _, _, e, ex, _⟩ := I.hok p _ hk
          exact ⟨o, e, ex⟩
      obtain ⟨o, e, ex⟩ := z
      refine ⟨⟨o, e, ex.1⟩, fun a e2 => ?_⟩
      cases e2
      exact ⟨o, e, ex.2.1⟩
    · obtain ⟨o, _, _, _, e, ex, _⟩ := I.hok p _ hk
      refine ⟨⟨o, e, ex.1⟩, fun a e2 => ?_⟩
      cases e2
      exact ⟨o, e, ex.2.1⟩
  | _ => exact False.elim ty
def tBM0 (K : PySem.W.Frag) (T : String) (r : V → List V → Hp → VK → Prop) (to : TE) : TE := fun σ H Q => to σ H fun x H1 => tyV K T x H1 ∧ r x [] H1 Q
def tBM (K : PySem.W.Frag) (T : String) (r : V → List V → Hp → VK → Prop) (to : TE) (t : TA) : TE := fun σ H Q => to σ H fun x H1 => tyV K T x H1 ∧ t σ H1 fun xs H2 => r x xs H2 Q
variable {o e : Expr} {es : List Expr} {to : TE} {t : TA} {name : Str} {apos cpos : Pos} {T id : String} {r : V → List V → Hp → VK → Prop}
theorem pe_bm (pa : PlainAttrs T) (slot : Slot T name id) (hty : typeOf (.builtin id) = pure (.type "method_descriptor")) (hm : MtR X id r) (ho : PE X o to) (ha : PA X (e :: es) t)
    (hbase : attributeBase o name X.env (eval o X.env) = eval o X.env := by rfl)
    (hfew : ((backTo cpos (starEach (e :: es) X.env)).all (fun x => !x.1) && (backToKw cpos (keywordEach [] X.env)).all (fun x => x.1.isSome)
      && decide ((e :: es).length + ([] : List Keyword).length + (if ([] : List Keyword).isEmpty then 0 else 1) < 30)) = true := by rfl)
    (hline : (apos.endLine == cpos.line) = true := by rfl) (hs : starEach (e :: es) X.env = (false, eval e X.env) :: starEach es X.env := by rfl) (hplain : (backTo cpos (starEach es X.env)).any (·.1) = false := by rfl) :
    PE X (.Call (.Attribute o name apos) (e :: es) [] cpos) (tBM X.K T r to t) := by
  intro pins s σ H Q I h
  refine wpAny_Call_method_late hbase hfew hline rfl (thn (ho pins s σ H _ I h) fun v s1 ⟨x, H1, I1, r1, ty, q1⟩ => ?_)
  obtain ⟨h1, h2⟩ := tyV_is I1 r1 ty
  refine ⟨T, id, pa, slot, hty, h1, h2, ?_⟩
  have hA := ha cpos pins s1 σ H1 _ I1 q1
  rw [hs] at hA ⊢
  refine Calls.callWith_builtin (by show (false || (backTo cpos (starEach es X.env)).any (·.1)) = false; rw [hplain] <;> rfl) (Calls.evalArgs_plain ?_)
  exact thn hA fun us s2 ⟨vs, H2, I2, r2, q2⟩ => hm pins s2 σ H2 x vs v us Q I2 r1 r2 q2
/- xs.append(e), list.index on a module's tuple .. are MtR facts of 06m -/
end
end L2

namespace L2
open PySem PySem.Spec PyProof.Rows

def MtM (X : Cx) (id : String) (r : V → List V → Hp → VK → Prop) : Prop :=
  ∀ (pins : List (Addr × Obj)) (s : Shared) (σ : St) (H : Hp) (x : V) (xs : List V) (v : Value) (us : List Value) (Q : VK), Inv X pins σ H s → RelV x v → Vals xs us → r x xs H Q →
    wpAny (model X.prog X.w) X.A (call (.builtin id) (v :: us)) (EP X pins σ Q) X.xe s

/-! ### lists of values -/
theorem Vals.one : ∀ {x : V} {us : List Value}, Vals [x] us → ∃ u, us = [u] ∧ RelV x u
  | _, _, .cons r .nil => ⟨_, rfl, r⟩
theorem Vals.two : ∀ {x y : V} {us : List Value}, Vals [x, y] us → ∃ u v, us = [u, v] ∧ RelV x u ∧ RelV y v
  | _, _, _, .cons r (.cons q .nil) => ⟨_, _, rfl, r, q⟩
theorem Vals.zero : ∀ {us : List Value}, Vals [] us → us = []
  | _, .nil => rfl
theorem Vals.dropLast {xs : List V} {us : List Value} (h : Vals xs us) : Vals xs.dropLast us.dropLast := by
  induction h with
  | nil => exact .nil
  | cons r t ih =>
    cases t with
    | nil => exact .nil
    | cons q t' => exact .cons r ih
theorem Vals.eraseIdx : ∀ {xs : List V} {us : List Value} (i : Nat), Vals xs us → Vals (xs.eraseIdx i) (us.eraseIdx i)
  | _, _, _, .nil => .nil
  | _, _, 0, .cons _ t => t
  | _, _, i + 1, .cons r t => .cons r (Vals.eraseIdx i t)
theorem Vals.reverse {xs : List V} {us : List Value} (h : Vals xs us) : Vals xs.reverse us.reverse := by
  induction h with
  | nil => exact .nil
  | cons r t ih => rw [List.reverse_cons, List.reverse_cons]; exact Vals.append ih (.cons r .nil)
section
variable {X : Cx} {pins : List (Addr × Obj)} {σ : St} {H : Hp} {s : Shared} {l b : Addr} {xs ys zs : List V}

/-! ### the two steps: a tracked list is rewritten, a new list is laid -/
theorem Inv.lset {its its' : List Value} {n : Nat} {f : Array Value → Array Value} {t' : Nat} (I : Inv X pins σ H s) (hH : H l = some (.lst xs))
    (e : s.heap.get? l = some { cls := .type "list", data := .seq its.toArray n }) (hf : f its.toArray = its'.toArray) (hv : Vals ys its') (hz : ys.length ≤ sizeLine) :
    Inv X pins σ (upd H l (.lst ys)) { s with heap := s.heap.update l (Obj.mapSeq f), toks := t' } := by
  have q := PySem.IsL.update e f
  rw [hf] at q
  refine I.write (x := l) (e := l) (by rw [hH]; exact trivial) (.inl rfl) (fun b' u hb hu => (Heap.get?_update_other s.heap (Obj.mapSeq f) (Ne.symm hb)).trans hu) ⟨_, q⟩ ?_
  exact ⟨hz, its', _, hv, q⟩
theorem Inv.lnew {its : List Value} {t' : Nat} (I : Inv X pins σ H s) (hv : Vals ys its) (hz : ys.length ≤ sizeLine) :
    Inv X pins σ (upd H s.heap.objs.size (.lst ys)) { s with heap := s.heap.push { cls := .type "list", data := .seq its.toArray }, toks := t' } :=
  I.laid (fun _ _ q => Heap.get?_push_of_some _ q) (Nat.le_refl _) ⟨hz, its, 0, hv, Heap.get?_push_size _ rfl⟩
theorem Inv.fresh (I : Inv X pins σ H s) : H s.heap.objs.size = none := I.hok.fresh (Nat.le_refl _)
theorem Inv.lstM (I : Inv X pins σ H s) (hH : H l = some (.lst xs)) : xs.length ≤ sizeLine ∧ ∃ (its : List Value) (n : Nat), Vals xs its ∧ xs.length = its.length ∧ s.heap.get? l = some { cls := .type "list", data := .seq its.toArray n } := by
  obtain ⟨z, its, n, r, e⟩ := I.hok l _ hH
  exact ⟨z, its, n, r, r.length, e⟩

theorem notLongL {n : Nat} (h : n ≤ sizeLine) : Builtin.List.listTooLong n = false := by
  unfold Builtin.List.listTooLong
  exact decide_eq_false (by omega)
end

section
variable {X : Cx}

/-! ### methods -/
def rAppend : V → List V → Hp → VK → Prop := fun x vs H Q => ∃ l xs y, x = .ref l ∧ vs = [y] ∧ H l = some (.lst xs) ∧ xs.length < sizeLine ∧ Q .non (upd H l (.lst (xs ++ [y])))
theorem mt_append : MtM X "list.append" rAppend := by
  intro pins s σ H x vs v us Q I rx rv h
  obtain ⟨l, xs, y, rfl, rfl, hH, hz, q⟩ := h
  cases rx
  obtain ⟨u, rfl, ru⟩ := rv.one
  obtain ⟨z, its, n, r, hl, e⟩ := I.lstM hH
  refine call_meets F.slot_list_append ⟨_, e, rfl⟩ F.entry_list_append (F.args_list_append_2 _ _) (PySem.list_append l its.toArray n u (by rw [List.size_toArray]; omega)) ⟨e, ?_⟩
  refine ⟨.non, _, I.lset (its' := its ++ [u]) hH e (by simp) (r.append (.cons ru .nil)) ?_, rfl, q⟩
  rw [List.length_append, List.length_singleton]
  omega

def rExtend : V → List V → Hp → VK → Prop := fun x vs H Q => ∃ l b xs zs, x = .ref l ∧ vs = [.ref b] ∧ H l = some (.lst xs) ∧ H b = some (.lst zs) ∧ xs.length + zs.length ≤ sizeLine ∧ Q .non (upd H l (.lst (xs ++ zs)))
theorem mt_extend : MtM X "list.extend" rExtend := by
  intro pins s σ H x vs v us Q I rx rv h
  obtain ⟨l, b, xs, zs, rfl, rfl, hH, hB, hz, q⟩ := h
  cases rx
  obtain ⟨u, rfl, ru⟩ := rv.one
  cases ru
  obtain ⟨z, its, n, r, hl, e⟩ := I.lstM hH
  obtain ⟨z2, its2, n2, r2, hl2, e2⟩ := I.lstM hB
  have hsz : its.toArray.size + its2.toArray.size ≤ sizeLine := by rw [List.size_toArray, List.size_toArray]; omega
  have hlong : ¬ (!its.toArray.isEmpty && Builtin.List.listTooLong (its.toArray.size + its2.toArray.size)) = true := by
    rw [notLongL hsz, Bool.and_false]
    exact Bool.false_ne_true
  refine call_meets F.slot_list_extend ⟨_, e, rfl⟩ F.entry_list_extend (F.args_list_extend_2 _ _)
    (AutoSeq1.list_extend_list_list_0 l its.toArray n b its2.toArray n2 hlong (by rw [List.size_toArray]; omega) (by omega)) ⟨e, e2, ?_⟩
  refine ⟨.non, _, I.lset (its' := its ++ its2) hH e (by simp) (r.append r2) ?_, rfl, q⟩
  rw [List.length_append]
  omega

def rPop : V → List V → Hp → VK → Prop := fun x vs H Q => ∃ l xs y, x = .ref l ∧ vs = [] ∧ H l = some (.lst xs) ∧ xs[xs.length - 1]? = some y ∧ Q y (upd H l (.lst xs.dropLast))
def rPopAt : V → List V → Hp → VK → Prop := fun x vs H Q => ∃ l xs i k y, x = .ref l ∧ vs = [.int i] ∧ H l = some (.lst xs) ∧ -(2 ^ 63) ≤ i ∧ i < 2 ^ 63 ∧ seqIndex? i xs.length = some k ∧ xs[k]? = some y ∧ Q y (upd H l (.lst (xs.eraseIdx k)))
def rReverse : V → List V → Hp → VK → Prop := fun x vs H Q => ∃ l xs, x = .ref l ∧ vs = [] ∧ H l = some (.lst xs) ∧ Q .non (upd H l (.lst xs.reverse))
def rClear : V → List V → Hp → VK → Prop := fun x vs H Q => ∃ l xs, x = .ref l ∧ vs = [] ∧ H l = some (.lst xs) ∧ Q .non (upd H l (.lst []))
/-! ### list + list, list += list, list * int -/
def rCat : R2 := fun x y H Q => ∃ l b xs zs, x = .ref l ∧ y = .ref b ∧ H l = some (.lst xs) ∧ H b = some (.lst zs) ∧ xs.length + zs.length ≤ sizeLine ∧ ∀ p, H p = none → Q (.ref p) (upd H p (.lst (xs ++ zs)))
theorem op_cat : OpR X (binaryOp .Add) rCat := by
  intro pins s σ H x y v u Q I rx ry h
  obtain ⟨l, b, xs, zs, rfl, rfl, hH, hB, hz, q⟩ := h
  cases rx
  cases ry
  obtain ⟨z, its, n, r, hl, e⟩ := I.lstM hH
  obtain ⟨z2, its2, n2, r2, hl2, e2⟩ := I.lstM hB
  refine PySem.P.add_list e e2 ?_ (by rw [List.size_toArray, List.size_toArray]; omega)
  have ea : its.toArray ++ its2.toArray = (its ++ its2).toArray := by simp
  rw [ea]
  exact ⟨.ref _, _, I.lnew (t' := s.toks) (r.append r2) (by rw [List.length_append]; omega), rfl, q _ I.fresh⟩
/-- a list times an int (a negative one is nothing) -/
def rRep : R2 := fun x y H Q => ∃ l k xs, x = .ref l ∧ y = .int k ∧ H l = some (.lst xs) ∧ -(2 ^ 63) ≤ k ∧ k < 2 ^ 63 ∧ xs.length * k.toNat ≤ sizeLine ∧
  ∀ p, H p = none → Q (.ref p) (upd H p (.lst (List.replicate k.toNat xs).flatten))
/-! ### del xs[i] -/
end

/-! ### xs[a:b] = ys -/
section
variable {prog : Program} {w : World} {A : Around} {E : Value → Shared → Prop} {s : Shared}
end

section
variable {X : Cx}
end
end L2

namespace L2
open PySem PySem.Spec PyProof.Rows

/-! ### lists of pairs as tables -/
section
variable {κ : Type} [DecidableEq κ]
def valV (kvs : List (κ × V)) (k : κ) : Option V := (kvs.find? fun kv => decide (kv.1 = k)).map (·.2)
/-- in its place, or at the end -/
def putK (kvs : List (κ × V)) (k : κ) (v : V) : List (κ × V) :=
  if (kvs.any fun kv => decide (kv.1 = k)) = true then kvs.map (fun kv => if kv.1 = k then (kv.1, v) else kv) else kvs ++ [(k, v)]
def dropK (kvs : List (κ × V)) (k : κ) : List (κ × V) := kvs.filter fun kv => decide (kv.1 ≠ k)

theorem valV_pos {p : κ × V} {r : List (κ × V)} {k : κ} (e : p.1 = k) : valV (p :: r) k = some p.2 := by simp [valV, List.find?_cons, e]
theorem valV_neg {p : κ × V} {r : List (κ × V)} {k : κ} (e : ¬ p.1 = k) : valV (p :: r) k = valV r k := by simp [valV, List.find?_cons, e]
theorem valV_any (k : κ) : ∀ kvs : List (κ × V), (kvs.any fun kv => decide (kv.1 = k)) = (valV kvs k).isSome
  | [] => rfl
  | p :: r => by
    rw [List.any_cons]
    by_cases e : p.1 = k
    · simp only [valV_pos e, decide_eq_true e, Bool.true_or, Option.isSome_some]
    · rw [valV_neg e, decide_eq_false e, Bool.false_or]; exact valV_any k r
theorem RelO.isSome_eq {o : Option V} {u : Option Value} (r : RelO o u) : o.isSome = u.isSome := by
  cases o with
  | none => cases u with
    | none => rfl
    | some _ => exact (show False from r).elim
  | some _ => cases u with
    | none => exact (show False from r).elim
    | some _ => rfl
theorem RelO.getD {o : Option V} {u : Option Value} {d : V} {d' : Value} (r : RelO o u) (rd : RelV d d') : RelV (o.getD d) (u.getD d') := by
  cases o with
  | none => cases u with
    | none => exact rd
    | some _ => exact (show False from r).elim
  | some _ => cases u with
    | none => exact (show False from r).elim
    | some _ => exact r

/-- raw tables of the same keys -/
theorem KV.val {kvs : List (κ × V)} {vs : List (κ × Value)} (r : KV kvs vs) (k : κ) : RelO (valV kvs k) (valueAt vs k) := by
  unfold KV at r
  induction r with
  | nil => exact True.intro
  | @cons p q ps qs h t ih =>
    obtain ⟨h1, h2⟩ := h
    by_cases e : p.1 = k
    · have e' : q.1 = k := h1.symm.trans e
      have b : valueAt (q :: qs) k = some q.2 := by simp [valueAt, List.find?_cons, e']
      rw [valV_pos e, b]; exact h2
    · have e' : ¬ q.1 = k := fun z => e (h1.trans z)
      have b : valueAt (q :: qs) k = valueAt qs k := by simp [valueAt, List.find?_cons, e']
      rw [valV_neg e, b]; exact ih
theorem KV.any {kvs : List (κ × V)} {vs : List (κ × Value)} (r : KV kvs vs) (k : κ) : (kvs.any fun kv => decide (kv.1 = k)) = vs.any fun kv => decide (kv.1 = k) := by
  unfold KV at r
  induction r with
  | nil => rfl
  | cons h t ih => rw [List.any_cons, List.any_cons, ih, h.1]
theorem KV.repl {kvs : List (κ × V)} {vs : List (κ × Value)} (r : KV kvs vs) (k : κ) {y : V} {u : Value} (ry : RelV y u) :
    KV (kvs.map fun kv => if kv.1 = k then (kv.1, y) else kv) (vs.map fun kv => if kv.1 = k then (kv.1, u) else kv) := by
  unfold KV at r ⊢
  induction r with
  | nil => exact .nil
  | @cons p q ps qs h t ih =>
    rw [List.map_cons, List.map_cons]
    refine .cons ?_ ih
    obtain ⟨h1, h2⟩ := h
    by_cases e : p.1 = k
    · rw [if_pos e, if_pos (h1.symm.trans e)]; exact ⟨h1, ry⟩
    · rw [if_neg e, if_neg (fun z => e (h1.trans z))]; exact ⟨h1, h2⟩
theorem KV.put {kvs : List (κ × V)} {vs : List (κ × Value)} (r : KV kvs vs) (k : κ) {y : V} {u : Value} (ry : RelV y u) : KV (putK kvs k y) (stored vs k u) := by
  unfold putK stored
  rw [r.any k]
  by_cases e : (vs.any fun kv => decide (kv.1 = k)) = true
  · rw [if_pos e, if_pos e]; exact r.repl k ry
  · rw [if_neg e, if_neg e]; exact Paired.snoc r ⟨rfl, ry⟩
theorem KV.drop {kvs : List (κ × V)} {vs : List (κ × Value)} (r : KV kvs vs) (k : κ) : KV (dropK kvs k) (without vs k) := by
  unfold KV at r ⊢
  unfold dropK without
  induction r with
  | nil => exact .nil
  | @cons p q ps qs h t ih =>
    obtain ⟨h1, h2⟩ := h
    rw [List.filter_cons, List.filter_cons]
    by_cases e : p.1 = k
    · have a : ¬ decide (p.1 ≠ k) = true := by simp [e]
      have b : ¬ decide (q.1 ≠ k) = true := by simp [h1.symm.trans e]
      rw [if_neg a, if_neg b]; exact ih
    · have e' : ¬ q.1 = k := fun z => e (h1.trans z)
      have a : decide (p.1 ≠ k) = true := by simp [e]
      have b : decide (q.1 ≠ k) = true := by simp [e']
      rw [if_pos a, if_pos b]; exact .cons ⟨h1, h2⟩ ih
theorem KV.keys {kvs : List (κ × V)} {vs : List (κ × Value)} (r : KV kvs vs) : kvs.map (·.1) = vs.map (·.1) := by
  unfold KV at r
  induction r with
  | nil => rfl
  | cons h t ih => rw [List.map_cons, List.map_cons, ih, h.1]
theorem KV.length {kvs : List (κ × V)} {vs : List (κ × Value)} (r : KV kvs vs) : kvs.length = vs.length := Paired.length r
end


/-! ### a tracked dict, its keys ints and texts or tuples of these -/
/-- raw entries of a dict with tuple keys -/
abbrev KT (H : Hp) : List (List Key × V) → List (List Key × Addr × Value) → Prop := Paired fun p q => p.1 = q.1 ∧ H q.2.1 = some (.tup (p.1.map kV)) ∧ RelV p.2 q.2.2
theorem KT.val {H : Hp} {kvs : List (List Key × V)} {xs : List (List Key × Addr × Value)} (r : KT H kvs xs) (k : List Key) : RelO (valV kvs k) ((atKey xs k).map (·.2)) := by
  induction r with
  | nil => exact True.intro
  | @cons p q ps qs h t ih =>
    obtain ⟨h1, _, h2⟩ := h
    by_cases e : p.1 = k
    · have e' : q.1 = k := h1.symm.trans e
      have b : atKey (q :: qs) k = some q.2 := by simp [atKey, List.find?_cons, e']
      rw [valV_pos e, b]; exact h2
    · have e' : ¬ q.1 = k := fun z => e (h1.trans z)
      have b : atKey (q :: qs) k = atKey qs k := by simp [atKey, List.find?_cons, e']
      rw [valV_neg e, b]; exact ih
theorem KT.repl {H : Hp} {kvs : List (List Key × V)} {xs : List (List Key × Addr × Value)} (r : KT H kvs xs) (k : List Key) {y : V} {u : Value} (ry : RelV y u) :
    KT H (kvs.map fun kv => if kv.1 = k then (kv.1, y) else kv) (xs.map (putAt k u)) := by
  induction r with
  | nil => exact .nil
  | @cons p q ps qs h t ih =>
    rw [List.map_cons, List.map_cons]
    refine .cons ?_ ih
    obtain ⟨h1, h2, h3⟩ := h
    unfold putAt
    by_cases e : p.1 = k
    · rw [if_pos e, if_pos (h1.symm.trans e)]; exact ⟨h1, h2, ry⟩
    · rw [if_neg e, if_neg (fun z => e (h1.trans z))]; exact ⟨h1, h2, h3⟩
theorem KT.put {H : Hp} {kvs : List (List Key × V)} {xs : List (List Key × Addr × Value)} (r : KT H kvs xs) (k : List Key) {b : Addr} {y : V} {u : Value} (hb : H b = some (.tup (k.map kV))) (ry : RelV y u) :
    KT H (putK kvs k y) (storedH xs k b u) := by
  have e : (kvs.any fun kv => decide (kv.1 = k)) = (atKey xs k).isSome := by
    rw [valV_any, (r.val k).isSome_eq, Option.isSome_map]
  unfold putK storedH
  rw [e]
  by_cases q : (atKey xs k).isSome = true
  · rw [if_pos q, if_pos q]; exact r.repl k ry
  · rw [if_neg q, if_neg q]; exact Paired.snoc r ⟨rfl, hb, ry⟩
theorem KT.keeps {H H' : Hp} {kvs : List (List Key × V)} {xs : List (List Key × Addr × Value)} (r : KT H kvs xs) (ht : ∀ b ys, H b = some (.tup ys) → H' b = some (.tup ys)) : KT H' kvs xs :=
  Paired.mapP r fun _ _ z => ⟨z.1, ht _ _ z.2.1, z.2.2⟩

section
variable {P : Program} {w : World} {H : Hp} {h : Heap} {a : Addr}
end

/-- what the dict at a holds at the key y -/
def DGet (H : Hp) (a : Addr) (y : V) (r : Option V) : Prop :=
  (∃ kvs k, Rd H a (.dK kvs) ∧ y = kV k ∧ r = valV kvs k) ∨ ∃ kvs k b, Rd H a (.dT kvs) ∧ y = .ref b ∧ H b = some (.tup (k.map kV)) ∧ r = valV kvs k
/-- the heap behind a[y] = v -/
def DPut (H : Hp) (a : Addr) (y v : V) (H' : Hp) : Prop :=
  (∃ kvs k, H a = some (.dK kvs) ∧ y = kV k ∧ kvs.length < sizeLine ∧ H' = upd H a (.dK (putK kvs k v))) ∨
  ∃ kvs k b, H a = some (.dT kvs) ∧ y = .ref b ∧ H b = some (.tup (k.map kV)) ∧ kvs.length < sizeLine ∧ H' = upd H a (.dT (putK kvs k v))
theorem DGet.k {H : Hp} {a : Addr} {kvs : List (Key × V)} {k : Key} (e : H a = some (.dK kvs)) : DGet H a (kV k) (valV kvs k) := .inl ⟨kvs, k, .inl e, rfl, rfl⟩
theorem DGet.t {H : Hp} {a b : Addr} {kvs : List (List Key × V)} {k : List Key} (e : H a = some (.dT kvs)) (eb : H b = some (.tup (k.map kV))) : DGet H a (.ref b) (valV kvs k) := .inr ⟨kvs, k, b, .inl e, rfl, eb, rfl⟩
theorem DPut.k {H : Hp} {a : Addr} {kvs : List (Key × V)} {k : Key} {v : V} (e : H a = some (.dK kvs)) (hl : kvs.length < sizeLine) : DPut H a (kV k) v (upd H a (.dK (putK kvs k v))) := .inl ⟨kvs, k, e, rfl, hl, rfl⟩
theorem DPut.t {H : Hp} {a b : Addr} {kvs : List (List Key × V)} {k : List Key} {v : V} (e : H a = some (.dT kvs)) (eb : H b = some (.tup (k.map kV))) (hl : kvs.length < sizeLine) :
    DPut H a (.ref b) v (upd H a (.dT (putK kvs k v))) := .inr ⟨kvs, k, b, e, rfl, eb, hl, rfl⟩


section
variable {X : Cx} {pins : List (Addr × Obj)} {σ : St} {H : Hp} {s : Shared} {a : Addr} {y v : V} {u r : Value} {o : Option V} {A : Around} {E : Value → Shared → Prop}

theorem Inv.big (I : Inv X pins σ H s) : sysModules < s.heap.objs.size := by
  have h : mainGlobals < s.heap.objs.size := (I.mod.glob.keeps I.bk).lt
  exact Nat.lt_trans (by decide) h

end

section
variable {X : Cx} {pins : List (Addr × Obj)} {σ : St} {H : Hp} {s : Shared} {a : Addr} {kvs : List (Key × V)} {k : Key} {u : Value} {A : Around} {E : Value → Shared → Prop}
end


/-! ### readings and rules -/
/-- the element of a subscription, not a slice -/
def NoSl (i : Expr) : Prop := ∀ ov iv, subscripted i false ov iv = operate [ov, iv] (getItem ov iv)
/-- d[y] -/
def tDGet (td ty : TE) : TE := fun σ H Q => td σ H fun x H1 => ty σ H1 fun y H2 => ∃ a v, x = .ref a ∧ DGet H2 a y (some v) ∧ Q v H2
/-- y in d, y not in d -/
def tDIn (ty td : TE) : TE := fun σ H Q => ty σ H fun y H1 => td σ H1 fun x H2 => ∃ a o, x = .ref a ∧ DGet H2 a y o ∧ Q (.bl o.isSome) H2
def tDNotIn (ty td : TE) : TE := fun σ H Q => ty σ H fun y H1 => td σ H1 fun x H2 => ∃ a o, x = .ref a ∧ DGet H2 a y o ∧ Q (.bl (!o.isSome)) H2
/-- d[y] = v -/
def sDPut (td ty tv : TE) : TS := fun D σ H => tv σ H fun v H1 => td σ H1 fun x H2 => ty σ H2 fun y H3 => ∃ a H4, x = .ref a ∧ DPut H3 a y v H4 ∧ D.nx σ H4
/-- d[y] op= v -/
def sDAug (td ty tv : TE) (rd : V → V → Hp → VK → Prop) : TS := fun D σ H => td σ H fun x H1 => ty σ H1 fun y H2 => ∃ a v, x = .ref a ∧ DGet H2 a y (some v) ∧
  tv σ H2 fun y2 H3 => rd v y2 H3 fun z H4 => ∃ H5, DPut H4 a y z H5 ∧ D.nx σ H5
/-- del d[y] -/
def sDDel (td ty : TE) : TS := fun D σ H => td σ H fun x H1 => ty σ H1 fun y H2 => ∃ a kvs k, x = .ref a ∧ H2 a = some (.dK kvs) ∧ y = kV k ∧ (valV kvs k).isSome = true ∧ D.nx σ (upd H2 a (.dK (dropK kvs k)))

section
variable {X : Cx} {o i e value : Expr} {pos pos' tpos : Pos} {td ty tv : TE}
end


/-! ### displays -/
/-- {}, to be a dict of the kind that is wanted -/
def tDNewK : TE := fun _ H Q => ∀ p, H p = none → Q (.ref p) (upd H p (.dK []))
def tDNewT : TE := fun _ H Q => ∀ p, H p = none → Q (.ref p) (upd H p (.dT []))
section
variable {X : Cx} {pos : Pos}
end

/-- the pairs of a display, from the left -/
def tPairs : List (TE × TE) → St → Hp → (List (V × V) → Hp → Prop) → Prop
  | [], _, H, Q => Q [] H
  | (tk, tv) :: r, σ, H, Q => tk σ H fun x H1 => tv σ H1 fun y H2 => tPairs r σ H2 fun ps H3 => Q ((x, y) :: ps) H3
abbrev VV : List (V × V) → List (Value × Value) → Prop := Paired fun p q => RelV p.1 q.1 ∧ RelV p.2 q.2
def PPs (X : Cx) (pos : Pos) (keys : List (Option Expr)) (values : List Expr) (trs : List (TE × TE)) : Prop :=
  ∀ (pins : List (Addr × Obj)) (s : Shared) (σ : St) (H : Hp) (Q : List (V × V) → Hp → Prop), Inv X pins σ H s → tPairs trs σ H Q →
    wpAny (model X.prog X.w) X.A (evalPairs (pairTrees keys values X.env pos)) (fun vs s' => ∃ ps H', Inv X pins σ H' s' ∧ VV ps vs ∧ Q ps H') X.xe s
def mergeK (kvs more : List (Key × V)) : List (Key × V) := more.foldl (fun acc kv => putK acc kv.1 kv.2) kvs
/-- {k: v, ..} with keys ints and texts; the new dict stands empty while the pairs are made -/
def tDisp (trs : List (TE × TE)) : TE := fun σ H Q => ∀ p, H p = none → tPairs trs σ (upd H p (.dK [])) fun ps H2 => H2 p = some (.dK []) ∧ ∃ kvs : List (Key × V), ps = kvs.map (fun kv => (kV kv.1, kv.2)) ∧ kvs.length ≤ 15 ∧ Q (.ref p) (upd H2 p (.dK (mergeK [] kvs)))
/-! ### methods -/
/-- a method call o.m(e) of a built-in, with one argument: what must be seen of the text -/
structure M1 (X : Cx) (o : Expr) (m : Str) (apos : Pos) (e : Expr) (cpos : Pos) : Prop where
  base : attributeBase o m X.env (eval o X.env) = eval o X.env
  few : ((backTo cpos (starEach [e] X.env)).all (fun x => !x.1) && (backToKw cpos (keywordEach [] X.env)).all (fun x => x.1.isSome)
    && decide (([e] : List Expr).length + ([] : List Keyword).length + (if ([] : List Keyword).isEmpty then 0 else 1) < 30)) = true
  line : (apos.endLine == cpos.line) = true
  trees : backTo cpos (starEach [e] X.env) = [(false, eval e X.env)]
structure M2 (X : Cx) (o : Expr) (m : Str) (apos : Pos) (e f : Expr) (cpos : Pos) : Prop where
  base : attributeBase o m X.env (eval o X.env) = eval o X.env
  few : ((backTo cpos (starEach [e, f] X.env)).all (fun x => !x.1) && (backToKw cpos (keywordEach [] X.env)).all (fun x => x.1.isSome)
    && decide (([e, f] : List Expr).length + ([] : List Keyword).length + (if ([] : List Keyword).isEmpty then 0 else 1) < 30)) = true
  line : (apos.endLine == cpos.line) = true
  trees : backTo cpos (starEach [e, f] X.env) = [(false, eval e X.env), (false, eval f X.env)]

/-- a is a dict, whatever its keys -/
def IsD (H : Hp) (a : Addr) : Prop := (∃ kvs, Rd H a (.dK kvs)) ∨ ∃ kvs, Rd H a (.dT kvs)
section
variable {X : Cx} {pins : List (Addr × Obj)} {σ : St} {H : Hp} {s : Shared} {a : Addr} {y d : V} {u r : Value} {o : Option V} {A : Around} {E : Value → Shared → Prop}
end

def tDGet1 (td ty : TE) : TE := fun σ H Q => td σ H fun x H1 => ∃ a, x = .ref a ∧ IsD H1 a ∧ ty σ H1 fun y H2 => ∃ o, DGet H2 a y o ∧ Q (o.getD .non) H2
def tDGet2 (td ty tx : TE) : TE := fun σ H Q => td σ H fun x H1 => ∃ a, x = .ref a ∧ IsD H1 a ∧ ty σ H1 fun y H2 => tx σ H2 fun z H3 => ∃ o, DGet H3 a y o ∧ Q (o.getD z) H3
/-- d.pop(k): there; d.pop(k, x): there or not -/
def tDPop1 (td ty : TE) : TE := fun σ H Q => td σ H fun x H1 => ∃ a, x = .ref a ∧ IsD H1 a ∧ ty σ H1 fun y H2 => ∃ kvs k v, H2 a = some (.dK kvs) ∧ y = kV k ∧ valV kvs k = some v ∧ Q v (upd H2 a (.dK (dropK kvs k)))
def tDPop2 (td ty tx : TE) : TE := fun σ H Q => td σ H fun x H1 => ∃ a, x = .ref a ∧ IsD H1 a ∧ ty σ H1 fun y H2 => tx σ H2 fun z H3 => ∃ kvs k, H3 a = some (.dK kvs) ∧ y = kV k ∧
  (∀ v, valV kvs k = some v → Q v (upd H3 a (.dK (dropK kvs k)))) ∧ (valV kvs k = none → Q z H3)
section
variable {X : Cx} {o e f : Expr} {apos cpos : Pos} {td ty tx : TE}
end

/-! ### dict(d): a copy -/
section
variable {X : Cx} {pins : List (Addr × Obj)} {σ : St} {H : Hp} {s : Shared} {a : Addr} {kvs : List (Key × V)} {A : Around} {E : Value → Shared → Prop}
end


section
variable {X : Cx} {pins : List (Addr × Obj)} {σ : St} {H : Hp} {s : Shared} {a : Addr} {y : V} {u : Value} {A : Around} {E : Value → Shared → Prop}
end
end L2


namespace Att
open PySem PySem.W PySem.Calls PyProof.Rows

/-! ### the script -/
theorem ints_of_wellAll {P : Params} {h : Heap} : ∀ (ns : List Int) (vs : List Value), WellAll P h vs (ns.map WData.int) → IntsAre vs ns := by
  intro ns
  induction ns with
  | nil =>
    intro vs w
    rw [List.map_nil] at w
    cases w
    exact .nil
  | cons n ns ih =>
    intro vs w
    rw [List.map_cons] at w
    cases w with
    | cons a b =>
      cases a
      exact .cons _ _ (ih _ b)

theorem script_of {l : OpenLaw} {n : Nat} (hn : l.most = some n) {P : Params} {h : Heap} {args : List WData} {vals : List Value}
    (hpre : l.row.toRowW.claim.pre args = true) (hwl : WellAll P h vals args) :
    ∃ a vs ns, vals = [Value.ref a] ∧ args = [WData.list (ns.map WData.int)] ∧ h.get? a = some { cls := .type "list", data := .seq vs.toArray } ∧ IntsAre vs ns ∧ ns.length ≤ n := by
  have hsh : WShape.hasAll [] args [.list .int] = true := (pre_splitW hpre).1
  have hc : l.pre.holds [] { args := args } = true := (pre_splitW hpre).2
  obtain ⟨d, r, rfl, h1, h2⟩ := hasAllW_cons hsh
  obtain rfl := hasAllW_nil h2
  obtain ⟨xs, rfl, h3⟩ := hasW_list h1
  obtain ⟨ns, rfl⟩ := items_int h3
  have hlen : ns.length ≤ n := by
    unfold OpenLaw.pre at hc
    have h4 : (WTm.not (.lt (.lit (.int (n : Int))) (.len (.arg 0)))).holds [] { args := [.list (ns.map .int)] } = true := by
      have h4 := (holds_andW hc).1
      rw [hn] at h4
      exact h4
    have h5 := condW_of h4 (w_not (w_lt w_lit (w_len_list (w_arg rfl))))
    rw [List.length_map] at h5
    refine Nat.le_of_not_lt fun q => ?_
    have q' : (n : Int) < ((ns.length : Nat) : Int) := by omega
    first
      | (rw [decide_eq_true q'] at h5; exact absurd h5 (by decide))
      | (simp at h5; omega)
  cases hwl with
  | cons w1 w2 =>
    cases w2
    cases w1 with
    | list ho hall => exact ⟨_, _, ns, rfl, rfl, ho, ints_of_wellAll ns _ hall, hlen⟩

theorem post_true (l : OpenLaw) (args : List WData) : l.row.toRowW.claim.post args (.bool true) args = true :=
  postW_of (r := l.row.toRowW) (X := (true == true))
    (show WShape.has [] (.bool true) .bool = true by first | rfl | decide | simp [WShape.has, WShape.arms, WShape.armsAll])
    (show (WTm.eq .res (.lit (.bool true))).value [] { args := args, res := some (.bool true), after := args } = some (.bool (true == true)) from w_eq_bool (w_res rfl) w_lit) rfl

/-! ### the attachment: holds_open's last premise (the goal 'hc' behind k_head) from a wpAny of the law's body -/
/-- the same from a codeAny of the CALL (for a layer whose function contracts speak of calls) -/
theorem attach_call {l : OpenLaw} {n : Nat} {q : Program} {loose : List Str} {XP : (Str → Option Value) → Heap → Prop} {YP : World → Heap → Prop} {d : DefRec}
    (hn : l.most = some n) (hdf : d.params.defaults = [])
    (call : ∀ (w : World) (s₀ s₁ : Shared) (mg mb : Str → Option Value) (fa : Addr) (o : Obj) (pm cd doc : Value) (a : Addr) (vs : List Value) (ns : List Int),
      Ground q loose [] XP w s₀ mg mb s₁.heap → YP w s₁.heap →
      s₁.heap.get? fa = some o → o.data = .func (docDef d.name d.params d.body d.scope pm cd doc) → s₁.heap.CodeRec cd d.name → mg d.name = some (.ref fa) →
      s₁.heap.get? a = some { cls := .type "list", data := .seq vs.toArray } → IntsAre vs ns → ns.length ≤ n → s₁.gens = #[] →
      codeAny (model l.prog w) callerA (.call (.ref fa) ⟨[.ref a], []⟩) (fun r s' => r = .ok (.ret (.bool true)) ∧ OldK s₁.heap s'.heap ∧ s'.os = s₁.os ∧ AllBare s'.gens) s₁) :
    WalkO q loose XP YP l.row.toRowW d [] (fun f vs => PySem.call f vs) := by
  intro w s₀ s₁ mg mb G Y fa o pm cd doc dV kV ho hd hcd hD hmg hg args vals as hpre hlay hrd hwl hlo
  obtain rfl : dV = .none := Dflts.none hD hdf
  obtain rfl : kV = .none := Dflts.noKw hD
  obtain ⟨a, vs, ns, rfl, rfl, hobj, hints, hlen⟩ := script_of hn hpre hwl
  refine enter_call (codeAny_mono (call w s₀ s₁ mg mb fa o pm cd doc a vs ns G Y ho (fd_plain hd) hcd hmg hobj hints hlen hg) fun r s' hq => ?_)
  obtain ⟨rfl, h2, h3, h4⟩ := hq
  exact ⟨.inl ⟨.bool true, .bool true, [], rfl, fun _ => rfl, .bool true, post_true l _, fun _ => ⟨List.Pairwise.nil, fun _ hm => (nomatch hm)⟩⟩, h2, h3, h4⟩

/-! ### rules over ANY heap (no ledger) from facts about the written part K: the library's own take a ledger (News) for what they write -/
section
variable {prog : Program} {w : World} {A : Around} {E : Value → Shared → Prop} {s : Shared} {K : Frag}

/-! the whole heap as the ledger: makes every rule that writes through a ledger a rule over any heap -/
def noObjs (h : Heap) : Heap := { h with objs := #[] }
def ledger (h : Heap) (L d : Addr) : List (Addr × Obj) := (List.range h.objs.size).filterMap fun a => if a = L ∨ a = d then none else (h.get? a).map fun o => (a, o)
end
end Att

namespace L2
open PySem PySem.Spec PyProof.Rows

theorem vals_ints : ∀ {vs : List Value} {ns : List Int}, IntsAre vs ns → Vals (ns.map V.int) vs
  | _, _, .nil => .nil
  | _, _, .cons n t h => .cons ⟨t, rfl⟩ (vals_ints h)

/-- nothing is tracked but the script, known to the object (or it is an object of the module) -/
def Only (H : Hp) : Prop := ∀ b, H b = none ∨ ∃ o xs, H b = some (.frz o (.lst xs))

/-- THE HEAD: the law's promise, at the heap behind the top. F, the promise of the law's def, may use that base is part of the heap (so K.In base, base.Ns mainGlobals mg stand in Mod) -/
theorem law_call {P : Program} {w : World} {K : PySem.W.Frag} {mg mb : Str → Option Value} {CX : CXT} {k : Nat} {fa a : Addr} {fd : FuncData} {x : Str} {sp : Sp} {s₁ : Shared} {vs : List Value} {ns : List Int}
    (KX : K.In s₁.heap) (hns : s₁.heap.Ns mainGlobals mg) (hb : s₁.heap.Ns builtinsNs mb) (hbb : ∀ x : Str, x ≠ "__name__" → mb x = bootBuiltins x) (hlim : s₁.heap.NoLimit) (hg : s₁.gens = #[])
    (ha : s₁.heap.get? a = some { cls := .type "list", data := .seq vs.toArray }) (hi : IntsAre vs ns) (hl : ns.length ≤ sizeLine) (hr : Room k callerA)
    (F : ∀ base : Heap, K.In base → base.Ns mainGlobals mg → FnOk P w K mg base CX k fa fd [x] sp) (hbind : ∀ (s : Shared) (u : Value), BindsTo s fd ⟨[u], []⟩ [(x, u)])
    (hsp : ∀ H : Hp, Only H → SqL K H a (ns.map V.int) → sp [.ref a] H (fun v _ => v = .bl true) fun _ _ _ => False)
    (hCX : ∀ H e s', CX [] H s₁ (fun _ _ _ => False) e s' → False) :
    codeAny (model P w) callerA (.call (.ref fa) ⟨[.ref a], []⟩) (fun r s' => r = .ok (.ret (.bool true)) ∧ OldK s₁.heap s'.heap ∧ s'.os = s₁.os ∧ AllBare s'.gens) s₁ := by
  have rv := vals_ints hi
  have lenV := hi.length
  -- from an abstract heap in which nothing but the script may be tracked
  have core : ∀ H : Hp, Only H → SqL K H a (ns.map V.int) → HOk P w H s₁.heap → (∀ b, H b ≠ none → b = a) → (H a ≠ none → K.lookup a = none) →
      codeAny (model P w) callerA (.call (.ref fa) ⟨[.ref a], []⟩) (fun r s' => r = .ok (.ret (.bool true)) ∧ OldK s₁.heap s'.heap ∧ s'.os = s₁.os ∧ AllBare s'.gens) s₁ := by
    intro H hO hS hok hA hK
    have base_of : ∀ {b : Addr} {o : Obj}, s₁.heap.get? b = some o → H b = none → (hidT s₁.heap H).get? b = some o := fun e n => hidT_get e n
    have noA : ∀ {b : Addr} {o : Obj} {es : Array DictEntry} {ep : Nat}, s₁.heap.get? b = some o → o.data = .dict es ep → H b = none := fun {b o es ep} e d => by
      cases q : H b with
      | none => rfl
      | some u =>
        have e' : b = a := hA b (by rw [q]; simp)
        subst e'
        rw [ha] at e; cases e
        have d' : Data.seq vs.toArray _ = Data.dict es ep := d
        cases d'
    have nsK : ∀ {b : Addr} {m : Str → Option Value}, s₁.heap.Ns b m → (hidT s₁.heap H).Ns b m := fun {b m} ⟨o, es, ep, e, d, r⟩ => ⟨o, es, ep, base_of e (noA e d), d, r⟩
    have hKb : K.In (hidT s₁.heap H) := fun b o e => base_of (KX b o e) (by
      cases q : H b with
      | none => rfl
      | some u =>
        have e' : b = a := hA b (by rw [q]; simp)
        subst e'
        rw [hK (by rw [q]; simp)] at e; cases e)
    have hM : Mod K mg (hidT s₁.heap H) := ⟨hKb, nsK hns, ⟨mb, nsK hb, hbb⟩, let ⟨mc, h1, h2⟩ := hlim; ⟨mc, nsK h1, h2⟩⟩
    have e0 : Env0 P w K mg (hidT s₁.heap H) callerA [] s₁ H := ⟨rfl, hM, fun b o e => of_hidT e, Nat.le_of_eq (hidT_size _ _), trivial, fun b hb => absurd (show b ∈ ([] : List Addr) from hb) (by simp), hok, .of_eq hg⟩
    refine codeAny_mono ((F _ hKb (nsK hns)).run callerA [] s₁ H ⟨[.ref a], []⟩ [.ref a] [.ref a] _ _ hr e0 (hbind s₁ (.ref a)) (.cons rfl .nil) (hsp H hO hS)) fun r s' h => ?_
    cases r with
    | error e => exact (hCX H e s' h).elim
    | ok fl =>
      cases fl with
      | next => exact False.elim h
      | brk => exact False.elim h
      | cont => exact False.elim h
      | ret u =>
        obtain ⟨v, H', os, bare, un, hok', r', q⟩ := h
        have q' : v = .bl true := q
        subst q'
        obtain rfl : u = Value.bool true := r'
        refine ⟨rfl, OldK.of_keep fun b o e => ?_, os, bare⟩
        cases q : H b with
        | none => exact un.keep b o e q (by intro z; exact absurd (show b ∈ ([] : List Addr) from z) (by simp)) (by simp)
        | some u =>
          rcases hO b with z | ⟨ob, xs, z⟩
          · rw [q] at z; cases z
          · have z2 := un.frzs b ob _ z
            obtain ⟨e1, _⟩ := hok b _ z
            obtain ⟨e2, _⟩ := hok' b _ z2
            rw [e] at e1; cases e1
            exact e2
  cases hk : K.lookup a with
  | some o =>
    -- the script is one of the module's own objects
    have e := KX a o hk
    rw [ha] at e
    cases e
    refine core (fun _ => none) (fun _ => .inl rfl) (.inr ⟨_, vs.toArray, _, hk, rfl, rfl, rfl, by rw [List.size_toArray, lenV]; exact hl, by simpa using rv⟩) (fun b u z => by have z' : (none : Option HO) = some u := z; cases z') (fun b z => absurd rfl z) fun z => absurd rfl z
  | none =>
    refine core (fun b => if b = a then some (.frz { cls := .type "list", data := .seq vs.toArray } (.lst (ns.map V.int))) else none) (fun b => ?_) (.inl (.inr ⟨{ cls := .type "list", data := .seq vs.toArray }, if_pos rfl⟩)) (fun b u z => ?_) (fun b z => ?_) fun _ => hk
    · by_cases hb : b = a
      · exact .inr ⟨_, _, if_pos hb⟩
      · exact .inl (if_neg hb)
    · by_cases hb : b = a
      · have z' := (if_pos hb).symm.trans z
        cases z'
        subst hb
        exact ⟨ha, by rw [List.length_map]; exact hl, vs, _, rv, ha⟩
      · have z' := (if_neg hb).symm.trans z
        cases z'
    · by_cases hb : b = a
      · exact hb
      · exact absurd (if_neg hb) z
end L2

namespace L2
open PySem PySem.Spec PyProof.Rows

abbrev KOf {K : PySem.W.Frag} {h : Heap} (_ : K.In h) : PySem.W.Frag := K

/-- the goal that k_head leaves (case hc), from the law's promise. F gives the function object fd (K's own) once, then the promise over every base -/
theorem walk_of {l : PySem.W.OpenLaw} {n k : Nat} {q : Program} {loose : List Str} {XP : (Str → Option Value) → Heap → Prop} {YP : World → Heap → Prop} {d : DefRec} {K : Params → PySem.W.Frag} {CX : World → CXT} {sp : World → Sp} {x : Str}
    (hn : l.most = some n) (hn2 : n ≤ sizeLine) (hdf : d.params.defaults = []) (hr : Room k callerA)
    (hY : ∀ (w : World) (h : Heap), YP w h → (K w.params).In h)
    (F : ∀ (w : World) (mg : Str → Option Value) (fa : Addr) (h : Heap), (K w.params).In h → h.Ns mainGlobals mg → mg d.name = some (.ref fa) →
      ∃ fd : FuncData, (∀ (s : Shared) (u : Value), BindsTo s fd ⟨[u], []⟩ [(x, u)]) ∧
        ∀ base : Heap, (K w.params).In base → base.Ns mainGlobals mg → FnOk l.prog w (K w.params) mg base (CX w) k fa fd [x] (sp w))
    (hsp : ∀ (w : World) (H : Hp) (a : Addr) (ns : List Int), ns.length ≤ n → Only H → SqL (K w.params) H a (ns.map V.int) → sp w [.ref a] H (fun v _ => v = .bl true) fun _ _ _ => False)
    (hCX : ∀ (w : World) (H : Hp) (s : Shared) (e : Value) (s' : Shared), CX w [] H s (fun _ _ _ => False) e s' → False) :
    PySem.W.WalkO q loose XP YP l.row.toRowW d [] (fun f vs => PySem.call f vs) := by
  refine Att.attach_call hn hdf fun w s₀ s₁ mg mb fa o pm cd doc a vs ns G Y ho hd hcd hmg hobj hints hlen hg => ?_
  have KX := hY w _ Y
  obtain ⟨fd, hb, hF⟩ := F w mg fa _ KX G.T.g hmg
  exact law_call KX G.T.g G.T.b G.T.builtins G.T.nolimit hg hobj hints (Nat.le_trans hlen hn2) hr hF hb (fun H hO hS => hsp w H a ns hlen hO hS) fun H e s' => hCX w H s₁ e s'
end L2

/- THE LAST THEOREM (shape; LID, My.* are yours):
   My.Adr: a structure of the addresses that your layer names (classes, functions); My.Txt K t: a structure (Prop) of the equations over K;
   My.txt_mk : {K} {implicit addresses ..} (e1 : nsIn K mainGlobals "law" = some (some (.ref f))) (e2 : K.lookup f = some ⟨oc, od, .func (fnOf "law" "law" params body scope dV kV doc pm an cdv ct), sl⟩) (e3 : codeIn K cdv "law" = true) .. : ∃ t, My.Txt K t

set_option maxRecDepth 100000 in
set_option maxHeartbeats 0 in
theorem PySem.Challenge.cw_LID_holds : PySem.Challenge.rw_LID.Holds := by
  w_on; o_law; k_head; (case hw => w_witness2)
  k_fill
  refine L2.walk_of (l := PySem.Challenge.rw_LID) (n := 63) (k := 40) (x := "script") (CX := fun w => ..) (sp := fun _ => My.sp_law) rfl (by decide) rfl ⟨rfl, by decide, by decide⟩ (fun w h Y => PySem.W.kIn_of Y) ?F ?S ?C
  case F =>
    intro w mg fa h KX G hmg
    have T : ∃ t, My.Txt (L2.KOf KX) t := by
      dsimp only [L2.KOf]                          -- K must stand as «<heap const> w.params» for k_is
      refine' My.txt_mk ?e1 ?e2 ?e3 ..
      (case e1 => PySem.W.k_is)                    -- in the order: a name -> its address -> its object -> its parts
      (case e2 => PySem.W.k_is)
      ..
    obtain ⟨t, T⟩ := T
    have e0 := hmg.symm.trans (PySem.W.mg_of KX G T.law)
    cases e0                                       -- fa is the law's own address
    exact ⟨_, fun s u => .of_eq rfl, fun base kb nb => My.law_fn T kb nb⟩     -- if «.of_eq rfl» comes too early: refine' ⟨_, ?b, fun base kb nb => My.law_fn T kb nb⟩; exact fun s u => .of_eq rfl
  case S => exact fun w H a ns hl hO hS => ..
  case C => exact ..
(the tactic k_is has no namespace: write k_is) -/

/-! SHORT WORDS over the layer: a def of the text, its body, what a loop and a test want. -/
namespace L2
open PySem PySem.Spec PyProof.Rows

/-! ### the text by places -/
/-- the j-th statement of a class's body -/
def inClass (s : Stmt) (j : Nat) : Stmt := match s with
  | .ClassDef _ _ _ body _ _ _ _ _ _ _ => body.getD j (.Pass ⟨0, 0, 0, 0⟩)
  | _ => .Pass ⟨0, 0, 0, 0⟩
def defArgs (s : Stmt) : Arguments := match s with
  | .FunctionDef _ a _ _ _ _ _ _ _ _ => a
  | _ => { posonlyargs := [], args := [], vararg := none, kwonlyargs := [], kw_defaults := [], kwarg := none, defaults := [] }
def defBody (s : Stmt) : List Stmt := match s with
  | .FunctionDef _ _ b _ _ _ _ _ _ _ => b
  | _ => []
def defScope (s : Stmt) : Scope := match s with
  | .FunctionDef _ _ _ _ _ _ sc _ _ _ => sc
  | _ => { kind := .function, names := [], isGenerator := false, isCoroutine := false }

/-! ### no exception leaves a def -/
abbrev CX0 : CXT := fun _ _ _ _ _ _ => False
abbrev E0 : XK := fun _ _ _ => False
theorem pass0 {X : Cx} : Passes CX0 X E0 := fun _ _ _ _ _ _ _ h => h.elim

/-! ### a def (or method) of the text as it stands behind the top -/
structure Fun (K : PySem.W.Frag) (x qual : Str) (st : Stmt) (f : Addr) (fd : FuncData) : Prop where
  ex : ∃ (oc : Value) (od : Option Addr) (kV doc pm : Value) (an : Option Addr) (cdv ct : Value) (osl : Array (Option Value)),
    fd = PySem.W.fnOf x qual (defArgs st) (defBody st) (defScope st) .none kV doc pm an cdv ct ∧ K.lookup f = some ⟨oc, od, .func fd, osl⟩ ∧ PySem.W.codeIn K cdv qual = true
  kp : PySem.W.keepIn K (.ref f) = true
section
variable {P : Program} {w : World} {K : PySem.W.Frag} {mg : Str → Option Value} {base : Heap}
/-- THE RULE for a def: its body as a term of rules, and the reading of that term -/
theorem Fun.ok {x qual : Str} {st : Stmt} {f : Addr} {fd : FuncData} {N ps : List Str} {k : Nat} {sp : Sp} (F : Fun K x qual st f fd) (S : FnScope N ps (defScope st)) (len : ∀ vs H Q E, sp vs H Q E → vs.length = ps.length)
    (hbody : ∀ (cdv : Value) (A : Around) (outer : List Env) (s : Shared) (H : Hp) (vs : List V) (Q : VK) (E : XK), Room k (A.deeper (envOfC qual (defScope st) s.heap.objs.size f cdv)) → sp vs H Q E →
      ∃ t, PSs (cxOf CX0 P w K mg base N qual (defScope st) f cdv A outer s H E).nox (defBody st) t ∧ t { nx := fun _ H' => Q .non H', rt := Q } (start N vs) H) : FnOk P w K mg base CX0 (k + 1) f fd ps sp := by
  obtain ⟨oc, od, kV, doc, pm, an, cdv, ct, osl, rfl, lk, hcd⟩ := F.ex
  refine fn_of lk hcd S len fun A outer s H vs Q E hr hsp => ?_
  obtain ⟨t, h, q⟩ := hbody cdv A outer s H vs Q E hr hsp
  exact ⟨t, h.nox, q⟩
/-- how its arguments bind (no defaults): h is «fun _ _ _ _ _ _ us hl => match us, hl with | [_, _], _ => rfl», one _ a parameter -/
theorem Fun.binds {x qual : Str} {st : Stmt} {f : Addr} {fd : FuncData} {ps : List Str} (F : Fun K x qual st f fd)
    (h : ∀ (kV doc pm : Value) (an : Option Addr) (cdv ct : Value) (us : List Value), us.length = ps.length → bindArgs (PySem.W.fnOf x qual (defArgs st) (defBody st) (defScope st) .none kV doc pm an cdv ct) ⟨us, []⟩ = pure (ps.zip us)) : Binds K fd ps [] := by
  obtain ⟨oc, od, kV, doc, pm, an, cdv, ct, osl, rfl, lk, hcd⟩ := F.ex
  exact .all (h kV doc pm an cdv ct)
theorem fun_mk {x qual : Str} {st : Stmt} {f : Addr} {oc : Value} {od an : Option Addr} {osl : Array (Option Value)} {kV doc pm cdv ct : Value} (l : K.lookup f = some ⟨oc, od, .func (PySem.W.fnOf x qual (defArgs st) (defBody st) (defScope st) .none kV doc pm an cdv ct), osl⟩)
    (c : PySem.W.codeIn K cdv qual = true) (k : PySem.W.keepIn K (.ref f) = true) : Fun K x qual st f (PySem.W.fnOf x qual (defArgs st) (defBody st) (defScope st) .none kV doc pm an cdv ct) := ⟨⟨oc, od, kV, doc, pm, an, cdv, ct, osl, rfl, l, c⟩, k⟩
end
/-! ### expressions in short: the name that stands in the i-th slot -/
section
variable {X : Cx}
theorem pv (i : Nat) {x : Str} {pos : Pos} (hN : X.N[i]? = some x := by rfl) (hv : Vis X.env.scope x := by first | exact Or.inl rfl | exact Or.inr (Or.inl rfl) | exact Or.inr (Or.inr rfl)) (hd : (x == ("__debug__" : Str)) = false := by decide)
    (hcd : (x == ("__classdict__" : Str)) = false := by decide) : PE X (.Name x pos) (tVar i) := pe_var hN hv hd hcd
end

/-! ### tests -/
theorem iteF {A B : Prop} (h : B) : if false = true then A else B := by
  rw [if_neg Bool.false_ne_true]
  exact h
theorem iteT {A B : Prop} (h : A) : if true = true then A else B := by
  rw [if_pos rfl]
  exact h
theorem ite2 {c A B : Prop} [Decidable c] (h1 : c → A) (h2 : ¬ c → B) : if c then A else B := by
  by_cases h : c
  · rw [if_pos h]
    exact h1 h
  · rw [if_neg h]
    exact h2 h
theorem iteNS {c A B : Prop} [Decidable c] (hc : c) (h : B) : if (!decide c) = true then A else B := by
  rw [decide_eq_true hc]
  exact iteF h

/-! ### heaps -/
/-- all that was tracked is as it was -/
def Same (H H' : Hp) : Prop := ∀ b o, H b = some o → H' b = some o
theorem Same.refl (H : Hp) : Same H H := fun _ _ h => h
theorem Same.trans {H H1 H2 : Hp} (a : Same H H1) (b : Same H1 H2) : Same H H2 := fun c o h => b c o (a c o h)
theorem Same.free {H H' : Hp} (e : Same H H') {l : Addr} (h : H' l = Option.none) : H l = Option.none := by
  cases q : H l with
  | none => rfl
  | some o =>
    rw [e l o q] at h
    cases h
theorem Same.seq {K : PySem.W.Frag} {H H' : Hp} {a : Addr} {xs : List V} (e : Same H H') (h : SqL K H a xs) : SqL K H' a xs := by
  rcases h with (h | ⟨o, h⟩) | h
  · exact .inl (.inl (e _ _ h))
  · exact .inl (.inr ⟨o, e _ _ h⟩)
  · exact .inr h

end L2


namespace L2
open PySem PySem.Spec PyProof.Rows
section
variable {X : Cx}
end
/-! ### a dict's pairs: keys that differ -/
section
variable {κ : Type} [DecidableEq κ]
end
end L2
/-! Exceptions of own classes without fields: raised in a def, left through defs, caught by a try around one call. -/
namespace L2
open PySem PySem.Spec PyProof.Rows

theorem objOk_get {P : Program} {w : World} {H : Hp} {h : Heap} {a : Addr} {o : HO} (x : ObjOk P w H h a o) : ∃ u, h.get? a = some u := by
  cases o with
  | lst xs => obtain ⟨_, _, _, _, e⟩ := x; exact ⟨_, e⟩
  | tup xs => obtain ⟨_, _, _, ⟨u, e, _⟩⟩ := x; exact ⟨u, e⟩
  | dK kvs => obtain ⟨_, _, _, _, u, _, _, e, _⟩ := x; exact ⟨u, e⟩
  | dT kvs => obtain ⟨_, _, _, _, u, _, _, e, _⟩ := x; exact ⟨u, e⟩
  | set S n => obtain ⟨u, _, _, _, e, _⟩ := x; exact ⟨u, e⟩
  | ins C dx fs => obtain ⟨_, _, _, e, _⟩ := x; exact ⟨_, e⟩
  | own y => exact x
  | xd fs => obtain ⟨_, ⟨u, _, _, e, _⟩, _⟩ := x; exact ⟨u, e⟩
  | rng lo hi => obtain ⟨_, _, _, e⟩ := x; exact ⟨_, e⟩
  | frz ob u => obtain ⟨e, _⟩ := x; exact ⟨_, e⟩
  | tbl ps => exact ⟨_, x⟩
  | met f y => exact ⟨_, x⟩
  | ext φ => obtain ⟨_, e, _⟩ := x; exact e

theorem free_of_none {P : Program} {w : World} {H : Hp} {h : Heap} {a : Addr} (x : HOk P w H h) (e : h.get? a = none) : H a = none := by
  cases q : H a with
  | none => rfl
  | some o =>
    obtain ⟨u, z⟩ := objOk_get (x a o q)
    rw [e] at z
    cases z

/-- an exception lies behind a call: the object a of class cls, in flight through the frames outer; B: all that is sure to stay -/
def CXr (P : Program) (w : World) : CXT := fun outer H s E e s' =>
  ∃ (a t : Addr) (cls : Value) (B : Heap) (H' : Hp), e = .ref a ∧ s'.os = s.os ∧ AllBare s'.gens ∧ Un (frs outer) [] H H' s.heap s'.heap ∧
    (∀ b o, s.heap.get? b = some o → H b = none → b ∉ frs outer → B.get? b = some o) ∧ (∀ b o, s.heap.get? b = some o → b ∉ frs outer → ∃ o', B.get? b = some o') ∧
    HOk P w H' B ∧ Heap.FlyingW B outer a cls (.ref t) s'.heap ∧ s.heap.get? a = none ∧ H' a = none ∧ E cls none H'

theorem passR0 {P : Program} {w : World} {X : Cx} : Passes (CXr P w) X E0 := fun _ _ _ _ _ _ _ h => by
  obtain ⟨_, _, _, _, _, _, _, _, _, _, _, _, _, _, _, z⟩ := h
  exact False.elim z

/-- what is tracked as a caught exception -/
def excO (a : Addr) (cls : Value) : HO := .ext fun h => ∃ o, h.get? a = some o ∧ o.cls = cls
/-- an exception has come to the frame of X; whatever the machine then writes about its way, the frame's state is the told one; ready: the object tracked -/
def Caught (X : Cx) (pins : List (Addr × Obj)) (σ : St) (a : Addr) (cls : Value) (H' : Hp) (s' : Shared) : Prop :=
  ∃ (B : Heap) (t : Addr), Heap.FlyingW B X.stack a cls (.ref t) s'.heap ∧ H' a = none ∧ ∀ h'', Heap.FlyingW B X.stack a cls (.ref t) h'' → s'.heap.UpToSlots h'' →
    Inv X pins σ H' { s' with heap := h'' } ∧ Inv X pins σ (upd H' a (excO a cls)) { s' with heap := h'' }

section
variable {X : Cx} {pins : List (Addr × Obj)} {σ : St} {H : Hp} {s s' : Shared} {E : XK} {e : Value}
end

section
variable {P : Program} {w : World} {K : PySem.W.Frag} {mg : Str → Option Value} {base : Heap} {N : List Str} {qual : Str} {scope : Scope} {f : Addr} {cd : Value} {A : Around} {outer : List Env} {s₀ : Shared} {H₀ : Hp} {E : XK}
/-- what a raise asks of the context -/
def RaiseOut (X : Cx) (E : XK) : Prop := ∀ (pins : List (Addr × Obj)) (σ : St) (H : Hp) (s : Shared) (h' : Heap) (a : Addr) (cls : Value) (vs : List Value),
  Inv X pins σ H s → Heap.MadeExcOf s.heap h' a cls vs → E cls none H → X.xe (.ref a) { s with heap := h' }
theorem raise_out : RaiseOut (cxOf (CXr P w) P w K mg base N qual scope f cd A outer s₀ H₀ E) E := by
  intro pins σ H s h' a cls vs I hx hE
  have nex : ∀ b : Addr, b ∉ ([] : List Addr) := fun b z => by simp at z
  have nfr : ∀ b o, H b = some o → b ∉ frs (envOfC qual scope s₀.heap.objs.size f cd :: outer) := fun b o q z => by
    have := I.stkFree b z
    rw [q] at this
    cases this
  have noL : ∀ b o, s₀.heap.get? b = some o → b ∉ frs outer → b ∉ frs (envOfC qual scope s₀.heap.objs.size f cd :: outer) := fun b o q hb z => by
    rcases List.mem_cons.mp (I.stkSub b z) with z | z
    · exact absurd (Heap.lt_size q) (by rw [z]; exact Nat.lt_irrefl _)
    · exact hb z
  have hokB : HOk P w H (PySem.W.hideAll s.heap (frs (envOfC qual scope s₀.heap.objs.size f cd :: outer))) := fun b o q =>
    (I.hok b o q).stay (fun c v hc z => PySem.W.hideAll_get _ z (by
      rcases hc with hc | hc
      · rw [hc]; exact nfr b o q
      · exact nfr c _ hc)) (fun _ z => z) fun _ _ z => z
  have kB : ∀ b o, s₀.heap.get? b = some o → H₀ b = none → b ∉ frs outer → (PySem.W.hideAll s.heap (frs (envOfC qual scope s₀.heap.objs.size f cd :: outer))).get? b = some o := fun b o q n hb =>
    PySem.W.hideAll_get _ (I.base.keep b o q n hb (nex b)) (noL b o q hb)
  have tB : ∀ b o, s₀.heap.get? b = some o → b ∉ frs outer → ∃ o', (PySem.W.hideAll s.heap (frs (envOfC qual scope s₀.heap.objs.size f cd :: outer))).get? b = some o' := fun b o q hb => by
    obtain ⟨o1, q1⟩ := I.base.there b o q (nex b)
    exact ⟨o1, PySem.W.hideAll_get _ q1 (noL b o q hb)⟩
  have na : s₀.heap.get? a = none := by
    cases q : s₀.heap.get? a with
    | none => rfl
    | some o =>
      obtain ⟨o1, q1⟩ := I.base.there a o q (nex a)
      rw [hx.new] at q1
      cases q1
  refine wpAny_leaves_madeW (s := { s with heap := h' }) I.ok.frames rfl (fun b o q => PySem.W.of_hideAll _ q) (PySem.W.funFrames_hide I.stack fun env he b hb => List.mem_filterMap.mpr ⟨env, he, hb⟩) hx fun h'' t fl _ _ up =>
    ⟨a, t, cls, _, H, rfl, I.os, I.bare, ?_, kB, tB, hokB, fl, na, free_of_none I.hok hx.new, hE⟩
  have slot' : ∀ b o, s₀.heap.get? b = some o → H₀ b = none → b ∈ frs outer → ∃ sl, h''.get? b = some { o with slots := sl } := fun b o q n hb => by
    obtain ⟨sl, q1⟩ := I.base.slot b o q n hb (nex b)
    obtain ⟨_, o2, q3, nf⟩ := I.funs.mem hb
    rw [q1] at q3
    cases q3
    obtain ⟨sl2, q4⟩ := up b _ (hx.keeps b _ q1) nf
    exact ⟨sl2, q4⟩
  refine ⟨fun b o q n hb _ => fl.1 b o (kB b o q n hb), fun b o q n hb _ => slot' b o q n hb, fun b o q n _ => I.base.free b o q n (nex b), fun b o q _ => ?_, I.base.tups, I.base.frzs, I.base.tbls⟩
  by_cases hb : b ∈ frs outer
  · obtain ⟨sl, q1⟩ := slot' b o q (I.ok.frf b hb) hb
    exact ⟨_, q1⟩
  · obtain ⟨o1, q1⟩ := tB b o q hb
    exact ⟨o1, fl.1 b o1 q1⟩
end

/-- a def that may raise -/
theorem okX {P : Program} {w : World} {K : PySem.W.Frag} {mg : Str → Option Value} {base : Heap} {x qual : Str} {st : Stmt} {f : Addr} {fd : FuncData} {N ps : List Str} {k : Nat} {sp : Sp} (F : Fun K x qual st f fd) (S : FnScope N ps (defScope st))
    (len : ∀ vs H Q E, sp vs H Q E → vs.length = ps.length)
    (hbody : ∀ (cdv : Value) (A : Around) (outer : List Env) (s : Shared) (H : Hp) (vs : List V) (Q : VK) (E : XK), Room k (A.deeper (envOfC qual (defScope st) s.heap.objs.size f cdv)) → sp vs H Q E →
      ∃ t, PSs (cxOf (CXr P w) P w K mg base N qual (defScope st) f cdv A outer s H E) (defBody st) t ∧ t { nx := fun _ H' => Q .non H', rt := Q } (start N vs) H) : FnOk P w K mg base (CXr P w) (k + 1) f fd ps sp := by
  obtain ⟨oc, od, kV, doc, pm, an, cdv, ct, osl, rfl, lk, hcd⟩ := F.ex
  exact fn_of lk hcd S len fun A outer s H vs Q E hr hsp => hbody cdv A outer s H vs Q E hr hsp

/-! ### raise C(..), C an own class without __init__ -/
theorem exc_cls {K : PySem.W.Frag} {h : Heap} {C : Addr} {bm : List Value} {newId : String} (X : K.In h) (q : PySem.W.excIn K C bm newId = true) :
    ∃ tl N nm qn bs hdct sn sub ab col dd k0 k1 k2 k3 k5 mN, h.get? C = some (excClassObj nm qn C N bs tl hdct sn sub ab col dd k0 k1 k2 k3 k5 newId) ∧ h.Ns N mN ∧ mN "__init__" = none ∧ OwnTail h bm tl := by
  unfold PySem.W.excIn at q
  split at q
  case h_2 => cases q
  case h_1 dd cd sl ho =>
    split at q
    case h_2 => cases q
    case h_1 C' tl k0 k1 k2 k3 n k5 hm hs =>
      simp only [Bool.and_eq_true, beq_iff_eq, Bool.not_eq_true'] at q
      obtain ⟨⟨⟨⟨⟨e1, e2⟩, hdel⟩, ht⟩, hok⟩, hni⟩ := q
      subst e1
      subst e2
      obtain ⟨nm, bs, mro, ns, qn, hd, sn, sub, ab, col, del⟩ := cd
      obtain ⟨sl⟩ := sl
      dsimp only at hm hdel hok hni hs
      subst hm
      subst hdel
      subst hs
      exact ⟨tl, ns, nm, qn, bs, hd, sn, sub, ab, col, dd, k0, k1, k2, k3, k5, _, X _ _ ho, .of_isNs (PySem.W.isNs_of_in X hok), PySem.W.nsMap_none_of_in X hok hni, PySem.W.tail_of_in X ht⟩

def tRaise (C : Addr) (E : XK) (ta : TA) : TS := fun _ σ H => ta σ H fun vs H1 => vs.length ≤ sizeLine ∧ E (.ref C) none H1
theorem ps_raise {X : Cx} {x : Str} {C : Addr} {e0 : PySem.Expr} {rest : List PySem.Expr} {ta : TA} {B newId initId : String} {bm : List Value} {E : XK} {np cpos pos : Pos} (hg : Gl X x) (hm : X.mg x = some (.ref C)) (q : PySem.W.excIn X.K C bm newId = true)
    (FB : ExcBaseFacts B newId initId bm) (hc : X.calm = true) (ho : RaiseOut X E) (ha : PA X (e0 :: rest) ta) (hdb : (x == ("__debug__" : Str)) = false := by decide)
    (he : starEach (e0 :: rest) X.env = (false, eval e0 X.env) :: starEach rest X.env := by rfl) (hpl : (backTo cpos (starEach rest X.env)).any (·.1) = false := by rfl) :
    PS X (.Raise (some (.Call (.Name x np) (e0 :: rest) [] cpos)) none pos) (tRaise C E ta) := by
  intro pins s σ H D I h
  obtain ⟨tl, N, nm, qn, bs, hdct, sn, sub, ab, col, dd, k0, k1, k2, k3, k5, mN, hC, hN, hni, TL⟩ := exc_cls I.ok.mod.kin q
  refine wpAny_Raise_call_subT (C := C) (nm := nm) (q := qn) (N := N) (bs := bs) (bm := tl) (hdct := hdct) (sn := sn) (sub := sub) (ab := ab) (col := col) (dd := dd) (k0 := k0) (k1 := k1) (k2 := k2) (k3 := k3) (k5 := k5)
    FB (mN := mN) (TL.hasType FB.hasBase) (I.ok.hd hc) ?_ hni (ld_glob I hg hm ⟨rfl, ?_⟩ hdb)
  · rw [he]
    show (false || (backTo cpos (starEach rest X.env)).any (·.1)) = false
    rw [hpl]
    rfl
  · have hargs := ha cpos pins s σ H _ I h
    rw [he] at hargs ⊢
    refine Calls.evalArgs_plain (thn hargs fun us s1 ⟨vs, H1, I1, r, z, q1⟩ => ⟨rfl, ?_, I1.bk _ _ hC, hN.keeps I1.bk, TL.keeps I1.bk, fun h' e hx => ho pins σ H1 s1 h' e _ us I1 hx q1⟩)
    rw [← r.length]
    exact z

/-! ### one call that may raise, and the try around it -/
abbrev TX := St → Hp → VK → XK → Prop
def PX (X : Cx) (e : PySem.Expr) (t : TX) : Prop :=
  ∀ (pins : List (Addr × Obj)) (s : Shared) (σ : St) (H : Hp) (Q : VK) (E : XK) (W : Value → Shared → Prop), Inv X pins σ H s → t σ H Q E → (∀ a cls H' s', Caught X pins σ a cls H' s' → E cls none H' → W (.ref a) s') →
    wpAny (model X.prog X.w) X.A (eval e X.env) (EP X pins σ Q) W s
def tXCall (sp : Sp) (dvs : List V) (t : TA) : TX := fun σ H Q E => t σ H fun vs H1 => sp (vs ++ dvs) H1 Q E
abbrev TXS := Ends → St → Hp → XK → Prop
def PXS (X : Cx) (body : List Stmt) (t : TXS) : Prop :=
  ∀ (pins : List (Addr × Obj)) (s : Shared) (σ : St) (H : Hp) (D : Ends) (E : XK) (W : Value → Shared → Prop), Inv X pins σ H s → t D σ H E → (∀ a cls H' s', Caught X pins σ a cls H' s' → E cls none H' → W (.ref a) s') →
    wpAny (model X.prog X.w) X.A (execs body X.env) (SP X pins D) W s
def tXDrop (te : TX) : TXS := fun D σ H E => te σ H (fun _ H1 => D.nx σ H1) E
def tXSet (i : Nat) (te : TX) : TXS := fun D σ H E => te σ H (fun v H1 => D.nx (σ.set i (some v)) H1) E
/-- within an except suite -/
abbrev marked (X : Cx) (a : Addr) : Cx := { X with A := X.A.mark (some (.ref a)), calm := false }
/-- try: body / except C as n: suite. tb the body's reading, th the suite's for the exception's address -/
def tTry (K : PySem.W.Frag) (C : Addr) (i : Nat) (tb : TXS) (th : Addr → TS) : TS := fun D σ H => tb D σ H fun cls _ H' => PySem.W.exmOne K cls (.ref C) = some true ∧ ∀ a, H' a = none →
  th a { nx := fun σ2 H2 => D.nx (σ2.set i none) H2, rt := D.rt, bk := fun σ2 H2 => D.bk (σ2.set i none) H2, ct := fun σ2 H2 => D.ct (σ2.set i none) H2 } (σ.set i (some (.ref a))) (upd H' a (excO a cls))
end L2
/-! List comprehensions of one clause without a test, its target one name. -/
namespace L2
open PySem PySem.Spec PyProof.Rows

def cxComp (X : Cx) (scope : Scope) (cl : List (Str × Addr)) (C : Addr) (Nc : List Str) (ex : List Addr) (pins : List (Addr × Obj)) (s₀ : Shared) (H₀ : Hp) : Cx where
  prog := X.prog
  w := X.w
  K := X.K
  mg := X.mg
  base := X.base
  A := X.A
  N := Nc
  s₀ := s₀
  H₀ := H₀
  env := compEnvC scope cl C X.env
  outer := X.stack
  stack := X.stack
  ex := ex
  fn := fun y => scope.names.lookup y == some .local
  calm := true
  pn := X.pn ++ pins
  xe := fun _ _ => False

/-- what is asked of a comprehension's scope: cl its captured names, cap the names that it sees of the def's (the inner slot, the outer slot) -/
structure CompScope (X : Cx) (scope : Scope) (cl : List (Str × Addr)) (Nc : List Str) (cap : List (Nat × Nat)) : Prop where
  clos : closureFor scope X.env = pure cl
  kind : scope.kind = .function
  names : ∀ y ∈ scope.names, y.2 = .local → scope.names.lookup y.1 = some .local
  nocell : ∀ y ∈ scope.names, y.2 ≠ .cell
  sub : ∀ x c, cl.lookup x = some c → X.env.cells.lookup x = some c ∧ scope.names.lookup x ≠ some .local
  has : ∀ x, ((relabel scope X.env).names.lookup x = some .cell ∨ (relabel scope X.env).names.lookup x = some .free) → ∃ c, cl.lookup x = some c
  caps : ∀ j i, (j, i) ∈ cap → ∃ x c, Nc[j]? = some x ∧ X.N[i]? = some x ∧ cl.lookup x = some c ∧ X.env.scope.names.lookup x = some .cell ∧ (relabel scope X.env).names.lookup x = some .cell

/-- the same from facts about written lists -/
theorem comp_mk {X : Cx} {scope : Scope} {cl : List (Str × Addr)} {Nc : List Str} {cap : List (Nat × Nat)} (clos : closureFor scope X.env = pure cl) (kind : scope.kind = .function) (names : ∀ y ∈ scope.names, y.2 = .local → scope.names.lookup y.1 = some .local) (nocell : ∀ y ∈ scope.names, y.2 ≠ .cell)
    (subs : ∀ p ∈ cl, X.env.cells.lookup p.1 = some p.2 ∧ scope.names.lookup p.1 = some .free) (hass : ((relabel scope X.env).names.all fun p => (p.2 != .cell && p.2 != .free) || (cl.lookup p.1).isSome) = true)
    (caps : ∀ p ∈ cap, ∃ x c, Nc[p.1]? = some x ∧ X.N[p.2]? = some x ∧ cl.lookup x = some c ∧ X.env.scope.names.lookup x = some .cell ∧ (relabel scope X.env).names.lookup x = some .cell) : CompScope X scope cl Nc cap :=
  ⟨clos, kind, names, nocell, fun x c e => ⟨(subs (x, c) (PySem.mem_of_lookup e)).1, fun z => by
    have := (subs (x, c) (PySem.mem_of_lookup e)).2
    rw [z] at this
    cases this⟩, fun x e => by
    have key : ∀ k, (relabel scope X.env).names.lookup x = some k → (k = .cell ∨ k = .free) → ∃ c, cl.lookup x = some c := fun k e hk => by
      have := List.all_eq_true.mp hass (x, k) (PySem.mem_of_lookup e)
      rcases hk with rfl | rfl
      · exact Option.isSome_iff_exists.mp (by simpa using this)
      · exact Option.isSome_iff_exists.mp (by simpa using this)
    rcases e with e | e
    · exact key _ e (.inl rfl)
    · exact key _ e (.inr rfl), fun j i m => caps (j, i) m⟩
/-- the inner slots at the entry -/
def capSt (n : Nat) (cap : List (Nat × Nat)) (σ : St) : St := (List.range n).map fun j => ((cap.find? fun p => p.1 == j).bind fun p => σ[p.2]?).bind id

theorem capSt_get {n : Nat} {cap : List (Nat × Nat)} {σ : St} {j : Nat} {v : V} (h : (capSt n cap σ)[j]? = some (some v)) : ∃ i, (j, i) ∈ cap ∧ σ[i]? = some (some v) := by
  unfold capSt at h
  rw [List.getElem?_map] at h
  cases e : (List.range n)[j]? with
  | none => rw [e] at h; cases h
  | some k =>
    rw [e] at h
    have hk : k = j := by
      obtain ⟨hl, q⟩ := List.getElem?_eq_some_iff.mp e
      rw [List.getElem_range] at q
      exact q.symm
    subst hk
    simp only [Option.map_some, Option.some.injEq] at h
    cases f : cap.find? fun p => p.1 == k with
    | none => rw [f] at h; cases h
    | some p =>
      rw [f] at h
      have h1 := List.mem_of_find?_eq_some f
      have h2 : p.1 = k := by
        have := List.find?_some f
        exact eq_of_beq this
      refine ⟨p.2, ?_, ?_⟩
      · rw [← h2]; exact h1
      · simp only [Option.bind_some] at h
        cases g : σ[p.2]? with
        | none => rw [g] at h; cases h
        | some o => rw [g] at h; simpa using h

section
variable {X : Cx} {pins : List (Addr × Obj)} {σ : St} {H : Hp} {s : Shared} {scope : Scope} {cl : List (Str × Addr)} {Nc : List Str} {cap : List (Nat × Nat)} {fp : List Addr}
theorem inv_comp (I : Inv X pins σ H s) (hcalm : X.calm = true) (S : CompScope X scope cl Nc cap) (hfp : ∀ b ∈ fp, FpOk X pins H b) (hob : ∀ b ∈ fp, ∃ o, s.heap.get? b = some o) {C : Addr} {h1 : Heap} {m : Str → Option Value} {tk : Nat} (hC : s.heap.objs.size ≤ C)
    (hn : h1.Ns C m) (keep : ∀ b o, s.heap.get? b = some o → h1.get? b = some o) : Inv (cxComp X scope cl C Nc fp pins s H) [] (capSt Nc.length cap σ) H { s with heap := h1, toks := tk } := by
  have neC : ∀ b o, s.heap.get? b = some o → b ≠ C := fun b o e => Nat.ne_of_lt (Nat.lt_of_lt_of_le (Heap.lt_size e) hC)
  refine ⟨⟨I.ok.mod, S.kind, I.ok.glob, I.ok.blt, hC, fun x y c e1 e2 => ?_, fun x hx => S.has x hx, fun x c e1 e2 => ?_, fun _ => I.ok.hd hcalm, I.ok.frames, .inl rfl, fun b hb => ⟨?_, fun x c e => ?_⟩, I.bs, Nat.le_trans I.ok.bsz I.sz, fun b o e hb => ?_, fun b hb z => ?_, I.stack, I.stkFree⟩,
    rfl, I.bare, Un.kept keep, ⟨m, hn, fun j x v e1 e2 e3 => ?_⟩, fun x c e => ?_, I.hok.fresh hC, fun x c e => ?_, fun p hp => ?_, I.hok.kept keep, ?_⟩
  · exact I.ok.inj x y c (S.sub x c e1).1 (S.sub y c e2).1
  · exact absurd (beq_iff_eq.mp e1) (S.sub x c e2).2
  · obtain ⟨o, e⟩ := hob b hb
    exact neC b o e
  · exact (hfp b hb).2.2.2.2.1 x c (S.sub x c e).1
  · rcases (hfp b hb).2.2.2.1 with z | z
    · exact I.ok.noex b o e z
    · exact absurd (Nat.lt_of_lt_of_le (Heap.lt_size e) (Nat.le_trans I.ok.bsz z)) (Nat.lt_irrefl _)
  · rcases List.mem_cons.mp (I.stkSub b z) with z | z
    · exact (hfp b hb).2.1 z
    · exact (hfp b hb).2.2.1 z
  · obtain ⟨i, hm, hv⟩ := capSt_get e2
    obtain ⟨x', c, q1, q2, q3, q4, q5⟩ := S.caps j i hm
    have e1' : Nc[j]? = some x := e1
    rw [q1] at e1'
    cases e1'
    obtain ⟨mo, _, hl⟩ := I.loc
    obtain ⟨u, r, l⟩ := hl i x v q2 hv (.inr (.inl q4))
    refine ⟨u, r, ?_⟩
    rcases l with ⟨k, _⟩ | ⟨_, c', e', z⟩
    · have k' : X.env.scope.names.lookup x = some .local := k
      rw [q4] at k'
      cases k'
    · have : c' = c := Option.some.inj (e'.symm.trans (S.sub x c q3).1)
      subst this
      obtain ⟨o, ho, hd⟩ := z
      exact .inr ⟨.inl q5, c', q3, ⟨o, keep _ _ ho, hd⟩⟩
  · obtain ⟨v, o, ho, hd⟩ := I.cell x c (S.sub x c e).1
    exact ⟨v, o, keep _ _ ho, hd⟩
  · exact I.freeC x c (S.sub x c e).1
  · have hp' : p ∈ X.pn ++ pins := by
      have z : p ∈ (X.pn ++ pins) ++ [] := hp
      rw [List.append_nil] at z
      exact z
    obtain ⟨e, n, ne, nf, d⟩ := I.pin p hp'
    refine ⟨keep _ _ e, n, neC _ _ e, fun z => ?_, d⟩
    rcases List.mem_cons.mp (I.stkSub p.1 z) with z | z
    · exact ne z
    · exact nf z
  · show (capSt Nc.length cap σ).length = Nc.length
    unfold capSt
    rw [List.length_map, List.length_range]

/-- back in the def -/
theorem comp_back (I : Inv X pins σ H s) (hfp : ∀ b ∈ fp, FpOk X pins H b) {C : Addr} {σc : St} {H' : Hp} {s' : Shared} {h' : Heap} (J : Inv (cxComp X scope cl C Nc fp pins s H) [] σc H' s') (hs : Heap.SameBut C s'.heap h') : Inv X pins σ H' { s' with heap := h' } := by
  have hC : s.heap.objs.size ≤ C := J.ok.above
  have neC : ∀ b o, s.heap.get? b = some o → b ≠ C := fun b o e => Nat.ne_of_lt (Nat.lt_of_lt_of_le (Heap.lt_size e) hC)
  have u := J.base
  refine I.call' (s' := { s' with heap := h' }) (ch := fp) J.os ⟨fun b o e n hb hx => ?_, fun b o e n hb hx => ?_, u.free, fun b o e hx => ?_, u.tups, u.frzs, u.tbls⟩ (fun b o e => ?_) J.bare fun b hb => ⟨(hfp b hb).2.2.2.1, (hfp b hb).2.1, (hfp b hb).2.2.2.2.1, (hfp b hb).2.2.2.2.2⟩
  · exact (hs.2 b (neC b o e)).trans (u.keep b o e n hb hx)
  · obtain ⟨sl, q⟩ := u.slot b o e n hb hx
    exact ⟨sl, (hs.2 b (neC b o e)).trans q⟩
  · obtain ⟨o', q⟩ := u.there b o e hx
    exact ⟨o', (hs.2 b (neC b o e)).trans q⟩
  · refine (J.hok b o e).stay (fun c v hc q => (hs.2 c ?_).trans q) (fun _ q => q) fun _ _ q => q
    intro z
    subst z
    have fr : H' c = none := J.free
    rcases hc with hc | hc
    · rw [hc] at fr; rw [fr] at e; cases e
    · rw [fr] at hc; cases hc
end

/-- the reading: acc the new list; W: the turn, a measure, what the list holds, the inner slots, the heap -/
def tComp (n : Nat) (cap : List (Nat × Nat)) (wi : TI) (g : TG) (te : TE) : TE := fun σ H Q => wi σ H fun J H1 => ∀ acc, H1 acc = none →
  ∃ W : Nat → Nat → List V → St → Hp → Prop, (∃ m, W 0 m [] (capSt n cap σ) (upd H1 acc (.lst []))) ∧ ∀ i m ys σc H2, W i m ys σc H2 →
    (J.stop i H2 ∧ Q (.ref acc) H2) ∨ (J.go i H2 ∧ ∀ x H3, J.yld i H2 x H3 → g x σc H3 fun σ4 H4 => te σ4 H4 fun v H5 => H5 acc = some (.lst ys) ∧ ys.length < sizeLine ∧ ∃ m', m' < m ∧ W (i + 1) m' (ys ++ [v]) σ4 (upd H5 acc (.lst (ys ++ [v]))))

theorem pe_comp {X : Cx} {elt iter : PySem.Expr} {x : Str} {px pos : Pos} {scope : Scope} {cl : List (Str × Addr)} {Nc : List Str} {cap : List (Nat × Nat)} {wi : TI} {g : TG} {te : TE} (hc : X.calm = true) (hi : PI X (.Name x px) iter wi) (S : CompScope X scope cl Nc cap)
    (hg : ∀ C fp pins s H, PG (cxComp X scope cl C Nc fp pins s H) (.Name x px) g) (he : ∀ C fp pins s H, PE (cxComp X scope cl C Nc fp pins s H) elt te)
    (hs : ∀ y, foldedSetIterable iter X.env y = pure y := by intro _; rfl) : PE X (.ListComp elt [⟨.Name x px, iter, [], 0⟩] scope pos) (tComp Nc.length cap wi g te) := by
  intro pins s σ H Q I h
  rw [eval_ListComp]
  refine wpAny_comprehension_free (use := none) (cl := cl) rfl hs S.clos S.kind S.names ?_
  show wpAny _ _ (eval iter X.env) _ _ _
  refine thn (hi pins s σ H _ I h) fun v s1 h1 => thn h1 fun itv s2 h2 => ?_
  obtain ⟨it, fp, tn, J, H2, e, I2, T, st2, f2, rd⟩ := h2
  subst e
  refine wpAny_newObj_type ?_
  have hacc : H2 s2.heap.objs.size = none := I2.hok.fresh (Nat.le_refl _)
  obtain ⟨W, ⟨m0, w0⟩, turn⟩ := rd s2.heap.objs.size hacc
  -- the list is tracked
  have I3 : Inv X pins σ (upd H2 s2.heap.objs.size (.lst [])) { s2 with heap := s2.heap.push { cls := .type "list", dict := none, data := .seq ([] : List Value).toArray } } :=
    I2.laid (t' := s2.toks) (fun b u e => Heap.get?_push_of_some _ e) (Nat.le_refl _) ⟨Nat.zero_le _, [], 0, .nil, Heap.get?_push_size _ rfl⟩
  have st3 : tn 0 (s2.heap.push { cls := .type "list", dict := none, data := .seq ([] : List Value).toArray }) := T.keep _ _ _ st2 fun b _ o e => Heap.get?_push_of_some _ e
  have f3 : ∀ b ∈ fp, FpOk X pins (upd H2 s2.heap.objs.size (.lst [])) b := fun b hb => by
    obtain ⟨o, e, _⟩ := T.obj _ _ st2 b hb
    refine ⟨?_, (f2 b hb).2⟩
    rw [upd_ne (Nat.ne_of_lt (Heap.lt_size e))]
    exact (f2 b hb).1
  generalize hh3 : s2.heap.push { cls := .type "list", dict := none, data := .seq ([] : List Value).toArray } = h3 at I3 st3 ⊢
  generalize hH3 : upd H2 s2.heap.objs.size (.lst []) = H3 at I3 f3 w0
  generalize s2.heap.objs.size = acc at *
  refine wpAny_newFunctionEnv S.nocell (by intro y hy; simp at hy) (fun h4 hns hsb => ?_) S.kind
  dsimp only at hns hsb ⊢
  have keep : ∀ b o, h3.get? b = some o → h4.get? b = some o := fun b o e => hsb.extBut b o (Nat.ne_of_lt (Heap.lt_size e)) (Heap.get?_push_of_some _ e)
  have f0 : ∀ b ∈ fp, ∃ o, h3.get? b = some o := fun b hb => by
    obtain ⟨o, e, _⟩ := T.obj _ _ st3 b hb
    exact ⟨o, e⟩
  have I4 := inv_comp (tk := s2.toks + ([] : List (Str × Value)).length) I3 hc S f3 f0 (C := h3.objs.size) (Nat.le_refl _) hns keep
  have st4 : tn 0 h4 := T.keep _ _ _ st3 fun b _ o e => keep b o e
  have stat : ∀ {H' : Hp}, (∀ b ∈ fp, H' b = none) → ∀ b ∈ fp, FpOk (cxComp X scope cl h3.objs.size Nc fp pins { s2 with heap := h3 } H3) [] H' b := fun hn b hb => by
    obtain ⟨o, e⟩ := f0 b hb
    refine ⟨hn b hb, Nat.ne_of_lt (Heap.lt_size e), I4.ok.exfs b hb, .inl hb, fun x c q => (f3 b hb).2.2.2.2.1 x c (S.sub x c q).1, fun p hp => ?_⟩
    have z : p ∈ (X.pn ++ pins) ++ [] := hp
    rw [List.append_nil] at z
    exact (f3 b hb).2.2.2.2.2 p z
  have loop : codeAny (model X.prog X.w) X.A (.compLoop (.ListComp elt [⟨.Name x px, iter, [], 0⟩] scope pos) 0 (.ref it) (.ref acc) (compEnvC scope cl h3.objs.size X.env)) (compPost (model X.prog X.w) X.A X.xe none (EP X pins σ Q) (.ref acc) h3.objs.size)
      { s2 with heap := h4, toks := s2.toks + ([] : List (Str × Value)).length } := by
    refine codeAny_compLoop_list (fun n s' => ∃ i ys σ' H', Inv (cxComp X scope cl h3.objs.size Nc fp pins { s2 with heap := h3 } H3) [] σ' H' s' ∧ tn i s'.heap ∧ (∀ b ∈ fp, H' b = none) ∧ W i n ys σ' H') ?_ m0 ⟨0, [], _, H3, I4, st4, fun b hb => (f3 b hb).1, w0⟩
    rintro n s5 ⟨i, ys, σ5, H5, I5, st5, fr5, w5⟩
    rcases turn i n ys σ5 H5 w5 with ⟨stop, qn⟩ | ⟨go, step⟩
    · refine thn (T.done (cxComp X scope cl h3.objs.size Nc fp pins { s2 with heap := h3 } H3) rfl rfl rfl rfl i [] s5 σ5 H5 _ I5 (stat fr5) st5 stop) fun r s6 ⟨hr, I6⟩ => ?_
      subst hr
      obtain ⟨m6, hn6, _⟩ := I6.loc
      exact ⟨m6, hn6, fun h7 hs7 => ⟨.ref acc, H5, comp_back I3 f3 I6 hs7, rfl, qn⟩⟩
    · refine wpAny_mono (T.item (cxComp X scope cl h3.objs.size Nc fp pins { s2 with heap := h3 } H3) rfl rfl rfl rfl i [] s5 σ5 H5 (fun _ _ => False) I5 (stat fr5) st5 go) (fun r s6 ⟨u, hr, h6⟩ => ?_) fun _ _ z => False.elim z
      subst hr
      have ht : letOwnedTupleGo (.Name x px) (.ref it) u = pure () := rfl
      show wpAny (model X.prog X.w) X.A (assign (.Name x px) (compEnvC scope cl h3.objs.size X.env) u) _ _ s6
      have goal : wpAny (model X.prog X.w) X.A (letOwnedTupleGo (.Name x px) (.ref it) u >>= fun _ => assign (.Name x px) (compEnvC scope cl h3.objs.size X.env) u) (fun _ s₂ => wpAny (model X.prog X.w) X.A (eval elt (compEnvC scope cl h3.objs.size X.env)) (fun y s₃ =>
          wpAny (model X.prog X.w) X.A (call (.builtin "list.append") [.ref acc, y]) (fun _ s₄ => ∃ m, m < n ∧ ∃ i ys σ' H', Inv (cxComp X scope cl h3.objs.size Nc fp pins { s2 with heap := h3 } H3) [] σ' H' s₄ ∧ tn i s₄.heap ∧ (∀ b ∈ fp, H' b = none) ∧ W i m ys σ' H') (fun _ _ => False) s₃) (fun _ _ => False) s₂) (fun _ _ => False) s6 := by
        refine wpAny_bind (thn h6 fun _ s7 ⟨y, H7, I7, r7, y7, st7, fr7⟩ => ?_)
        have I7' := I7.pinned (stat fr7) (T.obj _ _ st7)
        have kp : ∀ {σ8 : St} {H8 : Hp} {s8 : Shared}, Inv (cxComp X scope cl h3.objs.size Nc fp pins { s2 with heap := h3 } H3) ([] ++ pinsAt fp s7.heap) σ8 H8 s8 → tn (i + 1) s8.heap ∧ ∀ b ∈ fp, H8 b = none := fun {σ8 H8 s8} I8 =>
          ⟨T.keep _ _ _ st7 fun b hb o e => (I8.pin (b, o) (List.mem_append_right _ (List.mem_append_right _ (mem_pinsAt hb e)))).1, fun b hb => by
            obtain ⟨o, e, d⟩ := T.obj _ _ st7 b hb
            exact (I8.pin (b, o) (List.mem_append_right _ (List.mem_append_right _ (mem_pinsAt hb e)))).2.1⟩
        refine thn (hg _ _ _ _ _ _ s7 σ5 H7 y u _ I7' r7 (step y H7 y7)) fun _ s8 ⟨σ8, H8, I8, q8⟩ => ?_
        refine thn (he _ _ _ _ _ _ s8 σ8 H8 _ I8 q8) fun w9 s9 ⟨v9, H9, I9, r9, e9, l9, m', hm, q9⟩ => ?_
        refine thn (mt_append _ s9 σ8 H9 (.ref acc) [v9] (.ref acc) [w9] (fun _ H10 => W (i + 1) m' (ys ++ [v9]) σ8 H10) I9 rfl (.cons r9 .nil) ⟨acc, ys, v9, rfl, rfl, e9, l9, q9⟩) fun _ s10 ⟨_, H10, I10, _, q10⟩ => ?_
        obtain ⟨st10, fr10⟩ := kp I10
        exact ⟨m', hm, i + 1, ys ++ [v9], σ8, H10, I10.unpinned, st10, fr10, q10⟩
      rw [ht] at goal
      refine wpAny_mono (show wpAny (model X.prog X.w) X.A (assign (.Name x px) (compEnvC scope cl h3.objs.size X.env) u) _ _ s6 from goal) (fun _ s7 h7 => ?_) fun _ _ z => False.elim z
      refine wpAny_mono h7 (fun y s8 h8 => ?_) fun _ _ z => False.elim z
      exact wpAny_mono h8 (fun _ _ z => z) fun _ _ z => False.elim z
  exact codeAny_compStart_list loop (T.self _ 0 _ _ _ st4 loop)
end L2
/-! More operations: big products and quotients, range with a step, isinstance, is, all. -/
namespace L2
open PySem PySem.Spec PyProof.Rows
section
variable {X : Cx}
/-- a size that every number of the laws keeps -/
def Big (i : Int) : Prop := i.natAbs < 2 ^ 8000
theorem big_log {i : Int} (h : Big i) : i.natAbs.log2 < 8000 := by
  by_cases z : i.natAbs = 0
  · rw [z]; decide
  · exact (Nat.log2_lt z).mpr h
theorem big_bits {i : Int} (h : Big i) : Builtin.Int.intBits i ≤ 8001 := by
  have := big_log h
  unfold Builtin.Int.intBits
  split <;> omega
def CMulB (i j : Int) : Prop := Big i ∧ Big j
theorem op_mulB : OpR X (binaryOp .Mult) (rI CMulB fun i j => .int (i * j)) := opI fun _ _ _ _ _ _ _ hc q => mul_int q (IntMulOk.of_bits (Nat.le_trans (big_bits hc.1) (by decide)) (Nat.le_trans (big_bits hc.2) (by decide)))
def CDivB (_ j : Int) : Prop := j ≠ 0 ∧ Big j
theorem op_fdivB : OpR X (binaryOp .FloorDiv) (rI CDivB fun i j => .int (i.fdiv j)) := opI fun _ _ _ _ _ _ _ hc q => floordiv_int hc.1 q (.inl (PyProof.noPylong_of_log2 (by have := big_log hc.2; omega)))
/-! range(lo, hi, step) -/
def Its (lo step : Int) (n : Nat) : It := ⟨fun i _ => i < n, fun i H x H' => H' = H ∧ x = .int (lo + i * step), fun i _ => n ≤ i⟩
def iRng3 (ta : TA) : TI := fun σ H R => ta σ H fun vs H1 => ∃ i j c : Int, vs = [.int i, .int j, .int c] ∧ 0 < c ∧ c < 1000 ∧ Builtin.Range.small i j c = true ∧ R (Its i c (Builtin.Range.rangeSize i j c).toNat) H1
/-! isinstance -/
def rIsi (K : PySem.W.Frag) (c : V) (cv : Value) : List V → Hp → VK → Prop := fun xs H Q => ∃ x t b, xs = [x, c] ∧ TyOf K H x t ∧ PySem.W.kitOne K t cv = some b ∧ Q (.bl b) H
theorem call_isi {c : V} {cv : Value} (hc : ∀ u, RelV c u → u = cv) : CallR X (.builtin "isinstance") (rIsi X.K c cv) := by
  intro pins s σ H xs us Q I r h
  obtain ⟨x, t, b, rfl, ty, e, q⟩ := h
  obtain ⟨u, w', rfl, r1, r2⟩ := vals2 r
  cases hc w' r2
  exact isinst_ok I r1 ty e fun tk => ⟨.bl b, H, I.tok _, rfl, q⟩
end
end L2
namespace L2
open PySem PySem.Spec PyProof.Rows
theorem bt_isinstance : bootBuiltins "isinstance" = some (.builtin "isinstance") := by decide +kernel
theorem bt_int : bootBuiltins "int" = some (.type "int") := by decide +kernel
theorem bt_bool : bootBuiltins "bool" = some (.type "bool") := by decide +kernel
theorem bt_tuple : bootBuiltins "tuple" = some (.type "tuple") := by decide +kernel
theorem bt_all : bootBuiltins "all" = some (.builtin "all") := by decide +kernel
theorem bt_len : bootBuiltins "len" = some (.builtin "len") := by decide +kernel
theorem bt_abs : bootBuiltins "abs" = some (.builtin "abs") := by decide +kernel
theorem bt_min : bootBuiltins "min" = some (.builtin "min") := by decide +kernel
theorem kit_self (K : PySem.W.Frag) (t : Value) : PySem.W.kitOne K t t = some true := by
  unfold PySem.W.kitOne
  rw [if_pos (beq_self_eq_true t)]
theorem kit_int_bool (K : PySem.W.Frag) : PySem.W.kitOne K (.type "int") (.type "bool") = some false := by first | rfl | decide +kernel | kernel_rfl
section
variable {X : Cx}
def rIsiX (K : PySem.W.Frag) (c : V) (cv : Value) : List V → Hp → VK → Prop := fun xs H Q => ∃ a cls, xs = [.ref a, c] ∧ H a = some (excO a cls) ∧ PySem.W.kitOne K cls cv = some true ∧ Q (.bl true) H
end
end L2
/-! all of a list of truths; a loop over zip of two lists -/
namespace L2
open PySem PySem.Spec PyProof.Rows
section
variable {X : Cx}
theorem vals_bl : ∀ {bs : List Bool} {us : List Value}, Vals (bs.map V.bl) us → us = bs.map Value.bool
  | [], _, .nil => rfl
  | b :: r, _, .cons (b := u) h t => by
    have h' : u = Value.bool b := h
    rw [h', vals_bl t]
    rfl
def rAll (K : PySem.W.Frag) : List V → Hp → VK → Prop := fun xs H Q => ∃ (p : Addr) (bs : List Bool), xs = [.ref p] ∧ SqL K H p (bs.map V.bl) ∧ Q (.bl (bs.all id)) H
theorem all_range (bs : List Bool) : ((List.range bs.length).all fun i => (bs[i]?).getD true) = bs.all id := by
  rw [Bool.eq_iff_iff, List.all_eq_true, List.all_eq_true]
  constructor
  · intro h b hb
    obtain ⟨i, hi, rfl⟩ := List.mem_iff_getElem.mp hb
    have := h i (List.mem_range.mpr hi)
    rw [List.getElem?_eq_getElem hi] at this
    exact this
  · intro h i hi
    have hl := List.mem_range.mp hi
    rw [List.getElem?_eq_getElem hl]
    exact h _ (List.getElem_mem hl)
theorem call_allB (hc : X.calm = true) : CallR X (.builtin "all") (rAll X.K) := by
  intro pins s σ H xs us Q I r h
  obtain ⟨p, bs, rfl, hq, q⟩ := h
  obtain ⟨u, rfl, r1⟩ := vals1 r
  cases r1
  obtain ⟨its, rv, pl, hz⟩ := I.list hq
  have e := vals_bl rv
  subst e
  have hlt : p < s.heap.objs.size := by
    obtain ⟨o, _, ho, _⟩ := pl
    exact Heap.lt_size ho
  refine call_all_walk (wpAny_pyIter_list pl.isList ?_)
  refine ⟨s.heap.objs.size, _, _, _, _, _, fun i => (bs[i]?).getD true, rfl, Walks.list (show X.A.in1.handled = none from I.ok.hd hc) _ p (Nat.ne_of_lt hlt) (bs.map Value.bool).toArray, ⟨⟨_, Heap.get?_push_size _ rfl, rfl, rfl⟩, pl.isList.push _⟩, fun i v s' Q' E' hP hQ' => ?_, fun h' tk k => ?_⟩
  · have hP : (bs.map Value.bool).toArray[i]? = some v := hP
    have hQ' : Q' ((bs[i]?).getD true) s' := hQ'
    rw [List.getElem?_toArray, List.getElem?_map] at hP
    cases e : bs[i]? with
    | none => rw [e] at hP; cases hP
    | some b =>
      rw [e] at hP
      obtain rfl : Value.bool b = v := Option.some.inj hP
      have hQ2 : Q' b s' := by
        rw [e] at hQ'
        exact hQ'
      exact wpAny_pure hQ2
  · refine ⟨.bl (bs.all id), H, I.kept fun b o eb => ?_, ?_, q⟩
    · exact k b o (fun z => by
        have : b = s.heap.objs.size := by simpa using z
        exact absurd (Heap.lt_size eb) (by rw [this]; exact Nat.lt_irrefl _)) (Heap.get?_push_of_some _ eb)
    · show Value.bool _ = Value.bool _
      rw [List.size_toArray, List.length_map, all_range]

end
end L2
/-! a loop over enumerate of a tuple; insert; the least of a tuple of numbers; two lists of numbers -/
namespace L2
open PySem PySem.Spec PyProof.Rows
section
variable {prog : Program} {w : World} {A : Around} {E : Value → Shared → Prop} {s : Shared}
theorem nextT_item {c t : Addr} {k : Nat} {vs : Array Value} {y : Value} {Q : Value → Shared → Prop} (hc : s.heap.IsTupleIter c t k) (ht : s.heap.IsTuple t vs) (hy : vs[k]? = some y)
    (hQ : ∀ h', h'.IsTupleIter c t (k + 1) → Heap.SameBut c s.heap h' → Q y { s with heap := h' }) : wpAny (model prog w) A (Builtin.SmallTypes.nextOf (.ref c)) Q E s := by
  obtain ⟨ob, e1, e2, e3⟩ := id hc
  obtain ⟨ot, f1, _, nt, f2⟩ := ht
  unfold Builtin.SmallTypes.nextOf
  refine wpAny_bind (wpAny_callSpecial?_slot (name := Str.ofString "__next__") hc.typeIs PySem.F.slot_tuple_iterator_next (wpAny_call_entry PySem.F.slot_tuple_iterator_next hc.typeIs PySem.F.entry_tuple_iterator_next ?_ (PySem.F.args_tuple_iterator_next_1 _)))
  show wpAny _ _ (field (.ref c) 0 >>= _) _ _ s
  refine wpAny_bind (wpAny_field e1 e3 (x := .ref t) rfl ?_)
  show wpAny _ _ (if (Value.ref t == Value.none) = true then _ else _) _ _ _
  rw [if_neg (show ¬ ((Value.ref t == Value.none) = true) by exact Bool.false_ne_true)]
  show wpAny _ _ (field (.ref c) 1 >>= _) _ _ s
  refine wpAny_bind (wpAny_field e1 e3 (x := .int k 0) rfl ?_)
  show wpAny _ _ (seqItems? (.ref t) >>= _) _ _ _
  refine wpAny_bind (wpAny_seqItems f1 f2 ?_)
  simp only [Int.toNat_natCast, hy]
  refine wpAny_bind (wpAny_setField e1 e3 (by simp) (wpAny_pure ⟨y, rfl, wpAny_pure (hQ _ ?_ (Heap.SameBut.update ..))⟩))
  exact ⟨_, Heap.get?_update_self _ e1 (Obj.isFreed_of_fields (Obj.data_mapFields e3 _)), (Obj.cls_mapFields ..).trans e2, by rw [Obj.data_mapFields e3]; simp [rawInt]⟩
theorem nextT_end {c t : Addr} {k : Nat} {vs : Array Value} {Q : Value → Shared → Prop} (hh : A.handled = none) (hc : s.heap.IsTupleIter c t k) (ht : s.heap.IsTuple t vs) (hy : vs[k]? = none)
    (hE : ∀ h' x, Heap.ExtBut c s.heap h' → (∃ o, h'.get? x = some o ∧ o.cls = .type "StopIteration") → E (.ref x) { s with heap := h' }) : wpAny (model prog w) A (Builtin.SmallTypes.nextOf (.ref c)) Q E s := by
  obtain ⟨ob, e1, e2, e3⟩ := id hc
  obtain ⟨ot, f1, _, nt, f2⟩ := ht
  unfold Builtin.SmallTypes.nextOf
  refine wpAny_bind (wpAny_callSpecial?_slot (name := Str.ofString "__next__") hc.typeIs PySem.F.slot_tuple_iterator_next (wpAny_call_entry PySem.F.slot_tuple_iterator_next hc.typeIs PySem.F.entry_tuple_iterator_next ?_ (PySem.F.args_tuple_iterator_next_1 _)))
  show wpAny _ _ (field (.ref c) 0 >>= _) _ _ s
  refine wpAny_bind (wpAny_field e1 e3 (x := .ref t) rfl ?_)
  show wpAny _ _ (if (Value.ref t == Value.none) = true then _ else _) _ _ _
  rw [if_neg (show ¬ ((Value.ref t == Value.none) = true) by exact Bool.false_ne_true)]
  show wpAny _ _ (field (.ref c) 1 >>= _) _ _ s
  refine wpAny_bind (wpAny_field e1 e3 (x := .int k 0) rfl ?_)
  show wpAny _ _ (seqItems? (.ref t) >>= _) _ _ _
  refine wpAny_bind (wpAny_seqItems f1 f2 ?_)
  simp only [Int.toNat_natCast, hy]
  refine wpAny_bind (wpAny_rule (wpAny_bind (wpAny_setField e1 e3 (by simp) ?_)))
  show wpAny _ _ (newExc (.type "StopIteration") [] >>= _) _ _ (_ : Shared)
  refine wpAny_bind ?_
  simp only [newExc, newTuple]
  refine wpAny_bind (wpAny_newObj_type ?_ (by size_fits)); refine wpAny_bind (m := firstArgMember _ _) (wpAny_of_eq (a := Value.none) (by first | rfl | (simp only [firstArgMember]; rfl)) ?_)
  refine wpAny_newObj_type ?_ (by size_fits); simp only [raiseNew]
  refine wpAny_bind (wpAny_handled ?_); first | rw [show A.in1.handled = none from hh] | rw [hh]
  refine wpAny_bind (wpAny_pure (wpAny_throw (hE _ _ (((Heap.SameBut.update ..).extBut.push _).push _) ⟨_, Heap.get?_push_size _ rfl, rfl⟩)))
end
end L2
/-! a loop over enumerate of a list -/
namespace L2
open PySem PySem.Spec PyProof.Rows
section
variable {X : Cx}
/-- enumerate(t), t a list -/
def ItEl (a : Addr) : It :=
  ⟨fun i H => ∃ xs x, H a = some (.lst xs) ∧ xs[i]? = some x,
   fun i H v H' => ∃ p x, v = .ref p ∧ H p = none ∧ H' = upd H p (.tup [.int i, x]) ∧ ∀ xs, H a = some (.lst xs) → xs[i]? = some x,
   fun i H => ∃ xs, H a = some (.lst xs) ∧ xs.length = i⟩
theorem turn_enumL {P : Program} {w : World} {K : PySem.W.Frag} {es : List PySem.Expr} {kk : Nat} {pos : Pos} {a e it : Addr} (hei : e ≠ it) :
    Turn P w K (.Tuple es kk pos) (ItEl a) [e, it] e (fun i h => (∃ old, IsEnum h e it ((i : Nat) : Int) old) ∧ h.IsListIter it a i) where
  mem := by simp
  obj := fun i h st c hc => by
    obtain ⟨⟨old, h1⟩, o2, h2, _, d2⟩ := st
    simp only [List.mem_cons, List.not_mem_nil, or_false] at hc
    rcases hc with rfl | rfl
    · exact ⟨_, h1, fun v z => by have z' : Data.fields _ = Data.cell v := z; cases z'⟩
    · exact ⟨_, h2, fun v z => by rw [d2] at z; cases z⟩
  keep := fun i h h' st k => by
    obtain ⟨⟨old, h1⟩, o2, h2, r⟩ := st
    exact ⟨⟨old, k e (by simp) _ h1⟩, o2, k it (by simp) _ h2, r⟩
  item := by
    intro X hP hw hK hc i pins s σ H E I hf st hg
    subst hP hw hK
    obtain ⟨xs, x, qa, hx⟩ := hg
    obtain ⟨its, rv, pa, _⟩ := I.list (SqL.of (K := X.K) qa)
    obtain ⟨ux, hux, rx⟩ := rv.get hx
    obtain ⟨⟨old, h1⟩, h2⟩ := st
    have nea : e ≠ a := fun z => by
      have := (hf e (by simp)).1
      rw [z, qa] at this
      cases this
    have nia : a ≠ it := fun z => by
      have := (hf it (by simp)).1
      rw [← z, qa] at this
      cases this
    have hlt : i < its.toArray.size := by
      rw [List.size_toArray]
      exact (List.getElem?_eq_some_iff.mp hux).1
    have D : Draws X.prog X.w X.A.in1 it [it, a] its.toArray.size (fun i v => its.toArray[i]? = some v) (fun i h => h.IsListIter it a i ∧ h.IsList a its.toArray) := Draws.list (show X.A.in1.handled = none from I.ok.hd hc) it a nia its.toArray
    refine wpAny_pyNext_enum_itemD D h1 ⟨h2, pa.isList⟩ hlt hei (by simp [hei, nea]) fun y h' tk hy a1 a2 a3 a4 k => ?_
    have hyx : y = ux := by
      have q1 : its.toArray[i]? = some y := hy
      rw [List.getElem?_toArray, hux] at q1
      exact (Option.some.inj q1).symm
    subst hyx
    refine ⟨_, rfl, wpAny_letOwnedTupleGo_enum a1 fun h'' b1 sb => ?_⟩
    have sb : Heap.SameBut e h' h'' := sb
    have hse : s.heap.objs.size ≠ e := Nat.ne_of_gt (Heap.lt_size h1)
    have hsi : s.heap.objs.size ≠ it := by
      obtain ⟨o, g, _⟩ := id h2
      exact Nat.ne_of_gt (Heap.lt_size g)
    have hn : H s.heap.objs.size = none := I.hok.fresh (Nat.le_refl _)
    have kk' : ∀ c o, c ∉ [e, it] → s.heap.get? c = some o → h''.get? c = some o := fun c o hc q =>
      (sb.2 c fun z => hc (by simp [z])).trans (k c o (fun z => hc (by simp [z])) (fun z => hc (by simp [z])) q)
    have tO : h''.get? s.heap.objs.size = some { cls := .type "tuple", data := .seq #[.int i tk, y] } := (sb.2 _ hse).trans a3
    have nt : ∀ c u, H c = some u → c ∉ [e, it] := fun c u q hc => by
      have := (hf c hc).1
      rw [q] at this
      cases this
    have tupOk : ObjOk X.prog X.w (upd H s.heap.objs.size (.tup [.int i, x])) h'' s.heap.objs.size (.tup [.int i, x]) :=
      ⟨by show 2 ≤ sizeLine; decide, [.int i tk, y], .cons ⟨tk, rfl⟩ (.cons rx .nil), ⟨_, tO, rfl, _, rfl⟩⟩
    have I1 : Inv X pins σ (upd H s.heap.objs.size (.tup [.int i, x])) { s with heap := h'', toks := tk + 1 } := by
      refine I.step (g' := s.gens) (d' := s.drawn) (t' := tk + 1) (ch := [e, it]) (fun c hc => ⟨(hf c hc).2.2.2.1, (hf c hc).2.1, (hf c hc).2.2.2.2.1, (hf c hc).2.2.2.2.2⟩) (fun c o _ _ hc q _ => kk' c o hc q) (fun c o _ _ hc q _ => ⟨o.slots, kk' c o hc q⟩)
        (fun c o _ q n => by rw [upd_ne (Nat.ne_of_lt (Heap.lt_size q))]; exact n) (fun c o hc q => ⟨o, kk' c o hc q⟩) (fun c vs q => by rw [upd_ne (ne_of_none q hn)]; exact q) (fun c o vs q => by rw [upd_ne (ne_of_none q hn)]; exact q)
        (fun c ps q => ⟨#[], by rw [upd_ne (ne_of_none q hn), q]; simp⟩) (fun m hm => ?_) (fun c o q => ?_) I.bare
      · obtain ⟨o, es', ep, ho, r⟩ := hm
        exact ⟨o, es', ep, kk' _ o (fun q => (hf _ q).2.1 rfl) ho, r⟩
      · by_cases hcs : c = s.heap.objs.size
        · subst hcs
          rw [upd_same] at q
          cases q
          exact tupOk
        · rw [upd_ne hcs] at q
          refine (I.hok c o q).stay (fun d v hd z => kk' d v ?_ z) (fun d z => by rw [upd_ne (ne_of_none z hn)]; exact z) fun d vs z => by rw [upd_ne (ne_of_none z hn)]; exact z
          rcases hd with hd | hd
          · rw [hd]; exact nt c o q
          · exact nt d _ hd
    have g2 : h''.IsListIter it a (i + 1) := by
      obtain ⟨⟨o, g, r⟩, _⟩ := a2
      exact ⟨o, (sb.2 _ (Ne.symm hei)).trans g, r⟩
    have g1 : IsEnum h'' e it (((i + 1 : Nat)) : Int) y := by
      have : ((i + 1 : Nat) : Int) = (i : Int) + 1 := by omega
      rw [this]
      exact b1
    exact ⟨.ref s.heap.objs.size, _, I1, rfl, ⟨_, x, rfl, hn, rfl, fun xs' q => by rw [qa] at q; cases q; exact hx⟩, ⟨⟨_, g1⟩, g2⟩, fun c hc => by
      have : c ≠ s.heap.objs.size := by
        simp only [List.mem_cons, List.not_mem_nil, or_false] at hc
        rcases hc with rfl | rfl
        · exact Ne.symm hse
        · exact Ne.symm hsi
      rw [upd_ne this]
      exact (hf c hc).1⟩
  done := by
    intro X hP hw hK hc i pins s σ H E I hf st hg
    subst hP hw hK
    obtain ⟨xs, qa, hl⟩ := hg
    obtain ⟨its, rv, pa, _⟩ := I.list (SqL.of (K := X.K) qa)
    obtain ⟨⟨old, h1⟩, h2⟩ := st
    have nia : a ≠ it := fun z => by
      have := (hf it (by simp)).1
      rw [← z, qa] at this
      cases this
    have D : Draws X.prog X.w X.A.in1 it [it, a] its.toArray.size (fun i v => its.toArray[i]? = some v) (fun i h => h.IsListIter it a i ∧ h.IsList a its.toArray) := Draws.list (show X.A.in1.handled = none from I.ok.hd hc) it a nia its.toArray
    have hi : its.toArray.size = i := by
      rw [List.size_toArray, ← rv.length]
      exact hl
    obtain ⟨f0, f1, f2, f3, f4, f5⟩ := hf it (by simp)
    refine wpAny_pyNext_enum_endD D h1 (by rw [hi]; exact ⟨h2, pa.isList⟩) fun h' k => ⟨rfl, I.turned (t' := s.toks) (fun b o hb q => k b o hb q) f0 f1 f3 f4 f5⟩
  self := fun _ _ _ _ _ st h => by
    obtain ⟨⟨old, h1⟩, _⟩ := st
    exact wpAny_pyIter_enum h1 h
def iEnumL (ta : TA) : TI := fun σ H R => ta σ H fun vs H1 => ∃ a xs, vs = [.ref a] ∧ H1 a = some (.lst xs) ∧ R (ItEl a) H1
theorem pi_enumL {es : List PySem.Expr} {kk : Nat} {tpos : Pos} {a : PySem.Expr} {ta : TA} {p pos : Pos} (hg : Gl X "enumerate") (hm : X.mg "enumerate" = none) (ha : PA X [a] ta) (hs : starEach [a] X.env = [(false, eval a X.env)] := by rfl) :
    PI X (.Tuple es kk tpos) (.Call (.Name "enumerate" p) [a] [] pos) (iEnumL ta) := by
  intro pins s σ H R I h
  refine Call_ (ld_blt I hg hm PyProof.Rows.boot_enumerate (PyProof.Rows.callWith_type1 (thn (ha pos pins s σ H _ I h) fun us s1 ⟨vs, H1, I1, r1, q1⟩ => ?_) hs rfl))
  obtain ⟨la, xs, e, qa, q⟩ := q1
  subst e
  obtain ⟨u1, rfl, ra⟩ := vals1 r1
  cases ra
  obtain ⟨its, rv, pa, _⟩ := I1.list (SqL.of (K := X.K) qa)
  refine call_enumerate_list pa.isList fun h' z1 z2 _ zk => wpAny_pyIter_enum z1 ?_
  have I2 : Inv X pins σ H1 { s1 with heap := h' } := I1.kept (t' := s1.toks) zk
  refine ⟨s1.heap.objs.size + 1, _, _, _, H1, rfl, I2, turn_enumL (Nat.succ_ne_self _), ⟨⟨_, z1⟩, z2⟩, fun c hc => ?_, q⟩
  have hge : s1.heap.objs.size ≤ c := by
    simp only [List.mem_cons, List.not_mem_nil, or_false] at hc
    rcases hc with rfl | rfl <;> omega
  exact I1.fpOk (H' := H1) hge (I1.hok.fresh hge)
/-- over enumerate of a list; each pair a new tuple -/
theorem for_enumL {a : Addr} {xs : List V} {g : TG} {tb : TS} {D : Ends} {σ : St} {H : Hp} (Pv : Nat → St → Hp → Prop) (h0 : Pv 0 σ H) (hl : ∀ i σ H, i ≤ xs.length → Pv i σ H → H a = some (.lst xs))
    (hs : ∀ i x σ H p, xs[i]? = some x → Pv i σ H → H p = none → g (.ref p) σ (upd H p (.tup [.int i, x])) fun σ2 H2 => tb { D with nx := Pv (i + 1), ct := Pv (i + 1), bk := D.nx } σ2 H2) (hd : ∀ σ H, Pv xs.length σ H → D.nx σ H) :
    ∃ W : Nat → Nat → St → Hp → Prop, (∃ m, W 0 m σ H) ∧ ∀ i m σ H, W i m σ H →
      ((ItEl a).stop i H ∧ D.nx σ H) ∨ ((ItEl a).go i H ∧ ∃ N : St → Hp → Prop, (∀ σ' H', N σ' H' → ∃ m', m' < m ∧ W (i + 1) m' σ' H') ∧ ∀ x H', (ItEl a).yld i H x H' → g x σ H' fun σ2 H2 => tb { D with nx := N, ct := N, bk := D.nx } σ2 H2) := by
  refine ⟨fun i m σ H => m = xs.length - i ∧ i ≤ xs.length ∧ Pv i σ H, ⟨xs.length, by simp, Nat.zero_le _, h0⟩, ?_⟩
  rintro i m σ H ⟨rfl, hi, p⟩
  have qa := hl i σ H hi p
  rcases Nat.lt_or_ge i xs.length with hlt | hge
  · refine .inr ⟨⟨xs, xs[i], qa, by simp [hlt]⟩, Pv (i + 1), fun σ' H' p' => ⟨xs.length - (i + 1), by omega, rfl, hlt, p'⟩, fun v H' yl => ?_⟩
    obtain ⟨pa, x, rfl, hp, rfl, hx⟩ := yl
    exact hs i x σ H pa (hx xs qa) p hp
  · obtain rfl : i = xs.length := by omega
    exact .inl ⟨⟨xs, qa, rfl⟩, hd σ H p⟩

end
end L2
/-! two tuples of numbers compared -/
namespace L2
open PySem PySem.Spec PyProof.Rows
section
variable {X : Cx}
end
end L2
/-! [.. for a, b in ..]: a comprehension that unpacks -/
namespace L2
open PySem PySem.Spec PyProof.Rows
end L2
/-! name = [.. for ..]: the comprehension's own store -/
namespace L2
open PySem PySem.Spec PyProof.Rows
theorem ps_setComp {X : Cx} {i : Nat} {y : Str} {py spos : Pos} {elt iter : PySem.Expr} {x : Str} {px pos : Pos} {scope : Scope} {cl : List (Str × Addr)} {Nc : List Str} {cap : List (Nat × Nat)} {wi : TI} {g : TG} {te : TE} (hN : X.N.Nodup) (hiN : X.N[i]? = some y) (hy : Loc X.env.scope y)
    (hc : X.calm = true) (hi : PI X (.Name x px) iter wi) (S : CompScope X scope cl Nc cap)
    (hg : ∀ C fp pins s H, PG (cxComp X scope cl C Nc fp pins s H) (.Name x px) g) (he : ∀ C fp pins s H, PE (cxComp X scope cl C Nc fp pins s H) elt te)
    (hsw : swapsWith (.ListComp elt [⟨.Name x px, iter, [], 0⟩] scope pos) (some (.Name y py)) spos.line X.env = pure true := by rfl) (hs : ∀ z, foldedSetIterable iter X.env z = pure z := by intro _; rfl)
    (hf : X.fn y = true ∨ X.env.scope.names.lookup y = some .local := by first | exact .inl rfl | exact .inr rfl | assumption) :
    PS X (.Assign [.Name y py] (.ListComp elt [⟨.Name x px, iter, [], 0⟩] scope pos) spos) (tAsg (tComp Nc.length cap wi g te) (gName i)) := by
  intro pins s σ H D I h
  rw [exec_Assign_Name_used _ _ _ _ hsw]
  refine wpAny_bind (wpAny_standAt (wpAny_bind ?_)); show wpAny _ X.A (do let _ ← comprehension (.ListComp elt [⟨.Name x px, iter, [], 0⟩] scope pos) scope X.env _ (newList []) false (eval iter X.env) (some (assign (.Name y py) X.env))) _ _ s
  refine wpAny_bind (wpAny_mono (wpAny_comprehension_free (use := some (assign (.Name y py) X.env)) (cl := cl) (Q := fun _ s' => SP X pins D .next s') rfl hs S.clos S.kind S.names ?_) (fun _ s' hq => wpAny_pure (wpAny_pure hq)) fun _ _ e => e)
  refine thn (hi pins s σ H _ I h) fun v s1 h1 => thn h1 fun itv s2 h2 => ?_
  obtain ⟨it, fp, tn, J, H2, e, I2, T, st2, f2, rd⟩ := h2
  subst e
  refine wpAny_newObj_type ?_
  have hacc : H2 s2.heap.objs.size = none := I2.hok.fresh (Nat.le_refl _)
  obtain ⟨W, ⟨m0, w0⟩, turn⟩ := rd s2.heap.objs.size hacc
  -- the list is tracked
  have I3 : Inv X pins σ (upd H2 s2.heap.objs.size (.lst [])) { s2 with heap := s2.heap.push { cls := .type "list", dict := none, data := .seq ([] : List Value).toArray } } :=
    I2.laid (t' := s2.toks) (fun b u e => Heap.get?_push_of_some _ e) (Nat.le_refl _) ⟨Nat.zero_le _, [], 0, .nil, Heap.get?_push_size _ rfl⟩
  have st3 : tn 0 (s2.heap.push { cls := .type "list", dict := none, data := .seq ([] : List Value).toArray }) := T.keep _ _ _ st2 fun b _ o e => Heap.get?_push_of_some _ e
  have f3 : ∀ b ∈ fp, FpOk X pins (upd H2 s2.heap.objs.size (.lst [])) b := fun b hb => by
    obtain ⟨o, e, _⟩ := T.obj _ _ st2 b hb
    refine ⟨?_, (f2 b hb).2⟩
    rw [upd_ne (Nat.ne_of_lt (Heap.lt_size e))]
    exact (f2 b hb).1
  generalize hh3 : s2.heap.push { cls := .type "list", dict := none, data := .seq ([] : List Value).toArray } = h3 at I3 st3 ⊢
  generalize hH3 : upd H2 s2.heap.objs.size (.lst []) = H3 at I3 f3 w0
  generalize s2.heap.objs.size = acc at *
  refine wpAny_newFunctionEnv S.nocell (by intro y hy; simp at hy) (fun h4 hns hsb => ?_) S.kind
  dsimp only at hns hsb ⊢
  have keep : ∀ b o, h3.get? b = some o → h4.get? b = some o := fun b o e => hsb.extBut b o (Nat.ne_of_lt (Heap.lt_size e)) (Heap.get?_push_of_some _ e)
  have f0 : ∀ b ∈ fp, ∃ o, h3.get? b = some o := fun b hb => by
    obtain ⟨o, e, _⟩ := T.obj _ _ st3 b hb
    exact ⟨o, e⟩
  have I4 := inv_comp (tk := s2.toks + ([] : List (Str × Value)).length) I3 hc S f3 f0 (C := h3.objs.size) (Nat.le_refl _) hns keep
  have st4 : tn 0 h4 := T.keep _ _ _ st3 fun b _ o e => keep b o e
  have stat : ∀ {H' : Hp}, (∀ b ∈ fp, H' b = none) → ∀ b ∈ fp, FpOk (cxComp X scope cl h3.objs.size Nc fp pins { s2 with heap := h3 } H3) [] H' b := fun hn b hb => by
    obtain ⟨o, e⟩ := f0 b hb
    refine ⟨hn b hb, Nat.ne_of_lt (Heap.lt_size e), I4.ok.exfs b hb, .inl hb, fun x c q => (f3 b hb).2.2.2.2.1 x c (S.sub x c q).1, fun p hp => ?_⟩
    have z : p ∈ (X.pn ++ pins) ++ [] := hp
    rw [List.append_nil] at z
    exact (f3 b hb).2.2.2.2.2 p z
  have loop : codeAny (model X.prog X.w) X.A (.compLoop (.ListComp elt [⟨.Name x px, iter, [], 0⟩] scope pos) 0 (.ref it) (.ref acc) (compEnvC scope cl h3.objs.size X.env)) (compPost (model X.prog X.w) X.A X.xe (some (assign (.Name y py) X.env)) (fun _ s' => SP X pins D .next s') (.ref acc) h3.objs.size)
      { s2 with heap := h4, toks := s2.toks + ([] : List (Str × Value)).length } := by
    refine codeAny_compLoop_list (fun n s' => ∃ i ys σ' H', Inv (cxComp X scope cl h3.objs.size Nc fp pins { s2 with heap := h3 } H3) [] σ' H' s' ∧ tn i s'.heap ∧ (∀ b ∈ fp, H' b = none) ∧ W i n ys σ' H') ?_ m0 ⟨0, [], _, H3, I4, st4, fun b hb => (f3 b hb).1, w0⟩
    rintro n s5 ⟨i, ys, σ5, H5, I5, st5, fr5, w5⟩
    rcases turn i n ys σ5 H5 w5 with ⟨stop, qn⟩ | ⟨go, step⟩
    · refine thn (T.done (cxComp X scope cl h3.objs.size Nc fp pins { s2 with heap := h3 } H3) rfl rfl rfl rfl i [] s5 σ5 H5 _ I5 (stat fr5) st5 stop) fun r s6 ⟨hr, I6⟩ => ?_
      subst hr
      obtain ⟨m6, hn6, _⟩ := id I6.loc
      have back : Inv X pins σ H5 s6 := comp_back (h' := s6.heap) I3 f3 I6 ⟨rfl, fun _ _ => rfl⟩
      have fpC : FpOk X pins H5 h3.objs.size := I3.fpOk (Nat.le_refl _) I6.free
      show wpAny (model X.prog X.w) X.A (assign (.Name y py) X.env (.ref acc)) _ X.xe s6
      refine wpAny_assign_Name (store_ok2 (v := .ref acc) back hN hiN hy rfl (fun s7 I7 ⟨a7, sb7, e7⟩ => ?_) hf)
      have nC : h3.objs.size ≠ a7 := by
        rcases e7 with e7 | e7
        · rw [e7]; exact fpC.2.1
        · exact Ne.symm (fpC.2.2.2.2.1 _ _ e7)
      refine ⟨m6, hn6.sameBut sb7 nC, fun h8 hs8 => ⟨_, H5, ?_, qn⟩⟩
      exact I7.turned (t' := s7.toks) (fun b o hb q => (hs8.2 b hb).trans q) fpC.1 fpC.2.1 fpC.2.2.2.1 fpC.2.2.2.2.1 fpC.2.2.2.2.2
    · refine wpAny_mono (T.item (cxComp X scope cl h3.objs.size Nc fp pins { s2 with heap := h3 } H3) rfl rfl rfl rfl i [] s5 σ5 H5 (fun _ _ => False) I5 (stat fr5) st5 go) (fun r s6 ⟨u, hr, h6⟩ => ?_) fun _ _ z => False.elim z
      subst hr
      have ht : letOwnedTupleGo (.Name x px) (.ref it) u = pure () := rfl
      show wpAny (model X.prog X.w) X.A (assign (.Name x px) (compEnvC scope cl h3.objs.size X.env) u) _ _ s6
      have goal : wpAny (model X.prog X.w) X.A (letOwnedTupleGo (.Name x px) (.ref it) u >>= fun _ => assign (.Name x px) (compEnvC scope cl h3.objs.size X.env) u) (fun _ s₂ => wpAny (model X.prog X.w) X.A (eval elt (compEnvC scope cl h3.objs.size X.env)) (fun y s₃ =>
          wpAny (model X.prog X.w) X.A (call (.builtin "list.append") [.ref acc, y]) (fun _ s₄ => ∃ m, m < n ∧ ∃ i ys σ' H', Inv (cxComp X scope cl h3.objs.size Nc fp pins { s2 with heap := h3 } H3) [] σ' H' s₄ ∧ tn i s₄.heap ∧ (∀ b ∈ fp, H' b = none) ∧ W i m ys σ' H') (fun _ _ => False) s₃) (fun _ _ => False) s₂) (fun _ _ => False) s6 := by
        refine wpAny_bind (thn h6 fun _ s7 ⟨y, H7, I7, r7, y7, st7, fr7⟩ => ?_)
        have I7' := I7.pinned (stat fr7) (T.obj _ _ st7)
        have kp : ∀ {σ8 : St} {H8 : Hp} {s8 : Shared}, Inv (cxComp X scope cl h3.objs.size Nc fp pins { s2 with heap := h3 } H3) ([] ++ pinsAt fp s7.heap) σ8 H8 s8 → tn (i + 1) s8.heap ∧ ∀ b ∈ fp, H8 b = none := fun {σ8 H8 s8} I8 =>
          ⟨T.keep _ _ _ st7 fun b hb o e => (I8.pin (b, o) (List.mem_append_right _ (List.mem_append_right _ (mem_pinsAt hb e)))).1, fun b hb => by
            obtain ⟨o, e, d⟩ := T.obj _ _ st7 b hb
            exact (I8.pin (b, o) (List.mem_append_right _ (List.mem_append_right _ (mem_pinsAt hb e)))).2.1⟩
        refine thn (hg _ _ _ _ _ _ s7 σ5 H7 y u _ I7' r7 (step y H7 y7)) fun _ s8 ⟨σ8, H8, I8, q8⟩ => ?_
        refine thn (he _ _ _ _ _ _ s8 σ8 H8 _ I8 q8) fun w9 s9 ⟨v9, H9, I9, r9, e9, l9, m', hm, q9⟩ => ?_
        refine thn (mt_append _ s9 σ8 H9 (.ref acc) [v9] (.ref acc) [w9] (fun _ H10 => W (i + 1) m' (ys ++ [v9]) σ8 H10) I9 rfl (.cons r9 .nil) ⟨acc, ys, v9, rfl, rfl, e9, l9, q9⟩) fun _ s10 ⟨_, H10, I10, _, q10⟩ => ?_
        obtain ⟨st10, fr10⟩ := kp I10
        exact ⟨m', hm, i + 1, ys ++ [v9], σ8, H10, I10.unpinned, st10, fr10, q10⟩
      rw [ht] at goal
      refine wpAny_mono (show wpAny (model X.prog X.w) X.A (assign (.Name x px) (compEnvC scope cl h3.objs.size X.env) u) _ _ s6 from goal) (fun _ s7 h7 => ?_) fun _ _ z => False.elim z
      refine wpAny_mono h7 (fun y s8 h8 => ?_) fun _ _ z => False.elim z
      exact wpAny_mono h8 (fun _ _ z => z) fun _ _ z => False.elim z
  exact codeAny_compStart_list loop (T.self _ 0 _ _ _ st4 loop)
end L2
/-! name = [.. for a, b in ..]: the comprehension's own store -/
namespace L2
open PySem PySem.Spec PyProof.Rows
end L2
/-! zip of two sequences, each a list or a tuple -/
namespace L2
open PySem PySem.Spec PyProof.Rows
/-- a list's iterator, or a tuple's -/
def ItK (t : Bool) (h : Heap) (c a : Addr) (k : Nat) : Prop := if t then h.IsTupleIter c a k else h.IsListIter c a k
def SqK (t : Bool) (h : Heap) (a : Addr) (vs : Array Value) : Prop := if t then h.IsTuple a vs else h.IsList a vs
theorem ItK.ext {t : Bool} {h h' : Heap} {c b a : Addr} {k : Nat} (x : ItK t h c a k) (hs : Heap.ExtBut b h h') (n : c ≠ b) : ItK t h' c a k := by
  cases t
  · exact Heap.IsListIter.extBut x hs n
  · exact Heap.IsTupleIter.extBut x hs n
theorem ItK.at {t : Bool} {h h' : Heap} {c a : Addr} {k : Nat} (x : ItK t h c a k) (e : ∀ o, h.get? c = some o → h'.get? c = some o) : ItK t h' c a k := by
  cases t
  · exact Heap.IsListIter.at x e
  · exact Heap.IsTupleIter.at x e
theorem ItK.obj {t : Bool} {h : Heap} {c a : Addr} {k : Nat} (x : ItK t h c a k) : ∃ o, h.get? c = some o ∧ ∀ v, o.data ≠ .cell v := by
  cases t
  · obtain ⟨o, e, _, d⟩ := x
    exact ⟨o, e, fun v z => by rw [d] at z; cases z⟩
  · obtain ⟨o, e, _, d⟩ := x
    exact ⟨o, e, fun v z => by rw [d] at z; cases z⟩
theorem SqK.ext {t : Bool} {h h' : Heap} {b a : Addr} {vs : Array Value} (x : SqK t h a vs) (hs : Heap.ExtBut b h h') (n : a ≠ b) : SqK t h' a vs := by
  cases t
  · exact Heap.IsList.extBut x hs n
  · exact Heap.IsTuple.extBut x hs n
section
variable {prog : Program} {w : World} {A : Around} {E : Value → Shared → Prop} {s : Shared}
theorem nextK_item {t : Bool} {c a : Addr} {k : Nat} {vs : Array Value} {y : Value} {Q : Value → Shared → Prop} (hc : ItK t s.heap c a k) (ht : SqK t s.heap a vs) (hy : vs[k]? = some y)
    (hQ : ∀ h', ItK t h' c a (k + 1) → Heap.SameBut c s.heap h' → Q y { s with heap := h' }) : wpAny (model prog w) A (Builtin.SmallTypes.nextOf (.ref c)) Q E s := by
  cases t
  · exact wpAny_nextOf_list_item hc ht hy hQ
  · exact nextT_item hc ht hy hQ
theorem nextK_end {t : Bool} {c a : Addr} {k : Nat} {vs : Array Value} {Q : Value → Shared → Prop} (hh : A.handled = none) (hc : ItK t s.heap c a k) (ht : SqK t s.heap a vs) (hy : vs[k]? = none)
    (hE : ∀ h' x, Heap.ExtBut c s.heap h' → (∃ o, h'.get? x = some o ∧ o.cls = .type "StopIteration") → E (.ref x) { s with heap := h' }) : wpAny (model prog w) A (Builtin.SmallTypes.nextOf (.ref c)) Q E s := by
  cases t
  · exact wpAny_nextOf_list_end hh hc ht hy hE
  · exact nextT_end hh hc ht hy hE
theorem zipK_item {t1 t2 : Bool} {z TI TO i1 i2 l1 l2 : Addr} {k1 k2 : Nat} {xs ys : Array Value} {x y a b : Value} {Q : Value → Shared → Prop} (ap : ZipApart z TI TO i1 i2 l1 l2)
    (qz : IsZip s.heap z TI TO .none) (qI : IsPair s.heap TI (.ref i1) (.ref i2)) (qO : IsPair s.heap TO a b)
    (q1 : ItK t1 s.heap i1 l1 k1) (q2 : ItK t2 s.heap i2 l2 k2) (m1 : SqK t1 s.heap l1 xs) (m2 : SqK t2 s.heap l2 ys) (hx : xs[k1]? = some x) (hy : ys[k2]? = some y)
    (hQ : ∀ g, IsZip g z TI TO (rawInt s.heap.objs.size) → IsPair g TO x y → ItK t1 g i1 l1 (k1 + 1) → ItK t2 g i2 l2 (k2 + 1) → IsPair g s.heap.objs.size x y → g.objs.size = s.heap.objs.size + 1 →
      (∀ c o, c ≠ z → c ≠ TO → c ≠ i1 → c ≠ i2 → s.heap.get? c = some o → g.get? c = some o) → Q (.ref s.heap.objs.size) { s with heap := g }) :
    wpAny (model prog w) A (Builtin.«zip.__next__» ⟨[.ref z], []⟩) (fun fin s' => ∃ v, fin = .done (.ret v) ∧ Q v s') E s := by
  show wpAny _ A (field (.ref z) 2 >>= _) _ _ _
  refine wpAny_bind (wpAny_field qz rfl (x := .bool false) rfl ?_); show wpAny _ A (field (.ref z) 3 >>= _) _ _ _
  refine wpAny_bind (wpAny_field qz rfl (x := .ref TI) rfl (wpAny_bind (wpAny_seqItems qI rfl ?_)))
  show wpAny _ A (Builtin.SmallTypes.ownedTupleIsFree (.ref z) >>= _) _ _ _
  refine wpAny_bind ?_; unfold Builtin.SmallTypes.ownedTupleIsFree
  refine wpAny_bind (wpAny_field qz rfl (x := .none) rfl (wpAny_pure ?_)); simp only [if_true]
  refine wpAny_bind (wpAny_rule (wpAny_bind (wpAny_field qz rfl (x := .ref TO) rfl (wpAny_bind (wpAny_setField_rec qz (by simp) fun g1 z1 s1 => ?_)))))
  replace z1 : IsZip g1 z TI TO .ellipsis := z1
  refine wpAny_bind ?_; simp only [List.zipIdx_cons, List.zipIdx_nil, List.forIn_cons, List.forIn_nil]
  refine wpAny_bind (wpAny_bind (wpAny_onRaise ?_)); show wpAny _ A (Builtin.SmallTypes.nextOf (.ref i1) >>= _) _ _ _
  refine wpAny_bind (nextK_item (q1.ext s1.extBut ap.i1z) (m1.ext s1.extBut ap.l1z) hx fun g2 n1 s2 => wpAny_pure ?_)
  have O2 : IsPair g2 TO a b := s2.extBut _ _ ap.TOi1 (s1.extBut _ _ ap.TOz qO)
  refine wpAny_bind (wpAny_seqItems O2 rfl (wpAny_bind (wpAny_updateSeq_pair O2 fun g3 O3 s3 => ?_)))
  replace O3 : IsPair g3 TO x b := O3
  refine wpAny_bind (wpAny_letGo (wpAny_pure (wpAny_bind (wpAny_bind (wpAny_onRaise ?_))))); show wpAny _ A (Builtin.SmallTypes.nextOf (.ref i2) >>= _) _ _ _
  refine wpAny_bind (nextK_item (((q2.ext s1.extBut ap.i2z).ext s2.extBut ap.i12.symm).ext s3.extBut ap.TOi2.symm) (((m2.ext s1.extBut ap.l2z).ext s2.extBut ap.l2i1).ext s3.extBut ap.l2TO) hy fun g4 n2 s4 => wpAny_pure ?_)
  have O4 : IsPair g4 TO x b := s4.extBut _ _ ap.TOi2 O3
  refine wpAny_bind (wpAny_seqItems O4 rfl (wpAny_bind (wpAny_updateSeq_pair O4 fun g5 O5 s5 => ?_)))
  replace O5 : IsPair g5 TO x y := O5
  refine wpAny_bind (wpAny_letGo (wpAny_pure (wpAny_pure (wpAny_bind (wpAny_seqItems O5 rfl (wpAny_bind (wpAny_newTuple ?_)))))))
  have sz5 : g5.objs.size = s.heap.objs.size := by rw [s5.1, s4.1, s3.1, s2.1, s1.1]
  have z5 : IsZip g5 z TI TO .ellipsis := s5.extBut _ _ ap.TOz.symm (s4.extBut _ _ ap.i2z.symm (s3.extBut _ _ ap.TOz.symm (s2.extBut _ _ ap.i1z.symm z1)))
  have kp : ∀ c o, c ≠ z → c ≠ TO → c ≠ i1 → c ≠ i2 → s.heap.get? c = some o → g5.get? c = some o := fun c o c1 c2 c3 c4 e =>
    s5.extBut _ _ c2 (s4.extBut _ _ c4 (s3.extBut _ _ c2 (s2.extBut _ _ c3 (s1.extBut _ _ c1 e))))
  have N1 : ItK t1 g5 i1 l1 (k1 + 1) := ((n1.ext s3.extBut ap.TOi1.symm).ext s4.extBut ap.i12).ext s5.extBut ap.TOi1.symm
  have N2 : ItK t2 g5 i2 l2 (k2 + 1) := n2.ext s5.extBut ap.TOi2.symm
  have ltz : z < g5.objs.size := Heap.lt_size z5
  show wpAny _ A (Builtin.SmallTypes.ownedTupleHandOut (.ref z) (.ref g5.objs.size) >>= _) _ _ _
  refine wpAny_bind ?_; unfold Builtin.SmallTypes.ownedTupleHandOut
  have z6 : IsZip (g5.push { cls := .type "tuple", data := .seq #[x, y] }) z TI TO .ellipsis := Heap.get?_push_of_some _ z5
  refine wpAny_bind (wpAny_setField_rec z6 (by simp) fun g7 z7 s7 => ?_)
  replace z7 : IsZip g7 z TI TO (rawInt g5.objs.size) := z7
  refine wpAny_setField_rec z7 (by simp) fun g8 z8 s8 => ?_
  replace z8 : IsZip g8 z TI TO (rawInt g5.objs.size) := z8
  have up : ∀ c o, c ≠ z → g5.get? c = some o → g8.get? c = some o := fun c o c1 e => s8.extBut _ _ c1 (s7.extBut _ _ c1 (Heap.get?_push_of_some _ e))
  have T8 : IsPair g8 g5.objs.size x y := s8.extBut _ _ (Nat.ne_of_gt ltz) (s7.extBut _ _ (Nat.ne_of_gt ltz) (Heap.get?_push_size _ rfl))
  have sz8 : g8.objs.size = g5.objs.size + 1 := by rw [s8.1, s7.1, Heap.size_push]
  rw [sz5] at z8 T8 sz8
  refine wpAny_pure ⟨_, rfl, ?_⟩
  show Q (.ref g5.objs.size) _
  rw [sz5]
  exact hQ g8 z8 (up _ _ ap.TOz O5) (N1.at fun o e => up _ o ap.i1z e) (N2.at fun o e => up _ o ap.i2z e) T8 sz8 fun c o c1 c2 c3 c4 e => up c o c1 (kp c o c1 c2 c3 c4 e)
theorem zipK_end {t1 t2 : Bool} {z TI TO i1 i2 l1 l2 : Addr} {k1 k2 : Nat} {xs ys : Array Value} {a b : Value} {Q : Fin → Shared → Prop} (hh : A.handled = none) (ap : ZipApart z TI TO i1 i2 l1 l2)
    (qz : IsZip s.heap z TI TO .none) (qI : IsPair s.heap TI (.ref i1) (.ref i2)) (qO : IsPair s.heap TO a b)
    (q1 : ItK t1 s.heap i1 l1 k1) (q2 : ItK t2 s.heap i2 l2 k2) (m1 : SqK t1 s.heap l1 xs) (m2 : SqK t2 s.heap l2 ys) (hend : xs[k1]? = none ∨ ys[k2]? = none)
    (hE : ∀ g e, (∀ c o, c ≠ z → c ≠ TO → c ≠ i1 → c ≠ i2 → s.heap.get? c = some o → g.get? c = some o) → (∃ o, g.get? e = some o ∧ o.cls = .type "StopIteration") → E (.ref e) { s with heap := g }) :
    wpAny (model prog w) A (Builtin.«zip.__next__» ⟨[.ref z], []⟩) Q E s := by
  show wpAny _ A (field (.ref z) 2 >>= _) _ _ _
  refine wpAny_bind (wpAny_field qz rfl (x := .bool false) rfl ?_); show wpAny _ A (field (.ref z) 3 >>= _) _ _ _
  refine wpAny_bind (wpAny_field qz rfl (x := .ref TI) rfl (wpAny_bind (wpAny_seqItems qI rfl ?_)))
  show wpAny _ A (Builtin.SmallTypes.ownedTupleIsFree (.ref z) >>= _) _ _ _
  refine wpAny_bind ?_; unfold Builtin.SmallTypes.ownedTupleIsFree
  refine wpAny_bind (wpAny_field qz rfl (x := .none) rfl (wpAny_pure ?_)); simp only [if_true]
  refine wpAny_bind (wpAny_rule (wpAny_bind (wpAny_field qz rfl (x := .ref TO) rfl (wpAny_bind (wpAny_setField_rec qz (by simp) fun g1 z1 s1 => ?_)))))
  replace z1 : IsZip g1 z TI TO .ellipsis := z1
  refine wpAny_bind ?_; simp only [List.zipIdx_cons, List.zipIdx_nil, List.forIn_cons, List.forIn_nil]
  refine wpAny_bind (wpAny_bind (wpAny_onRaise ?_)); show wpAny _ A (Builtin.SmallTypes.nextOf (.ref i1) >>= _) _ _ _
  cases hx : xs[k1]? with
  | none =>
    refine wpAny_bind (nextK_end hh (q1.ext s1.extBut ap.i1z) (m1.ext s1.extBut ap.l1z) hx fun g2 e s2 he => ?_)
    obtain ⟨oe, w1, w2⟩ := he
    have z2 : IsZip g2 z TI TO .ellipsis := s2 _ _ ap.i1z.symm z1
    have ez : e ≠ z := fun x => by subst x; rw [z2] at w1; cases w1; simp at w2
    exact wpAny_setField_rec z2 (by simp) fun g3 _ s3 => hE g3 e (fun c o c1 _ c3 _ x => s3.extBut _ _ c1 (s2 _ _ c3 (s1.extBut _ _ c1 x))) ⟨oe, s3.extBut _ _ ez w1, w2⟩
  | some x =>
    have hy : ys[k2]? = none := by rcases hend with h | h; rw [hx] at h; cases h; exact h
    refine wpAny_bind (nextK_item (q1.ext s1.extBut ap.i1z) (m1.ext s1.extBut ap.l1z) hx fun g2 n1 s2 => wpAny_pure ?_)
    have O2 : IsPair g2 TO a b := s2.extBut _ _ ap.TOi1 (s1.extBut _ _ ap.TOz qO)
    refine wpAny_bind (wpAny_seqItems O2 rfl (wpAny_bind (wpAny_updateSeq_pair O2 fun g3 O3 s3 => ?_)))
    refine wpAny_bind (wpAny_letGo (wpAny_pure (wpAny_bind (wpAny_bind (wpAny_onRaise ?_))))); show wpAny _ A (Builtin.SmallTypes.nextOf (.ref i2) >>= _) _ _ _
    refine wpAny_bind (nextK_end hh (((q2.ext s1.extBut ap.i2z).ext s2.extBut ap.i12.symm).ext s3.extBut ap.TOi2.symm) (((m2.ext s1.extBut ap.l2z).ext s2.extBut ap.l2i1).ext s3.extBut ap.l2TO) hy fun g4 e s4 he => ?_)
    obtain ⟨oe, w1, w2⟩ := he
    have z4 : IsZip g4 z TI TO .ellipsis := s4 _ _ ap.i2z.symm (s3.extBut _ _ ap.TOz.symm (s2.extBut _ _ ap.i1z.symm z1))
    have ez : e ≠ z := fun x => by subst x; rw [z4] at w1; cases w1; simp at w2
    exact wpAny_setField_rec z4 (by simp) fun g5 _ s5 => hE g5 e (fun c o c1 c2 c3 c4 x => s5.extBut _ _ c1 (s4 _ _ c4 (s3.extBut _ _ c2 (s2.extBut _ _ c3 (s1.extBut _ _ c1 x))))) ⟨oe, s5.extBut _ _ ez w1, w2⟩
theorem pyNextK_item {t1 t2 : Bool} {z TI TO i1 i2 l1 l2 : Addr} {k1 k2 : Nat} {xs ys : Array Value} {x y a b : Value} {Q : Option Value → Shared → Prop} (ap : ZipApart z TI TO i1 i2 l1 l2)
    (qz : IsZip s.heap z TI TO .none) (qI : IsPair s.heap TI (.ref i1) (.ref i2)) (qO : IsPair s.heap TO a b)
    (q1 : ItK t1 s.heap i1 l1 k1) (q2 : ItK t2 s.heap i2 l2 k2) (m1 : SqK t1 s.heap l1 xs) (m2 : SqK t2 s.heap l2 ys) (hx : xs[k1]? = some x) (hy : ys[k2]? = some y)
    (hQ : ∀ g, IsZip g z TI TO (rawInt s.heap.objs.size) → IsPair g TO x y → ItK t1 g i1 l1 (k1 + 1) → ItK t2 g i2 l2 (k2 + 1) → IsPair g s.heap.objs.size x y → g.objs.size = s.heap.objs.size + 1 →
      (∀ c o, c ≠ z → c ≠ TO → c ≠ i1 → c ≠ i2 → s.heap.get? c = some o → g.get? c = some o) → Q (some (.ref s.heap.objs.size)) { s with heap := g }) :
    wpAny (model prog w) A (pyNext (.ref z)) Q E s := by
  have ty : s.TypeIs (.ref z) "zip" := ⟨_, qz, rfl⟩
  unfold pyNext
  exact wpAny_bind (wpAny_attempt (wpAny_callSpecial?_slot (name := Str.ofString "__next__") ty PySem.F.slot_zip_next (wpAny_call_entry PySem.F.slot_zip_next ty PySem.F.entry_zip_next
      (zipK_item ap qz qI qO q1 q2 m1 m2 hx hy fun g a1 a2 a3 a4 a5 a6 a7 => wpAny_pure (hQ g a1 a2 a3 a4 a5 a6 a7)) (PySem.F.args_zip_next_1 _))))
theorem pyNextK_end {t1 t2 : Bool} {z TI TO i1 i2 l1 l2 : Addr} {k1 k2 : Nat} {xs ys : Array Value} {a b : Value} {Q : Option Value → Shared → Prop} (hh : A.handled = none) (ap : ZipApart z TI TO i1 i2 l1 l2)
    (qz : IsZip s.heap z TI TO .none) (qI : IsPair s.heap TI (.ref i1) (.ref i2)) (qO : IsPair s.heap TO a b)
    (q1 : ItK t1 s.heap i1 l1 k1) (q2 : ItK t2 s.heap i2 l2 k2) (m1 : SqK t1 s.heap l1 xs) (m2 : SqK t2 s.heap l2 ys) (hend : xs[k1]? = none ∨ ys[k2]? = none)
    (hQ : ∀ g, (∀ c o, c ≠ z → c ≠ TO → c ≠ i1 → c ≠ i2 → s.heap.get? c = some o → g.get? c = some o) → Q none { s with heap := g }) : wpAny (model prog w) A (pyNext (.ref z)) Q E s := by
  have ty : s.TypeIs (.ref z) "zip" := ⟨_, qz, rfl⟩
  unfold pyNext
  refine wpAny_bind (wpAny_attempt (wpAny_callSpecial?_slot (name := Str.ofString "__next__") ty PySem.F.slot_zip_next (wpAny_call_entry PySem.F.slot_zip_next ty PySem.F.entry_zip_next (zipK_end hh ap qz qI qO q1 q2 m1 m2 hend fun g e hk he => ?_) (PySem.F.args_zip_next_1 _))))
  obtain ⟨o, w1, w2⟩ := he
  exact wpAny_bind (wpAny_isInstance (T := "StopIteration") (b := true) ⟨o, w1, w2⟩ isSubtype_stop (wpAny_pure (hQ _ hk)))
/-- the iterator of a sequence -/
def itO (t : Bool) (l : Addr) : Obj := if t then { cls := .type "tuple_iterator", data := .fields #[.ref l, .int 0 0] } else { cls := .type "list_iterator", data := .fields #[.ref l, .int 0 0] }
abbrev zk2 (t1 t2 : Bool) (h : Heap) (l1 l2 : Addr) : Heap := (h.push (itO t1 l1)).push (itO t2 l2)
abbrev zk4 (t1 t2 : Bool) (h : Heap) (l1 l2 : Addr) : Heap := ((zk2 t1 t2 h l1 l2).push { cls := .type "tuple", data := .seq #[.ref h.objs.size, .ref (h.push (itO t1 l1)).objs.size] }).push { cls := .type "tuple", data := .seq #[.none, .none] }
abbrev zk5 (t1 t2 : Bool) (h : Heap) (l1 l2 : Addr) : Heap := (zk4 t1 t2 h l1 l2).push { cls := .type "zip", data := .fields #[.none, .bool false, .bool false, .ref (zk2 t1 t2 h l1 l2).objs.size, .ref ((zk2 t1 t2 h l1 l2).push { cls := .type "tuple", data := .seq #[.ref h.objs.size, .ref (h.push (itO t1 l1)).objs.size] }).objs.size] }
set_option maxHeartbeats 4000000 in
theorem meets_zipK (t1 t2 : Bool) (l1 l2 : Addr) (xs ys : Array Value) :
    Meets (Builtin.«zip.__new__» ⟨[.type "zip", .ref l1, .ref l2], []⟩) (fun _ R s => SqK t1 s.heap l1 xs ∧ SqK t2 s.heap l2 ys ∧ R (.ok (.ret (.ref (zk4 t1 t2 s.heap l1 l2).objs.size))) { s with heap := zk5 t1 t2 s.heap l1 l2 }) :=
  .of_wp fun prog w A R s h => by
    obtain ⟨hp, g, d, tk, os⟩ := s; obtain ⟨m1, m2, h⟩ := h
    have hsub := sub_zip
    cases t1 <;> cases t2
    · have a1 : Heap.IsList (Shared.heap ⟨hp, g, d, tk, os⟩) l1 xs := m1
      have a2 : Heap.IsList (Shared.heap ⟨hp.push { cls := .type "list_iterator", data := .fields #[.ref l1, .int 0 0] }, g, d, tk, os⟩) l2 ys := Heap.IsList.push m2 _
      wp_walk using wpAny_pyIter_list a1, wpAny_pyIter_list a2
      exact ⟨_, rfl, h⟩
    · have a1 : Heap.IsList (Shared.heap ⟨hp, g, d, tk, os⟩) l1 xs := m1
      have a2 : Heap.IsTuple (Shared.heap ⟨hp.push { cls := .type "list_iterator", data := .fields #[.ref l1, .int 0 0] }, g, d, tk, os⟩) l2 ys := Heap.IsTuple.push m2 _
      wp_walk using wpAny_pyIter_list a1, wpAny_pyIter_tuple a2
      exact ⟨_, rfl, h⟩
    · have a1 : Heap.IsTuple (Shared.heap ⟨hp, g, d, tk, os⟩) l1 xs := m1
      have a2 : Heap.IsList (Shared.heap ⟨hp.push { cls := .type "tuple_iterator", data := .fields #[.ref l1, .int 0 0] }, g, d, tk, os⟩) l2 ys := Heap.IsList.push m2 _
      wp_walk using wpAny_pyIter_tuple a1, wpAny_pyIter_list a2
      exact ⟨_, rfl, h⟩
    · have a1 : Heap.IsTuple (Shared.heap ⟨hp, g, d, tk, os⟩) l1 xs := m1
      have a2 : Heap.IsTuple (Shared.heap ⟨hp.push { cls := .type "tuple_iterator", data := .fields #[.ref l1, .int 0 0] }, g, d, tk, os⟩) l2 ys := Heap.IsTuple.push m2 _
      wp_walk using wpAny_pyIter_tuple a1, wpAny_pyIter_tuple a2
      exact ⟨_, rfl, h⟩
theorem call_zipK {t1 t2 : Bool} {l1 l2 : Addr} {xs ys : Array Value} {Q : Value → Shared → Prop} (m1 : SqK t1 s.heap l1 xs) (m2 : SqK t2 s.heap l2 ys)
    (h : ∀ g, IsZip g (s.heap.objs.size + 4) (s.heap.objs.size + 2) (s.heap.objs.size + 3) .none → IsPair g (s.heap.objs.size + 2) (.ref s.heap.objs.size) (.ref (s.heap.objs.size + 1)) →
      IsPair g (s.heap.objs.size + 3) .none .none → ItK t1 g s.heap.objs.size l1 0 → ItK t2 g (s.heap.objs.size + 1) l2 0 → g.objs.size = s.heap.objs.size + 5 →
      (∀ c o, s.heap.get? c = some o → g.get? c = some o) → Q (.ref (s.heap.objs.size + 4)) { s with heap := g }) :
    wpAny (model prog w) A (call (.type "zip") [.ref l1, .ref l2]) Q E s := by
  refine callType_new PySem.F.called_zip (by decide) (PySem.F.typeCall_zip_2 _ _) (PySem.F.newCall_zip_2 _ _) (fun obj => PySem.F.args_object_init_3 obj _ _) PySem.F.entry_zip_new (meets_zipK t1 t2 l1 l2 xs ys) ⟨m1, m2, ?_⟩
  have y1 : (s.heap.push (itO t1 l1)).objs.size = s.heap.objs.size + 1 := Heap.size_push ..
  have y2 : (zk2 t1 t2 s.heap l1 l2).objs.size = s.heap.objs.size + 2 := by rw [Heap.size_push, y1]
  have y3 : ((zk2 t1 t2 s.heap l1 l2).push { cls := .type "tuple", data := .seq #[.ref s.heap.objs.size, .ref (s.heap.push (itO t1 l1)).objs.size] }).objs.size = s.heap.objs.size + 3 := by rw [Heap.size_push, y2]
  have y4 : (zk4 t1 t2 s.heap l1 l2).objs.size = s.heap.objs.size + 4 := by rw [Heap.size_push, y3]
  have y5 : (zk5 t1 t2 s.heap l1 l2).objs.size = s.heap.objs.size + 5 := by rw [Heap.size_push, y4]
  have f1 : ∀ (t : Bool) (l : Addr), (itO t l).isFreed = false := fun t l => by cases t <;> rfl
  have e5 : (zk5 t1 t2 s.heap l1 l2).get? (zk4 t1 t2 s.heap l1 l2).objs.size = some _ := Heap.get?_push_size _ rfl
  have e4 : (zk5 t1 t2 s.heap l1 l2).get? ((zk2 t1 t2 s.heap l1 l2).push { cls := .type "tuple", data := .seq #[.ref s.heap.objs.size, .ref (s.heap.push (itO t1 l1)).objs.size] }).objs.size = some _ := Heap.get?_push_of_some _ (Heap.get?_push_size _ rfl)
  have e3 : (zk5 t1 t2 s.heap l1 l2).get? (zk2 t1 t2 s.heap l1 l2).objs.size = some _ := Heap.get?_push_of_some _ (Heap.get?_push_of_some _ (Heap.get?_push_size _ rfl))
  have e2 : (zk5 t1 t2 s.heap l1 l2).get? (s.heap.push (itO t1 l1)).objs.size = some (itO t2 l2) := Heap.get?_push_of_some _ (Heap.get?_push_of_some _ (Heap.get?_push_of_some _ (Heap.get?_push_size _ (f1 _ _))))
  have e1 : (zk5 t1 t2 s.heap l1 l2).get? s.heap.objs.size = some (itO t1 l1) := Heap.get?_push_of_some _ (Heap.get?_push_of_some _ (Heap.get?_push_of_some _ (Heap.get?_push_of_some _ (Heap.get?_push_size _ (f1 _ _)))))
  have iK : ∀ (t : Bool) (g : Heap) (c l : Addr), g.get? c = some (itO t l) → ItK t g c l 0 := fun t g c l e => by cases t <;> exact ⟨_, e, rfl, rfl⟩
  show _ ∧ _
  rw [y2, y3, y4] at e5
  rw [y1, y2] at e3
  rw [y3] at e4
  rw [y1] at e2
  rw [y4]
  exact ⟨⟨_, e5, rfl⟩, h _ e5 e3 e4 (iK _ _ _ _ e1) (iK _ _ _ _ e2) y5 fun c o q => Heap.get?_push_of_some _ (Heap.get?_push_of_some _ (Heap.get?_push_of_some _ (Heap.get?_push_of_some _ (Heap.get?_push_of_some _ q))))⟩
end
end L2
/-! loops and comprehensions over zip of two sequences, each a list or a tuple -/
namespace L2
open PySem PySem.Spec PyProof.Rows
section
variable {X : Cx}
def SqS (t : Bool) (K : PySem.W.Frag) (H : Hp) (a : Addr) (xs : List V) : Prop := if t then SqT K H a xs else SqL K H a xs
theorem SqK.lt {t : Bool} {h : Heap} {a : Addr} {vs : Array Value} (x : SqK t h a vs) : a < h.objs.size := by
  cases t
  · obtain ⟨o, e, _⟩ := x
    exact Heap.lt_size e
  · obtain ⟨o, e, _⟩ := x
    exact Heap.lt_size e
theorem Inv.sqs {pins : List (Addr × Obj)} {σ : St} {H : Hp} {s : Shared} {t : Bool} {a : Addr} {xs : List V} (I : Inv X pins σ H s) (h : SqS t X.K H a xs) : ∃ its : List Value, Vals xs its ∧ SqK t s.heap a its.toArray ∧ xs.length ≤ sizeLine := by
  cases t
  · obtain ⟨its, rv, p, z⟩ := I.list h
    exact ⟨its, rv, p.isList, z⟩
  · obtain ⟨its, rv, p, z⟩ := I.tuple h
    exact ⟨its, rv, p, z⟩
theorem Inv.sqs_inj {pins : List (Addr × Obj)} {σ : St} {H : Hp} {s : Shared} {t : Bool} {a : Addr} {xs ys : List V} (I : Inv X pins σ H s) (h : SqS t X.K H a xs) (g : SqS t X.K H a ys) : xs = ys := by
  cases t
  · exact I.list_inj h g
  · exact I.tuple_inj h g
theorem SqS.l {K : PySem.W.Frag} {H : Hp} {a : Addr} {xs : List V} (h : H a = some (.lst xs)) : SqS false K H a xs := SqL.of h
theorem SqS.t {K : PySem.W.Frag} {H : Hp} {a : Addr} {xs : List V} (h : H a = some (.tup xs)) : SqS true K H a xs := SqT.of h
/-- zip(l1, l2) -/
def Itk (K : PySem.W.Frag) (t1 t2 : Bool) (a b : Addr) : It :=
  ⟨fun i H => ∃ xs ys x y, SqS t1 K H a xs ∧ SqS t2 K H b ys ∧ xs[i]? = some x ∧ ys[i]? = some y,
   fun i H v H' => ∃ p x y, v = .ref p ∧ H p = none ∧ H' = upd H p (.tup [x, y]) ∧ (∀ xs, SqS t1 K H a xs → xs[i]? = some x) ∧ ∀ ys, SqS t2 K H b ys → ys[i]? = some y,
   fun i H => ∃ xs ys, SqS t1 K H a xs ∧ SqS t2 K H b ys ∧ (xs.length ≤ i ∨ ys.length ≤ i)⟩
theorem turn_zipK {t1 t2 : Bool} {P : Program} {w : World} {K : PySem.W.Frag} {es : List PySem.Expr} {kk : Nat} {pos : Pos} {a b z TI TO i1 i2 : Addr} (D : ZipApart z TI TO i1 i2 a b) :
    Turn P w K (.Tuple es kk pos) (Itk K t1 t2 a b) [z, TI, TO, i1, i2] z (fun i h => IsZip h z TI TO .none ∧ IsPair h TI (.ref i1) (.ref i2) ∧ (∃ u v, IsPair h TO u v) ∧ ItK t1 h i1 a i ∧ ItK t2 h i2 b i) where
  mem := by simp
  obj := fun i h st c hc => by
    obtain ⟨h1, h2, ⟨u, v, h3⟩, h4, h5⟩ := st
    simp only [List.mem_cons, List.not_mem_nil, or_false] at hc
    rcases hc with rfl | rfl | rfl | rfl | rfl
    · exact ⟨_, h1, fun v z => by have z' : Data.fields _ = Data.cell v := z; cases z'⟩
    · exact ⟨_, h2, fun v z => by have z' : Data.seq _ _ = Data.cell v := z; cases z'⟩
    · exact ⟨_, h3, fun v z => by have z' : Data.seq _ _ = Data.cell v := z; cases z'⟩
    · exact h4.obj
    · exact h5.obj
  keep := fun i h h' st k => by
    obtain ⟨h1, h2, ⟨u, v, h3⟩, h4, h5⟩ := st
    exact ⟨k z (by simp) _ h1, k TI (by simp) _ h2, ⟨u, v, k TO (by simp) _ h3⟩, h4.at fun o e => k i1 (by simp) o e, h5.at fun o e => k i2 (by simp) o e⟩
  item := by
    intro X hP hw hK hc i pins s σ H E I hf st hg
    subst hP hw hK
    obtain ⟨xs, ys, x, y, qa, qb, hx, hy⟩ := hg
    obtain ⟨its, rv, pa, _⟩ := I.sqs qa
    obtain ⟨jts, rw', pb, _⟩ := I.sqs qb
    obtain ⟨ux, hux, rx⟩ := rv.get hx
    obtain ⟨uy, huy, ry⟩ := rw'.get hy
    obtain ⟨h1, h2, ⟨u, v, h3⟩, h4, h5⟩ := st
    refine pyNextK_item D h1 h2 h3 h4 h5 pa pb (x := ux) (y := uy) (by simpa using hux) (by simpa using huy) fun h' a1 a2 a3 a4 a5 a6 k => ?_
    refine ⟨_, rfl, wpAny_letOwnedTupleGo_zip a1 fun h'' b1 sb => ?_⟩
    have hsz : s.heap.objs.size ≠ z := Nat.ne_of_gt (Heap.lt_size h1)
    have nfp : ∀ c ∈ [z, TI, TO, i1, i2], s.heap.objs.size ≠ c := fun c hc => by
      have : ∃ o, s.heap.get? c = some o := by
        obtain ⟨o4, g4, _⟩ := h4.obj
        obtain ⟨o5, g5, _⟩ := h5.obj
        simp only [List.mem_cons, List.not_mem_nil, or_false] at hc
        rcases hc with rfl | rfl | rfl | rfl | rfl
        · exact ⟨_, h1⟩
        · exact ⟨_, h2⟩
        · exact ⟨_, h3⟩
        · exact ⟨_, g4⟩
        · exact ⟨_, g5⟩
      obtain ⟨o, e⟩ := this
      exact Nat.ne_of_gt (Heap.lt_size e)
    have hn : H s.heap.objs.size = none := I.hok.fresh (Nat.le_refl _)
    have kk' : ∀ c o, c ∉ [z, TI, TO, i1, i2] → s.heap.get? c = some o → h''.get? c = some o := fun c o hc e =>
      (sb.2 c fun q => hc (by simp [q])).trans (k c o (fun q => hc (by simp [q])) (fun q => hc (by simp [q])) (fun q => hc (by simp [q])) (fun q => hc (by simp [q])) e)
    have tO : h''.get? s.heap.objs.size = some { cls := .type "tuple", data := .seq #[ux, uy] } := (sb.2 _ hsz).trans a5
    have nt : ∀ c u, H c = some u → c ∉ [z, TI, TO, i1, i2] := fun c u e hc => by
      have := (hf c hc).1
      rw [e] at this
      cases this
    have tupOk : ObjOk X.prog X.w (upd H s.heap.objs.size (.tup [x, y])) h'' s.heap.objs.size (.tup [x, y]) :=
      ⟨by show 2 ≤ sizeLine; decide, [ux, uy], .cons rx (.cons ry .nil), ⟨_, tO, rfl, _, rfl⟩⟩
    have I1 : Inv X pins σ (upd H s.heap.objs.size (.tup [x, y])) { s with heap := h'' } := by
      refine I.step (g' := s.gens) (d' := s.drawn) (t' := s.toks) (ch := [z, TI, TO, i1, i2]) (fun c hc => ⟨(hf c hc).2.2.2.1, (hf c hc).2.1, (hf c hc).2.2.2.2.1, (hf c hc).2.2.2.2.2⟩) (fun c o _ _ hc e _ => kk' c o hc e) (fun c o _ _ hc e _ => ⟨o.slots, kk' c o hc e⟩)
        (fun c o _ e n => by rw [upd_ne (Nat.ne_of_lt (Heap.lt_size e))]; exact n) (fun c o hc e => ⟨o, kk' c o hc e⟩) (fun c vs e => by rw [upd_ne (ne_of_none e hn)]; exact e) (fun c o vs e => by rw [upd_ne (ne_of_none e hn)]; exact e)
        (fun c ps e => ⟨#[], by rw [upd_ne (ne_of_none e hn), e]; simp⟩) (fun m hm => ?_) (fun c o e => ?_) I.bare
      · obtain ⟨o, es', ep, ho, r⟩ := hm
        exact ⟨o, es', ep, kk' _ o (fun q => (hf _ q).2.1 rfl) ho, r⟩
      · by_cases hcs : c = s.heap.objs.size
        · subst hcs
          rw [upd_same] at e
          cases e
          exact tupOk
        · rw [upd_ne hcs] at e
          refine (I.hok c o e).stay (fun d v hd q => kk' d v ?_ q) (fun d q => by rw [upd_ne (ne_of_none q hn)]; exact q) fun d vs q => by rw [upd_ne (ne_of_none q hn)]; exact q
          rcases hd with hd | hd
          · rw [hd]; exact nt c o e
          · exact nt d _ hd
    have g4 : ItK t1 h'' i1 a (i + 1) := a3.at fun o e => (sb.2 _ D.i1z).trans e
    have g5 : ItK t2 h'' i2 b (i + 1) := a4.at fun o e => (sb.2 _ D.i2z).trans e
    have g2 : IsPair h'' TI (.ref i1) (.ref i2) := (sb.2 _ D.TIz).trans (k _ _ D.TIz D.TITO D.TIi1 D.TIi2 h2)
    have g3 : IsPair h'' TO ux uy := (sb.2 _ D.TOz).trans a2
    exact ⟨.ref s.heap.objs.size, _, I1, rfl, ⟨_, x, y, rfl, hn, rfl, fun xs' q => by rw [I.sqs_inj q qa]; exact hx, fun ys' q => by rw [I.sqs_inj q qb]; exact hy⟩, ⟨b1, g2, ⟨_, _, g3⟩, g4, g5⟩, fun c hc => by rw [upd_ne (Ne.symm (nfp c hc))]; exact (hf c hc).1⟩
  done := by
    intro X hP hw hK hc i pins s σ H E I hf st hg
    subst hP hw hK
    obtain ⟨xs, ys, qa, qb, hl⟩ := hg
    obtain ⟨its, rv, pa, _⟩ := I.sqs qa
    obtain ⟨jts, rw', pb, _⟩ := I.sqs qb
    obtain ⟨h1, h2, ⟨u, v, h3⟩, h4, h5⟩ := st
    have l1 := rv.length
    have l2 := rw'.length
    have hend : its.toArray[i]? = none ∨ jts.toArray[i]? = none := by
      rcases hl with hl | hl
      · exact .inl (by simp; omega)
      · exact .inr (by simp; omega)
    refine pyNextK_end (I.ok.hd hc) D h1 h2 h3 h4 h5 pa pb hend fun h' k => ⟨rfl, ?_⟩
    have kk' : ∀ c o, c ∉ [z, TI, TO, i1, i2] → s.heap.get? c = some o → h'.get? c = some o := fun c o hc e =>
      k c o (fun q => hc (by simp [q])) (fun q => hc (by simp [q])) (fun q => hc (by simp [q])) (fun q => hc (by simp [q])) e
    have nt : ∀ c u, H c = some u → c ∉ [z, TI, TO, i1, i2] := fun c u e hc => by
      have := (hf c hc).1
      rw [e] at this
      cases this
    refine I.step (g' := s.gens) (d' := s.drawn) (t' := s.toks) (ch := [z, TI, TO, i1, i2]) (fun c hc => ⟨(hf c hc).2.2.2.1, (hf c hc).2.1, (hf c hc).2.2.2.2.1, (hf c hc).2.2.2.2.2⟩) (fun c o _ _ hc e _ => kk' c o hc e) (fun c o _ _ hc e _ => ⟨o.slots, kk' c o hc e⟩)
      (fun _ _ _ _ n => n) (fun c o hc e => ⟨o, kk' c o hc e⟩) (fun _ _ e => e) (fun _ _ _ e => e) (fun c ps e => ⟨#[], by rw [e]; simp⟩) (fun m hm => ?_) (fun c o e => ?_) I.bare
    · obtain ⟨o, es', ep, ho, r⟩ := hm
      exact ⟨o, es', ep, kk' _ o (fun q => (hf _ q).2.1 rfl) ho, r⟩
    · refine (I.hok c o e).stay (fun d v hd q => kk' d v ?_ q) (fun _ q => q) fun _ _ q => q
      rcases hd with hd | hd
      · rw [hd]; exact nt c o e
      · exact nt d _ hd
  self := fun _ _ _ _ _ st h => wpAny_pyIter_zip st.1 h
def iZipK (K : PySem.W.Frag) (t1 t2 : Bool) (ta : TA) : TI := fun σ H R => ta σ H fun vs H1 => ∃ a b, vs = [.ref a, .ref b] ∧ (∃ xs, SqS t1 K H1 a xs) ∧ (∃ ys, SqS t2 K H1 b ys) ∧ R (Itk K t1 t2 a b) H1
theorem pi_zipK {t1 t2 : Bool} {es : List PySem.Expr} {kk : Nat} {tpos : Pos} {a b : PySem.Expr} {ta : TA} {p pos : Pos} (hg : Gl X "zip") (hm : X.mg "zip" = none) (ha : PA X [a, b] ta) (hs : starEach [a, b] X.env = (false, eval a X.env) :: starEach [b] X.env := by rfl) (hs2 : (backTo pos (starEach [b] X.env)).any (·.1) = false := by rfl) :
    PI X (.Tuple es kk tpos) (.Call (.Name "zip" p) [a, b] [] pos) (iZipK X.K t1 t2 ta) := by
  intro pins s σ H R I h
  refine Call_ (ld_blt I hg hm PyProof.Rows.boot_zip (PyProof.Rows.callWith_type1 (thn (ha pos pins s σ H _ I h) fun us s1 ⟨vs, H1, I1, r1, q1⟩ => ?_) hs hs2))
  obtain ⟨la, lb, e, ⟨xs, qa⟩, ⟨ys, qb⟩, q⟩ := q1
  subst e
  obtain ⟨u1, u2, rfl, ra, rb⟩ := vals2 r1
  cases ra
  cases rb
  obtain ⟨its, rv, pa, _⟩ := I1.sqs qa
  obtain ⟨jts, rw', pb, _⟩ := I1.sqs qb
  have lta : la < s1.heap.objs.size := by
    exact pa.lt
  have ltb : lb < s1.heap.objs.size := by
    exact pb.lt
  refine call_zipK pa pb fun h' z1 z2 z3 z4 z5 zs zk => ?_
  refine wpAny_pyIter_zip z1 ?_
  have I2 : Inv X pins σ H1 { s1 with heap := h' } := I1.kept (t' := s1.toks) zk
  have D : ZipApart (s1.heap.objs.size + 4) (s1.heap.objs.size + 2) (s1.heap.objs.size + 3) s1.heap.objs.size (s1.heap.objs.size + 1) la lb := by
    have la' : @LT.lt Nat _ la s1.heap.objs.size := lta
    have lb' : @LT.lt Nat _ lb s1.heap.objs.size := ltb
    constructor <;> (show @Ne Nat _ _; omega)
  refine ⟨s1.heap.objs.size + 4, _, _, _, H1, rfl, I2, turn_zipK D, ⟨z1, z2, ⟨_, _, z3⟩, z4, z5⟩, fun c hc => ?_, q⟩
  have hge : s1.heap.objs.size ≤ c := by
    simp only [List.mem_cons, List.not_mem_nil, or_false] at hc
    rcases hc with rfl | rfl | rfl | rfl | rfl <;> omega
  have f := I1.fpOk (H' := H1) hge (I1.hok.fresh hge)
  exact f
/-- over zip of two lists that the body leaves as they are; each pair a new tuple -/
theorem for_zipK {t1 t2 : Bool} {K : PySem.W.Frag} {a b : Addr} {xs ys : List V} {g : TG} {tb : TS} {D : Ends} {σ : St} {H : Hp} (n : Nat) (hn : n = min xs.length ys.length) (Pv : Nat → St → Hp → Prop) (h0 : Pv 0 σ H) (hl : ∀ i σ H, i ≤ n → Pv i σ H → SqS t1 K H a xs ∧ SqS t2 K H b ys)
    (hs : ∀ i x y σ H p, xs[i]? = some x → ys[i]? = some y → Pv i σ H → H p = none → g (.ref p) σ (upd H p (.tup [x, y])) fun σ2 H2 => tb { D with nx := Pv (i + 1), ct := Pv (i + 1), bk := D.nx } σ2 H2) (hd : ∀ σ H, Pv n σ H → D.nx σ H) :
    ∃ W : Nat → Nat → St → Hp → Prop, (∃ m, W 0 m σ H) ∧ ∀ i m σ H, W i m σ H →
      ((Itk K t1 t2 a b).stop i H ∧ D.nx σ H) ∨ ((Itk K t1 t2 a b).go i H ∧ ∃ N : St → Hp → Prop, (∀ σ' H', N σ' H' → ∃ m', m' < m ∧ W (i + 1) m' σ' H') ∧ ∀ x H', (Itk K t1 t2 a b).yld i H x H' → g x σ H' fun σ2 H2 => tb { D with nx := N, ct := N, bk := D.nx } σ2 H2) := by
  refine ⟨fun i m σ H => m = n - i ∧ i ≤ n ∧ Pv i σ H, ⟨n, by simp, Nat.zero_le _, h0⟩, ?_⟩
  rintro i m σ H ⟨rfl, hi, p⟩
  obtain ⟨qa, qb⟩ := hl i σ H hi p
  rcases Nat.lt_or_ge i n with hlt | hge
  · have h1 : i < xs.length := by omega
    have h2 : i < ys.length := by omega
    refine .inr ⟨⟨xs, ys, xs[i], ys[i], qa, qb, by simp [h1], by simp [h2]⟩, Pv (i + 1), fun σ' H' p' => ⟨n - (i + 1), by omega, rfl, hlt, p'⟩, fun v H' yl => ?_⟩
    obtain ⟨pa, x, y, rfl, hp, rfl, hx, hy⟩ := yl
    exact hs i x y σ H pa (hx xs qa) (hy ys qb) p hp
  · obtain rfl : i = n := by omega
    exact .inl ⟨⟨xs, ys, qa, qb, by omega⟩, hd σ H p⟩
end
end L2
/-! sum of a list of numbers; range downward -/
namespace L2
open PySem PySem.Spec PyProof.Rows
section
variable {X : Cx}
def iRngD (ta : TA) : TI := fun σ H R => ta σ H fun vs H1 => ∃ n : Nat, vs = [.int ((n : Int) - 1), .int (-1), .int (-1)] ∧ n ≤ 1000 ∧ R (Its ((n : Int) - 1) (-1) n) H1
end
end L2
/-! isinstance of a caught exception: its class asked for, too -/
namespace L2
open PySem PySem.Spec PyProof.Rows PySem.W
section
variable {prog : Program} {w : World} {A : Around} {E : Value → Shared → Prop} {K : Frag} {h : Heap} {g : Array GenState} {d : Drawn} {t : Nat} {os : OsState} {a C : Addr} {o : Obj}
/-- what the fragment tells of an exception's class -/
structure XCls (K : Frag) (C : Addr) : Prop where
  ga : findIn K (.ref C) "__getattribute__" = some (some (.builtin "BaseException.__getattribute__"))
  gt : findIn K (.ref C) "__getattr__" = some none
  cl : findIn K (.ref C) "__class__" = some (some (.builtin "object.__class__"))
  gg : specialIn K (.builtin "object.__class__") "__get__" = some (some (.builtin "getset_descriptor.__get__"))
  tk : takesIn K (.builtin "object.__class__") = some true
  mo : mroIn K C (.type "object") = some true
  mb : mroIn K C (.type "BaseException") = some true
  cd : (clsIn K C).isSome = true
end
section
variable {X : Cx}
/-- isinstance(caught, C), as the fragment decides it -/
def rIsiE (K : PySem.W.Frag) (c : V) (cv : Value) : List V → Hp → VK → Prop := fun xs H Q => ∃ (a C : Addr) (b : Bool), xs = [.ref a, c] ∧ H a = some (excO a (.ref C)) ∧ XCls K C ∧ PySem.W.kitOne K (.ref C) cv = some b ∧ Q (.bl b) H
end
end L2
/-! What stands in the heap: rows of rows. A list that is still made is left out of it (del). -/
namespace My
open PySem L2
def del (H : Hp) (a : Addr) : Hp := fun b => if b = a then none else H b
theorem del_self (H : Hp) (a : Addr) : del H a a = none := if_pos rfl
theorem del_ne {H : Hp} {a b : Addr} (h : b ≠ a) : del H a b = H b := if_neg h
theorem del_sub (H : Hp) (a : Addr) : Same (del H a) H := fun b o e => by
  by_cases h : b = a
  · subst h; rw [del_self] at e; cases e
  · rw [del_ne h] at e; exact e
theorem del_mono {H H' : Hp} (a : Addr) (s : Same H H') : Same (del H a) (del H' a) := fun b o e => by
  by_cases h : b = a
  · subst h; rw [del_self] at e; cases e
  · rw [del_ne h] at e ⊢; exact s _ _ e
theorem del_up (H : Hp) (a : Addr) (o : HO) : Same (del H a) (upd H a o) := fun b u e => by
  by_cases h : b = a
  · subst h; rw [del_self] at e; cases e
  · rw [del_ne h] at e; rw [upd_ne h]; exact e
theorem del_upd (H : Hp) (a : Addr) (o : HO) : del (upd H a o) a = del H a := by
  funext b
  by_cases h : b = a
  · subst h; rw [del_self, del_self]
  · rw [del_ne h, del_ne h, upd_ne h]
theorem del_new {H : Hp} {a : Addr} (h : H a = none) : del H a = H := by
  funext b
  by_cases z : b = a
  · subst z; rw [del_self, h]
  · exact del_ne z
theorem del_at {H : Hp} {a b : Addr} {o : HO} (e : H b = some o) (h : b ≠ a) : del H a b = some o := by rw [del_ne h]; exact e
/-! rows -/
section
variable {α : Type} {R : Hp → Addr → α → Prop}
def At (R : Hp → Addr → α → Prop) (H : Hp) (bs : List Addr) (xs : List α) : Prop := bs.length = xs.length ∧ ∀ (i : Nat) (b : Addr) (x : α), bs[i]? = some b → xs[i]? = some x → R H b x
def Mo (R : Hp → Addr → α → Prop) : Prop := ∀ {H H' : Hp} {b : Addr} {x : α}, Same H H' → R H b x → R H' b x
theorem At.nil {H : Hp} : At R H [] [] := ⟨rfl, fun i b x e => by simp at e⟩
theorem At.keep {H H' : Hp} {bs : List Addr} {xs : List α} (h : At R H bs xs) (m : Mo R) (s : Same H H') : At R H' bs xs := ⟨h.1, fun i b x e1 e2 => m s (h.2 i b x e1 e2)⟩
theorem At.snoc {H : Hp} {bs : List Addr} {xs : List α} {b : Addr} {x : α} (h : At R H bs xs) (r : R H b x) : At R H (bs ++ [b]) (xs ++ [x]) := by
  refine ⟨by simp [h.1], fun i c y e1 e2 => ?_⟩
  have hl := h.1
  rcases Nat.lt_or_ge i bs.length with z | z
  · rw [List.getElem?_append_left z] at e1
    rw [List.getElem?_append_left (by omega)] at e2
    exact h.2 i c y e1 e2
  · rw [List.getElem?_append_right z] at e1
    rw [List.getElem?_append_right (by omega)] at e2
    rw [hl] at e1
    cases hi : i - xs.length with
    | zero => rw [hi] at e1 e2; cases e1; cases e2; exact r
    | succ k => rw [hi] at e1; simp at e1
theorem At.app {H : Hp} {bs cs : List Addr} {xs ys : List α} (h : At R H bs xs) (g : At R H cs ys) : At R H (bs ++ cs) (xs ++ ys) := by
  refine ⟨by simp [h.1, g.1], fun i c y e1 e2 => ?_⟩
  have hl := h.1
  rcases Nat.lt_or_ge i bs.length with z | z
  · rw [List.getElem?_append_left z] at e1
    rw [List.getElem?_append_left (by omega)] at e2
    exact h.2 i c y e1 e2
  · rw [List.getElem?_append_right z] at e1
    rw [List.getElem?_append_right (by omega)] at e2
    rw [hl] at e1
    exact g.2 _ c y e1 e2
theorem At.take {H : Hp} {bs : List Addr} {xs : List α} (h : At R H bs xs) (k : Nat) : At R H (bs.take k) (xs.take k) := by
  refine ⟨by simp [h.1], fun i c y e1 e2 => ?_⟩
  rw [List.getElem?_take] at e1 e2
  split at e1
  · rename_i hk; rw [if_pos hk] at e2; exact h.2 i c y e1 e2
  · cases e1
theorem At.drop {H : Hp} {bs : List Addr} {xs : List α} (h : At R H bs xs) (k : Nat) : At R H (bs.drop k) (xs.drop k) := by
  refine ⟨by simp [h.1], fun i c y e1 e2 => ?_⟩
  rw [List.getElem?_drop] at e1 e2
  exact h.2 _ c y e1 e2
theorem At.set {H : Hp} {bs : List Addr} {xs : List α} {b : Addr} {x : α} (h : At R H bs xs) (k : Nat) (r : R H b x) : At R H (bs.set k b) (xs.set k x) := by
  refine ⟨by simp [h.1], fun i c y e1 e2 => ?_⟩
  rw [List.getElem?_set] at e1 e2
  by_cases hk : k = i
  · subst hk
    have hl := h.1
    by_cases hb : k < bs.length
    · rw [if_pos rfl, if_pos hb] at e1
      rw [if_pos rfl, if_pos (by omega)] at e2
      cases e1; cases e2; exact r
    · rw [if_pos rfl, if_neg hb] at e1; cases e1
  · rw [if_neg hk] at e1 e2
    exact h.2 _ c y e1 e2
theorem At.get {H : Hp} {bs : List Addr} {xs : List α} {i : Nat} {x : α} (h : At R H bs xs) (e : xs[i]? = some x) : ∃ b, bs[i]? = some b ∧ R H b x := by
  have hi : i < bs.length := by rw [h.1]; exact (List.getElem?_eq_some_iff.mp e).1
  exact ⟨bs[i], List.getElem?_eq_getElem hi, h.2 i _ x (List.getElem?_eq_getElem hi) e⟩
theorem At.ref {H : Hp} {bs : List Addr} {xs : List α} {i : Nat} {v : V} (h : At R H bs xs) (e : (bs.map V.ref)[i]? = some v) : ∃ b x, v = .ref b ∧ bs[i]? = some b ∧ xs[i]? = some x ∧ R H b x := by
  rw [List.getElem?_map] at e
  cases q : bs[i]? with
  | none => rw [q] at e; cases e
  | some b =>
    rw [q] at e
    have hi : i < xs.length := by rw [← h.1]; exact (List.getElem?_eq_some_iff.mp q).1
    exact ⟨b, xs[i], (Option.some.inj e).symm, rfl, List.getElem?_eq_getElem hi, h.2 i b _ q (List.getElem?_eq_getElem hi)⟩
theorem ref_at {bs : List Addr} {i : Nat} {b : Addr} (h : bs[i]? = some b) : (bs.map V.ref)[i]? = some (.ref b) := by rw [List.getElem?_map, h]; rfl
/-- a tuple, a list of these -/
def TupR (R : Hp → Addr → α → Prop) (H : Hp) (b : Addr) (xs : List α) : Prop := ∃ bs : List Addr, H b = some (.tup (bs.map V.ref)) ∧ At R H bs xs
def LstR (R : Hp → Addr → α → Prop) (H : Hp) (b : Addr) (xs : List α) : Prop := ∃ bs : List Addr, H b = some (.lst (bs.map V.ref)) ∧ At R H bs xs
theorem mo_tup (m : Mo R) : Mo (TupR R) := fun s ⟨bs, e, h⟩ => ⟨bs, s _ _ e, h.keep m s⟩
theorem mo_lst (m : Mo R) : Mo (LstR R) := fun s ⟨bs, e, h⟩ => ⟨bs, s _ _ e, h.keep m s⟩
end
/-- a fraction; a list of whole numbers -/
def FrR (H : Hp) (b : Addr) (q : Rat) : Prop := H b = some (.tup [.int q.num, .int q.den])
def IntsL (H : Hp) (b : Addr) (ns : List Int) : Prop := H b = some (.lst (ns.map V.int))
theorem mo_fr : Mo FrR := fun s h => s _ _ h
theorem mo_ints : Mo IntsL := fun s h => s _ _ h
/-- a fraction is no list -/
theorem FrR.del {H : Hp} {a b : Addr} {q : Rat} {ys : List V} (h : FrR H b q) (e : H a = some (.lst ys)) : FrR (del H a) b q := del_at h fun z => by rw [z] at h; unfold FrR at h; rw [e] at h; cases h
theorem at_del {H : Hp} {a : Addr} {ys : List V} (e : H a = some (.lst ys)) {bs : List Addr} {qs : List Rat} (h : At FrR H bs qs) : At FrR (del H a) bs qs := ⟨h.1, fun i b x e1 e2 => (h.2 i b x e1 e2).del e⟩
/-! what an iterator yields, while all that was there stays -/
structure Run (J : It) (H1 : Hp) (n : Nat) (f : Nat → Hp → V → Hp → Prop) : Prop where
  go : ∀ i H2, i < n → Same H1 H2 → J.go i H2
  yl : ∀ i H2 x H3, i < n → Same H1 H2 → J.yld i H2 x H3 → f i H2 x H3
  st : ∀ H2, Same H1 H2 → J.stop n H2
section
variable {K : PySem.W.Frag}
theorem run_tup {H : Hp} {a : Addr} {xs : List V} (h : H a = some (.tup xs)) : Run (Itt K a) H xs.length (fun i H2 x H3 => H3 = H2 ∧ xs[i]? = some x) :=
  ⟨fun i H2 hi s => ⟨xs, xs[i], SqT.of (s _ _ h), List.getElem?_eq_getElem hi⟩, fun i H2 x H3 _ s y => ⟨y.1, y.2 _ (SqT.of (s _ _ h))⟩, fun H2 s => ⟨xs, SqT.of (s _ _ h), Nat.le_refl _⟩⟩
theorem run_list {H : Hp} {a : Addr} {xs : List V} (h : H a = some (.lst xs)) : Run (Itl K a) H xs.length (fun i H2 x H3 => H3 = H2 ∧ xs[i]? = some x) :=
  ⟨fun i H2 hi s => ⟨xs, xs[i], SqL.of (s _ _ h), List.getElem?_eq_getElem hi⟩, fun i H2 x H3 _ s y => ⟨y.1, y.2 _ (SqL.of (s _ _ h))⟩, fun H2 s => ⟨xs, SqL.of (s _ _ h), Nat.le_refl _⟩⟩
theorem comp_run {J : It} {n : Nat} {H1 : Hp} {f : Nat → Hp → V → Hp → Prop} {acc : Addr} {σ0 : St} {g : TG} {te : TE} {G : Hp → Prop} (r : Run J H1 n f) (hn : n ≤ 1000) (hacc : H1 acc = none) (Iv : Nat → List V → St → Hp → Prop) (h0 : Iv 0 [] σ0 H1)
    (hs : ∀ (i : Nat) (ys : List V) (σ : St) (H2 : Hp) (x : V) (H3 : Hp), i < n → Same H1 H2 → H2 acc = some (.lst ys) → Iv i ys σ (del H2 acc) → f i H2 x H3 → ∀ C : St → VK, (∀ (σ4 : St) (v : V) (H5 : Hp), Same H2 H5 → Iv (i + 1) (ys ++ [v]) σ4 (del H5 acc) → C σ4 v H5) →
      g x σ H3 fun σ4 H4 => te σ4 H4 (C σ4))
    (fin : ∀ (ys : List V) (σ : St) (H2 : Hp), Same H1 H2 → H2 acc = some (.lst ys) → ys.length = n → Iv n ys σ (del H2 acc) → G H2) :
    ∃ W : Nat → Nat → List V → St → Hp → Prop, (∃ m, W 0 m [] σ0 (upd H1 acc (.lst []))) ∧ ∀ i m ys σc H2, W i m ys σc H2 →
      (J.stop i H2 ∧ G H2) ∨ (J.go i H2 ∧ ∀ x H3, J.yld i H2 x H3 → g x σc H3 fun σ4 H4 => te σ4 H4 fun v H5 => H5 acc = some (.lst ys) ∧ ys.length < sizeLine ∧ ∃ m', m' < m ∧ W (i + 1) m' (ys ++ [v]) σ4 (upd H5 acc (.lst (ys ++ [v])))) := by
  refine ⟨fun i m ys σ H2 => m = n - i ∧ i ≤ n ∧ Same H1 H2 ∧ H2 acc = some (.lst ys) ∧ ys.length = i ∧ Iv i ys σ (del H2 acc), ⟨n, rfl, Nat.zero_le _, ?_, upd_same, rfl, ?_⟩, ?_⟩
  · intro b o e; rw [upd_ne (ne_of_none e hacc)]; exact e
  · rw [del_upd, del_new hacc]; exact h0
  · rintro i m ys σc H2 ⟨rfl, hi, sm, ha, hl, iv⟩
    rcases Nat.lt_or_ge i n with hlt | hge
    · refine .inr ⟨r.go i H2 hlt sm, fun x H3 yl => ?_⟩
      refine hs i ys σc H2 x H3 hlt sm ha iv (r.yl i H2 x H3 hlt sm yl) (fun σ4 v H5 => H5 acc = some (.lst ys) ∧ ys.length < sizeLine ∧ ∃ m', m' < n - i ∧ (m' = n - (i + 1) ∧ i + 1 ≤ n ∧ Same H1 (upd H5 acc (.lst (ys ++ [v]))) ∧ (upd H5 acc (.lst (ys ++ [v]))) acc = some (.lst (ys ++ [v])) ∧ (ys ++ [v]).length = i + 1 ∧ Iv (i + 1) (ys ++ [v]) σ4 (del (upd H5 acc (.lst (ys ++ [v]))) acc))) ?_
      intro σ4 v H5 s5 iv5
      refine ⟨s5 _ _ ha, by rw [sizeLine_eq]; omega, n - (i + 1), by omega, rfl, hlt, ?_, upd_same, by simp [hl], ?_⟩
      · intro b o e; rw [upd_ne (ne_of_none e hacc)]; exact s5 _ _ (sm _ _ e)
      · rw [del_upd]; exact iv5
    · obtain rfl : i = n := by omega
      exact .inl ⟨r.st H2 sm, fin ys σc H2 sm ha hl iv⟩
end
end My
/-! rows of fractions compared; a fraction in a list of them -/
namespace My
open PySem L2 PySem.Spec PyProof.Rows
def frD (q : Rat) : PyData := .tuple [.int q.num, .int (q.den : Int)]
section
variable {X : Cx} {pins : List (Addr × Obj)} {σ : L2.St} {H : Hp} {s : Shared}
/-- whether a value is nought, as it is tracked -/
def isNo (H : Hp) : Value → Bool
  | .ref b => match H b with
    | some (.tup [.int n, .int d]) => n == 0 && d == 1
    | _ => false
  | _ => false
end
end My
namespace Mth
theorem gcd_fmod (a b : Int) : Int.gcd b (a.fmod b) = Int.gcd a b := by
  rw [Int.fmod_def]
  have e : a - b * a.fdiv b = a + b * (-(a.fdiv b)) := by rw [Int.mul_neg, Int.sub_eq_add_neg]
  rw [e, Int.gcd_add_mul_left_right, Int.gcd_comm]
theorem fmod_lt (a b : Int) (h : b ≠ 0) : (a.fmod b).natAbs < b.natAbs := by
  rw [Int.fmod_eq_emod]
  have h1 := Int.emod_nonneg a h
  have h2 := Int.emod_lt a h
  split
  · omega
  · rename_i z
    have : ¬ b ∣ a := fun q => z (Or.inr q)
    have hz : a % b ≠ 0 := fun q => this (Int.dvd_of_emod_eq_zero q)
    omega
/-- the fraction of two numbers -/
def part (t b : Int) : Int := if b < 0 then -(Int.gcd t b : Int) else (Int.gcd t b : Int)
def frac (t b : Int) : Int × Int := (t.fdiv (part t b), b.fdiv (part t b))
theorem gcd_pos (t b : Int) (h : b ≠ 0) : 0 < Int.gcd t b := Int.gcd_pos_of_ne_zero_right _ h
theorem part_ne (t b : Int) (h : b ≠ 0) : part t b ≠ 0 := by
  have := gcd_pos t b h
  unfold part; split <;> omega
theorem part_dvd_l (t b : Int) : part t b ∣ t := by
  unfold part; split
  · exact Int.neg_dvd.mpr (Int.gcd_dvd_left t b)
  · exact Int.gcd_dvd_left t b
theorem part_dvd_r (t b : Int) : part t b ∣ b := by
  unfold part; split
  · exact Int.neg_dvd.mpr (Int.gcd_dvd_right t b)
  · exact Int.gcd_dvd_right t b
theorem frac_l (t b : Int) : (frac t b).1 * part t b = t := by
  show t.fdiv (part t b) * part t b = t
  rw [Int.fdiv_eq_ediv_of_dvd (part_dvd_l t b), Int.ediv_mul_cancel (part_dvd_l t b)]
theorem frac_r (t b : Int) : (frac t b).2 * part t b = b := by
  show b.fdiv (part t b) * part t b = b
  rw [Int.fdiv_eq_ediv_of_dvd (part_dvd_r t b), Int.ediv_mul_cancel (part_dvd_r t b)]
theorem frac_pos (t b : Int) (h : b ≠ 0) : 0 < (frac t b).2 := by
  have e := frac_r t b
  have g := gcd_pos t b h
  rcases Int.lt_or_lt_of_ne h with h1 | h1
  · have hp : part t b < 0 := by unfold part; rw [if_pos h1]; omega
    rcases Int.lt_or_le 0 (frac t b).2 with q | q
    · exact q
    · have : 0 ≤ (frac t b).2 * part t b := Int.mul_nonneg_of_nonpos_of_nonpos q (Int.le_of_lt hp)
      omega
  · have hp : 0 < part t b := by unfold part; rw [if_neg (by omega)]; omega
    rcases Int.lt_or_le 0 (frac t b).2 with q | q
    · exact q
    · have : (frac t b).2 * part t b ≤ 0 := Int.mul_nonpos_of_nonpos_of_nonneg q (Int.le_of_lt hp)
      omega
theorem frac_cross (t b : Int) : (frac t b).1 * b = t * (frac t b).2 := by
  have e1 := frac_l t b
  have e2 := frac_r t b
  generalize (frac t b).1 = n at *
  generalize (frac t b).2 = d at *
  generalize part t b = p at *
  subst e1
  subst e2
  rw [Int.mul_comm d p, Int.mul_assoc]
theorem frac_gcd (t b : Int) (h : b ≠ 0) : Int.gcd (frac t b).1 (frac t b).2 = 1 := by
  have e1 := frac_l t b
  have e2 := frac_r t b
  have g := gcd_pos t b h
  have hp : (part t b).natAbs = Int.gcd t b := by unfold part; split <;> omega
  have k : Int.gcd ((frac t b).1 * part t b) ((frac t b).2 * part t b) = Int.gcd (frac t b).1 (frac t b).2 * (part t b).natAbs := Int.gcd_mul_right _ _ _
  rw [e1, e2, hp] at k
  have : 1 * Int.gcd t b = Int.gcd (frac t b).1 (frac t b).2 * Int.gcd t b := by rw [Nat.one_mul]; exact k
  exact (Nat.eq_of_mul_eq_mul_right g this).symm
/-- sizes -/
theorem part_le (t b : Int) (h : b ≠ 0) : (part t b).natAbs ≤ b.natAbs := by
  have e : (part t b).natAbs = Int.gcd t b := by unfold part; split <;> omega
  rw [e]
  exact Nat.le_of_dvd (Int.natAbs_pos.mpr h) (by
    have := Int.gcd_dvd_right t b
    exact Int.ofNat_dvd_left.mp this)
end Mth
/-! Rows and their measures: the outer product of rows, over the rationals. A form tells a number for each set of columns, written as a list of truths. -/
namespace Wd
abbrev Vec := Nat → Rat
abbrev Frm := List Bool → Rat
def sh (v : Vec) : Vec := fun j => v (j+1)
def at0 (w : Frm) : Frm := fun T => w (false :: T)
def at1 (w : Frm) : Frm := fun T => w (true :: T)
def wg : Vec → Frm → Frm
  | _, _, [] => 0
  | v, w, false :: S => wg (sh v) (at0 w) S
  | v, w, true :: S => v 0 * w (false :: S) - wg (sh v) (at1 w) S
def one : Frm
  | [] => 1
  | false :: S => one S
  | true :: _ => 0
theorem wg_add_v (S : List Bool) : ∀ (u v : Vec) (w : Frm), wg (fun j => u j + v j) w S = wg u w S + wg v w S := by
  induction S with
  | nil => intro u v w; simp only [wg]; grind
  | cons b S ih =>
    intro u v w
    have h := ih (sh u) (sh v)
    have e : sh (fun j => u j + v j) = fun j => sh u j + sh v j := rfl
    cases b
    · simp only [wg, e, h]
    · simp only [wg, e, h]; grind
theorem wg_smul_v (S : List Bool) : ∀ (c : Rat) (v : Vec) (w : Frm), wg (fun j => c * v j) w S = c * wg v w S := by
  induction S with
  | nil => intro c v w; simp [wg]
  | cons b S ih =>
    intro c v w
    have h := ih c (sh v)
    have e : sh (fun j => c * v j) = fun j => c * sh v j := rfl
    cases b
    · simp only [wg, e, h]
    · simp only [wg, e, h]; grind
theorem wg_add (S : List Bool) : ∀ (v : Vec) (w x : Frm), wg v (fun T => w T + x T) S = wg v w S + wg v x S := by
  induction S with
  | nil => intro v w x; simp only [wg]; grind
  | cons b S ih =>
    intro v w x
    have e0 : at0 (fun T => w T + x T) = fun T => at0 w T + at0 x T := rfl
    have e1 : at1 (fun T => w T + x T) = fun T => at1 w T + at1 x T := rfl
    cases b
    · simp only [wg, e0, ih]
    · simp only [wg, e1, ih]; grind
theorem wg_smul (S : List Bool) : ∀ (c : Rat) (v : Vec) (w : Frm), wg v (fun T => c * w T) S = c * wg v w S := by
  induction S with
  | nil => intro c v w; simp [wg]
  | cons b S ih =>
    intro c v w
    have e0 : at0 (fun T => c * w T) = fun T => c * at0 w T := rfl
    have e1 : at1 (fun T => c * w T) = fun T => c * at1 w T := rfl
    cases b
    · simp only [wg, e0, ih]
    · simp only [wg, e1, ih]; grind
theorem wg_sub (S : List Bool) (v : Vec) (w x : Frm) : wg v (fun T => w T - x T) S = wg v w S - wg v x S := by
  have e : (fun T => w T - x T) = fun T => w T + (fun T => (-1) * x T) T := by funext T; grind
  rw [e, wg_add, wg_smul]; grind
/-- twice the same row is nought -/
theorem wg_wg (S : List Bool) : ∀ (v : Vec) (w : Frm), wg v (wg v w) S = 0 := by
  induction S with
  | nil => intro v w; simp [wg]
  | cons b S ih =>
    intro v w
    cases b
    · have e0 : at0 (wg v w) = wg (sh v) (at0 w) := rfl
      simp only [wg, e0, ih]
    · have e1 : at1 (wg v w) = fun T => v 0 * at0 w T - wg (sh v) (at1 w) T := rfl
      have e2 : (fun T => v 0 * at0 w T) = fun T => v 0 * at0 w T := rfl
      simp only [wg, e1]
      rw [wg_sub (x := wg (sh v) (at1 w)) (w := fun T => v 0 * at0 w T), wg_smul, ih]; grind
theorem wg_comm (u v : Vec) (w : Frm) (S : List Bool) : wg u (wg v w) S = - wg v (wg u w) S := by
  have h := wg_wg S (fun j => u j + v j) w
  have e : wg (fun j => u j + v j) w = fun T => wg u w T + wg v w T := by funext T; exact wg_add_v T u v w
  rw [wg_add_v, e, wg_add, wg_add, wg_wg, wg_wg] at h
  grind
/-- all rows of a list, the first one innermost -/
def wgs : List Vec → Frm → Frm
  | [], w => w
  | v :: L, w => wgs L (wg v w)
theorem wgs_smul (L : List Vec) : ∀ (c : Rat) (w : Frm), wgs L (fun T => c * w T) = fun T => c * wgs L w T := by
  induction L with
  | nil => intro c w; rfl
  | cons v L ih =>
    intro c w
    have e : wg v (fun T => c * w T) = fun T => c * wg v w T := by funext T; exact wg_smul T c v w
    simp only [wgs]; rw [e, ih]
def sg (n : Nat) : Rat := if n % 2 = 0 then 1 else -1
theorem sg_succ (n : Nat) : sg (n+1) = - sg n := by unfold sg; split <;> split <;> first | omega | grind
theorem sg_sq (n : Nat) : sg n * sg n = 1 := by unfold sg; split <;> grind
/-- the vector from its place c on -/
def shn (c : Nat) (v : Vec) : Vec := fun j => v (j + c)
def pre (c : Nat) (w : Frm) : Frm := fun T => w (List.replicate c true ++ T)
theorem wg_pre (c : Nat) : ∀ (v : Vec) (w : Frm) (S : List Bool), (∀ j, j < c → v j = 0) →
    wg v w (List.replicate c true ++ S) = sg c * wg (shn c v) (pre c w) S := by
  induction c with
  | zero => intro v w S _; simp [sg]; rfl
  | succ c ih =>
    intro v w S h
    have h0 := h 0 (by omega)
    have := ih (sh v) (at1 w) S (fun j hj => h (j+1) (by omega))
    simp only [List.replicate_succ, List.cons_append, wg]
    rw [this, h0, sg_succ]
    have e1 : shn c (sh v) = shn (c+1) v := by funext j; simp only [shn, sh]; congr 1
    have e2 : pre c (at1 w) = pre (c+1) w := by funext T; simp [pre, at1, List.replicate_succ]
    rw [e1, e2]; grind
theorem wg_none (S : List Bool) : ∀ (v : Vec) (w : Frm), (∀ b ∈ S, b = false) → wg v w S = 0 := by
  induction S with
  | nil => intro v w _; rfl
  | cons b S ih =>
    intro v w h
    have := h b (by simp)
    subst this
    exact ih _ _ (fun b hb => h b (by simp [hb]))
theorem wg_one (d e : Nat) : ∀ (v : Vec) (w : Frm),
    wg v w (List.replicate d false ++ true :: List.replicate e false) = v d * w (List.replicate (d + 1 + e) false) := by
  induction d with
  | zero =>
    intro v w
    simp only [List.replicate_zero, List.nil_append, wg]
    rw [wg_none _ _ _ (fun b hb => (List.mem_replicate.mp hb).2)]
    have : (0 + 1 + e) = e + 1 := by omega
    rw [this, List.replicate_succ]; grind
  | succ d ih =>
    intro v w
    have := ih (sh v) (at0 w)
    simp only [List.replicate_succ, List.cons_append, wg]
    rw [this]
    have : d + 1 + 1 + e = (d + 1 + e) + 1 := by omega
    rw [this, List.replicate_succ]; rfl
/-- the first c columns; these and column j -/
def Tk (c m : Nat) : List Bool := List.replicate c true ++ List.replicate (m - c) false
def Sj (c j m : Nat) : List Bool := List.replicate c true ++ (List.replicate (j - c) false ++ true :: List.replicate (m - 1 - j) false)
theorem wg_Sj {c j m : Nat} {v : Vec} (w : Frm) (hz : ∀ i, i < c → v i = 0) (h1 : c ≤ j) (h2 : j < m) :
    wg v w (Sj c j m) = sg c * (v j * w (Tk c m)) := by
  unfold Sj
  rw [wg_pre c v w _ hz, wg_one]
  have e : j - c + 1 + (m - 1 - j) = m - c := by omega
  simp only [shn, pre, e, Tk]
  have : j - c + c = j := by omega
  rw [this]
theorem Sj_self {c m : Nat} (h : c < m) : Sj c c m = Tk (c+1) m := by
  unfold Sj Tk
  have e : m - 1 - c = m - (c+1) := by omega
  rw [Nat.sub_self, List.replicate_zero, List.nil_append, e, List.replicate_succ', List.append_assoc]; rfl
def tri : Nat → Rat
  | 0 => 1
  | c+1 => tri c * sg c
theorem tri_sq (c : Nat) : tri c * tri c = 1 := by
  induction c with
  | zero => simp [tri]
  | succ c ih => simp only [tri]; have := sg_sq c; grind
/-- the measure of the first c columns -/
def ld (c m : Nat) (w : Frm) : Rat := tri c * w (Tk c m)
theorem ld_wg {c m : Nat} {v : Vec} (w : Frm) (hz : ∀ i, i < c → v i = 0) (h : c < m) : ld (c+1) m (wg v w) = v c * ld c m w := by
  have := wg_Sj (v := v) w hz (Nat.le_refl c) h
  rw [Sj_self h] at this
  unfold ld
  rw [this]; simp only [tri]; have := sg_sq c; grind
def IsI (x : Rat) : Prop := ∃ n : Int, x = n
theorem IsI.mul {x y : Rat} (h : IsI x) (g : IsI y) : IsI (x * y) := by
  obtain ⟨a, rfl⟩ := h; obtain ⟨b, rfl⟩ := g; exact ⟨a * b, by grind⟩
theorem IsI.sub {x y : Rat} (h : IsI x) (g : IsI y) : IsI (x - y) := by
  obtain ⟨a, rfl⟩ := h; obtain ⟨b, rfl⟩ := g; exact ⟨a - b, by grind⟩
theorem IsI.of (n : Int) : IsI (n : Rat) := ⟨n, rfl⟩
theorem wg_int (S : List Bool) : ∀ (v : Vec) (w : Frm), (∀ j, IsI (v j)) → (∀ T, IsI (w T)) → IsI (wg v w S) := by
  induction S with
  | nil => intro v w _ _; exact ⟨0, rfl⟩
  | cons b S ih =>
    intro v w h g
    cases b
    · exact ih _ _ (fun j => h (j+1)) (fun T => g _)
    · exact ((h 0).mul (g _)).sub (ih _ _ (fun j => h (j+1)) (fun T => g _))
def cnt (S : List Bool) : Nat := (S.filter id).length
theorem wg_deg (S : List Bool) : ∀ (v : Vec) (w : Frm) (d : Nat), (∀ T, cnt T < d → w T = 0) → cnt S < d + 1 → wg v w S = 0 := by
  induction S with
  | nil => intro v w d _ _; rfl
  | cons b S ih =>
    intro v w d h g
    cases b
    · exact ih (sh v) (at0 w) d (fun T hT => h _ (by simpa [cnt] using hT)) (by simpa [cnt] using g)
    · simp only [wg]
      have g1 : cnt S < d := by simp [cnt] at g ⊢; omega
      rw [h (false :: S) (by simpa [cnt] using g1)]
      cases d with
      | zero => omega
      | succ d => rw [ih (sh v) (at1 w) d (fun T hT => h _ (by simp [cnt] at hT ⊢; omega)) g1]; grind
theorem wgs_deg (L : List Vec) : ∀ (w : Frm) (d : Nat), (∀ T, cnt T < d → w T = 0) → ∀ S, cnt S < d + L.length → wgs L w S = 0 := by
  induction L with
  | nil => intro w d h S hS; exact h S (by simpa using hS)
  | cons v L ih =>
    intro w d h S hS
    exact ih (wg v w) (d+1) (fun T hT => wg_deg T v w d h hT) S (by simp at hS; omega)
theorem wgs_pre (c : Nat) (L : List Vec) : ∀ (w : Frm) (S : List Bool), (∀ v ∈ L, ∀ j, j < c → v j = 0) →
    ∃ e : Rat, wgs L w (List.replicate c true ++ S) = e * wgs (L.map (shn c)) (pre c w) S := by
  induction L with
  | nil => intro w S _; exact ⟨1, by simp [wgs, pre]⟩
  | cons v L ih =>
    intro w S h
    obtain ⟨e, he⟩ := ih (wg v w) S (fun u hu => h u (by simp [hu]))
    refine ⟨e * sg c, ?_⟩
    simp only [wgs, List.map_cons]
    rw [he]
    have : pre c (wg v w) = fun T => sg c * wg (shn c v) (pre c w) T := by
      funext T; exact wg_pre c v w T (h v (by simp))
    rw [this, wgs_smul]; grind
/-- too many rows for the columns that are left -/
theorem wgs_few {c n m : Nat} {L : List Vec} (w : Frm) (hz : ∀ v ∈ L, ∀ j, j < c → v j = 0) (h1 : c ≤ n) (h2 : n < c + L.length) : wgs L w (Tk n m) = 0 := by
  have e : Tk n m = List.replicate c true ++ (List.replicate (n - c) true ++ List.replicate (m - n) false) := by
    unfold Tk
    rw [← List.append_assoc, List.replicate_append_replicate]
    congr 2; omega
  obtain ⟨x, hx⟩ := wgs_pre c L w (List.replicate (n - c) true ++ List.replicate (m - n) false) hz
  rw [e, hx, wgs_deg _ _ 0 (fun T hT => by omega)]
  · grind
  · simp [cnt, List.filter_append]; omega
/-- not beyond B either way -/
def Ab (B x : Rat) : Prop := -B ≤ x ∧ x ≤ B
theorem Ab.nn {B x : Rat} (h : Ab B x) : 0 ≤ B := by obtain ⟨a, b⟩ := h; grind
theorem Ab.mul {B C x y : Rat} (h : Ab B x) (g : Ab C y) : Ab (B * C) (x * y) := by
  obtain ⟨h1, h2⟩ := h
  obtain ⟨h3, h4⟩ := g
  have a1 := Rat.mul_nonneg (show 0 ≤ B - x by grind) (show 0 ≤ C + y by grind)
  have a2 := Rat.mul_nonneg (show 0 ≤ B + x by grind) (show 0 ≤ C - y by grind)
  have a3 := Rat.mul_nonneg (show 0 ≤ B - x by grind) (show 0 ≤ C - y by grind)
  have a4 := Rat.mul_nonneg (show 0 ≤ B + x by grind) (show 0 ≤ C + y by grind)
  constructor <;> grind
theorem Ab.sub {B C x y : Rat} (h : Ab B x) (g : Ab C y) : Ab (B + C) (x - y) := by
  obtain ⟨h1, h2⟩ := h
  obtain ⟨h3, h4⟩ := g
  constructor <;> grind
theorem Ab.le {B C x : Rat} (h : Ab B x) (g : B ≤ C) : Ab C x := by
  obtain ⟨h1, h2⟩ := h
  constructor <;> grind
theorem Ab.neg {B x : Rat} (h : Ab B x) : Ab B (-1 * x) := by
  obtain ⟨h1, h2⟩ := h
  constructor <;> grind
theorem wg_bd {V W : Rat} (S : List Bool) : ∀ (v : Vec) (w : Frm), (∀ j, Ab V (v j)) → (∀ T : List Bool, T.length = S.length → Ab W (w T)) → Ab ((S.length : Nat) * (V * W)) (wg v w S) := by
  induction S with
  | nil => intro v w _ _; simp only [wg, List.length_nil]; constructor <;> grind
  | cons b S ih =>
    intro v w h g
    have hW := (g (b :: S) rfl).nn
    have hV := (h 0).nn
    have hVW := Rat.mul_nonneg hV hW
    have e : (((b :: S).length : Nat) : Rat) = (S.length : Nat) + 1 := by rw [List.length_cons]; grind
    cases b
    · have := ih (sh v) (at0 w) (fun j => h (j+1)) (fun T hT => g _ (by simp [hT]))
      simp only [wg]
      refine this.le ?_
      rw [e]; grind
    · have h1 := ih (sh v) (at1 w) (fun j => h (j+1)) (fun T hT => g _ (by simp [hT]))
      have h2 := (h 0).mul (g (false :: S) (by simp))
      simp only [wg]
      refine (h2.sub h1).le ?_
      rw [e]; grind
end Wd
namespace Wd
def vr (r : List Int) : Vec := fun j => ((r.getD j 0 : Int) : Rat)
def swr (row lead : List Int) (k : Nat) (p : Int) : List Int := List.zipWith (fun x y => (lead.getD k 0 * x - row.getD k 0 * y).fdiv p) row lead
structure Lin (f : Vec → Rat) : Prop where
  add : ∀ u v : Vec, f (fun j => u j + v j) = f u + f v
  smul : ∀ (c : Rat) (v : Vec), f (fun j => c * v j) = c * f v
structure Bi (B n m k : Nat) (A0 : List Vec) (top : List (List Int)) (Z : List (List Int × Vec)) (p : Int) (w : Frm) : Prop where
  lenT : top.length = k
  lenZ : k + Z.length = n
  nm : n ≤ m
  colT : ∀ r ∈ top, r.length = m
  colZ : ∀ z ∈ Z, z.1.length = m
  pz : p ≠ 0
  pl : ld k m w = p
  rel : ∀ z ∈ Z, ∀ S, p * wg z.2 w S = wg (vr z.1) w S
  zer : ∀ z ∈ Z, ∀ j, j < k → vr z.1 j = 0
  intw : ∀ S, IsI (w S)
  inta : ∀ z ∈ Z, ∀ j, IsI (z.2 j)
  all : wgs (Z.map (·.2)) w = wgs A0 one
  dia : ∀ i, i < k → (top.getD i []).getD i 0 ≠ 0 ∧ ∀ j, j < i → (top.getD i []).getD j 0 = 0
  last : 0 < k → (top.getD (k-1) []).getD (k-1) 0 = p
  bda : ∀ z ∈ Z, ∀ j, Ab B (z.2 j)
  bdw : ∀ T, Ab ((T.length * B) ^ k : Nat) (w T)
  bdt : ∀ r ∈ top, ∀ j, Ab ((m * B) ^ n : Nat) (vr r j)
  b1 : 1 ≤ B
  lin : ∀ f, Lin f → (∀ a ∈ A0, f a = 0) → (∀ r ∈ top, f (vr r) = 0) ∧ ∀ z ∈ Z, f (vr z.1) = 0
  lin2 : ∀ f, Lin f → (∀ r ∈ top, f (vr r) = 0) → (∀ z ∈ Z, f (vr z.1) = 0) → ∀ a ∈ A0, f a = 0
def ng (z : List Int × Vec) : List Int × Vec := (z.1.map (fun x => -x), fun j => (-1) * z.2 j)
/-- p a∧w' = r∧w' -/
theorem rel_up {p : Rat} {a b z r : Vec} {w : Frm} (hp : p ≠ 0) (ha : ∀ S, p * wg a w S = wg r w S) (hb : ∀ S, p * wg b w S = wg z w S) (S : List Bool) :
    p * wg a (wg b w) S = wg r (wg b w) S := by
  have h1 : wg a (wg z w) S = p * wg a (wg b w) S := by
    have : wg z w = fun T => p * wg b w T := by funext T; exact (hb T).symm
    rw [this, wg_smul]
  have h2 : wg z (wg r w) S = p * wg z (wg a w) S := by
    have : wg r w = fun T => p * wg a w T := by funext T; exact (ha T).symm
    rw [this, wg_smul]
  have h3 : wg r (wg z w) S = p * wg r (wg b w) S := by
    have : wg z w = fun T => p * wg b w T := by funext T; exact (hb T).symm
    rw [this, wg_smul]
  have h4 := wg_comm a z w S
  have h5 := wg_comm z r w S
  have : p * (p * wg a (wg b w) S) = p * wg r (wg b w) S := by grind
  grind
theorem self_up {p : Rat} {b z : Vec} {w : Frm} (hb : ∀ S, p * wg b w S = wg z w S) (S : List Bool) : wg z (wg b w) S = 0 := by
  rw [wg_comm]
  have : wg z w = fun T => p * wg b w T := by funext T; exact (hb T).symm
  rw [this, wg_smul, wg_wg]; grind
theorem swr_len {row lead : List Int} {k m : Nat} {p : Int} (h1 : row.length = m) (h2 : lead.length = m) : (swr row lead k p).length = m := by
  simp [swr, h1, h2]
theorem swr_get {row lead : List Int} {k m : Nat} {p : Int} (h1 : row.length = m) (h2 : lead.length = m) (j : Nat) :
    (swr row lead k p).getD j 0 = (lead.getD k 0 * row.getD j 0 - row.getD k 0 * lead.getD j 0).fdiv p := by
  by_cases hj : j < m
  · have a1 : row.getD j 0 = row[j] := by rw [List.getD_eq_getElem?_getD, List.getElem?_eq_getElem (by omega)]; rfl
    have a2 : lead.getD j 0 = lead[j] := by rw [List.getD_eq_getElem?_getD, List.getElem?_eq_getElem (by omega)]; rfl
    have hl : j < (swr row lead k p).length := by rw [swr_len h1 h2]; exact hj
    rw [a1, a2, List.getD_eq_getElem?_getD, List.getElem?_eq_getElem hl]
    simp [swr]
  · have o : ∀ l : List Int, l.length = m → l.getD j 0 = 0 := by
      intro l hl
      rw [List.getD_eq_getElem?_getD, List.getElem?_eq_none (by omega)]; rfl
    rw [o _ (swr_len h1 h2), o row h1, o lead h2]
    simp
theorem vr_zero_of {r : List Int} {j : Nat} (h : vr r j = 0) : r.getD j 0 = 0 := by
  simp only [vr] at h; exact_mod_cast h
/-- the division leaves no rest -/
theorem swr_exact {m k : Nat} {a b : Vec} {r z : List Int} {p : Int} {w : Frm} (hk : k < m) (hr : r.length = m) (hzl : z.length = m) (hp : p ≠ 0) (hpl : ld k m w = p)
    (ha : ∀ S, (p : Rat) * wg a w S = wg (vr r) w S) (hb : ∀ S, (p : Rat) * wg b w S = wg (vr z) w S) (zr : ∀ j, j < k → vr r j = 0) (zz : ∀ j, j < k → vr z j = 0)
    (hq : z.getD k 0 ≠ 0) (iw : ∀ S, IsI (w S)) (ia : ∀ j, IsI (a j)) (ib : ∀ j, IsI (b j)) :
    ld (k+1) m (wg b w) = z.getD k 0 ∧ (∀ j, (p : Rat) * vr (swr r z k p) j = (z.getD k 0 : Int) * vr r j - (r.getD k 0 : Int) * vr z j) ∧
    (∀ S, ((z.getD k 0 : Int) : Rat) * wg a (wg b w) S = wg (vr (swr r z k p)) (wg b w) S) ∧ ∀ j, j < k + 1 → vr (swr r z k p) j = 0 := by
  have hp' : (p : Rat) ≠ 0 := by exact_mod_cast hp
  have hq' : ((z.getD k 0 : Int) : Rat) ≠ 0 := by exact_mod_cast hq
  have l1 : ld (k+1) m (wg b w) = z.getD k 0 := by
    have h1 := ld_wg w zz hk
    have h2 : ld (k+1) m (wg (vr z) w) = p * ld (k+1) m (wg b w) := by
      unfold ld; rw [← hb]; grind
    rw [h2, hpl] at h1
    have : vr z k = ((z.getD k 0 : Int) : Rat) := rfl
    rw [this] at h1; grind
  -- the row ahead of the division
  let M : Vec := fun j => ((z.getD k 0 : Int) : Rat) * vr r j + (-((r.getD k 0 : Int) : Rat)) * vr z j
  have hM : ∀ S, wg M (wg b w) S = ((z.getD k 0 : Int) : Rat) * (p * wg a (wg b w) S) := by
    intro S
    have e := wg_add_v S (fun j => ((z.getD k 0 : Int) : Rat) * vr r j) (fun j => (-((r.getD k 0 : Int) : Rat)) * vr z j) (wg b w)
    rw [wg_smul_v, wg_smul_v, self_up hb S, ← rel_up hp' ha hb S] at e
    show wg M (wg b w) S = _
    rw [show M = fun j => ((z.getD k 0 : Int) : Rat) * vr r j + (-((r.getD k 0 : Int) : Rat)) * vr z j from rfl, e]; grind
  have zM : ∀ j, j < k + 1 → M j = 0 := by
    intro j hj
    show ((z.getD k 0 : Int) : Rat) * vr r j + (-((r.getD k 0 : Int) : Rat)) * vr z j = 0
    rcases Nat.lt_or_ge j k with h | h
    · rw [zr j h, zz j h]; grind
    · have : j = k := by omega
      subst this
      show ((z.getD j 0 : Int) : Rat) * ((r.getD j 0 : Int) : Rat) + (-((r.getD j 0 : Int) : Rat)) * ((z.getD j 0 : Int) : Rat) = 0
      grind
  have dv : ∀ j, ∃ c : Int, M j = p * c := by
    intro j
    rcases Nat.lt_or_ge j (k+1) with h | h
    · exact ⟨0, by rw [zM j h]; grind⟩
    · rcases Nat.lt_or_ge j m with h2 | h2
      · have h3 := wg_Sj (v := M) (wg b w) zM h h2
        rw [hM] at h3
        obtain ⟨c, hc⟩ := wg_int (Sj (k+1) j m) a (wg b w) ia (fun T => wg_int T b w ib iw)
        have h4 : wg b w (Tk (k+1) m) = tri (k+1) * ((z.getD k 0 : Int) : Rat) := by
          have := tri_sq (k+1)
          rw [← l1]; unfold ld; grind
        rw [h4] at h3
        have h5 := tri_sq (k+1)
        have h6 := sg_sq (k+1)
        have ht : IsI (sg (k+1) * tri (k+1)) := by
          have i1 : ∀ c, IsI (sg c) := by intro c; unfold sg; split; exact ⟨1, rfl⟩; exact ⟨-1, rfl⟩
          have i2 : ∀ c, IsI (tri c) := by
            intro c; induction c with
            | zero => exact ⟨1, rfl⟩
            | succ c ih => exact ih.mul (i1 c)
          exact (i1 _).mul (i2 _)
        obtain ⟨t, ht⟩ := ht
        refine ⟨t * c, ?_⟩
        rw [hc] at h3
        have : M j = sg (k+1) * tri (k+1) * (p * c) := by
          have : ((z.getD k 0 : Int) : Rat) * (M j) = ((z.getD k 0 : Int) : Rat) * (sg (k+1) * tri (k+1) * (p * c)) := by grind
          grind
        rw [this, ht]; grind
      · refine ⟨0, ?_⟩
        show ((z.getD k 0 : Int) : Rat) * vr r j + (-((r.getD k 0 : Int) : Rat)) * vr z j = _
        have e1 : r.getD j 0 = 0 := by rw [List.getD_eq_getElem?_getD, List.getElem?_eq_none (by omega)]; rfl
        have e2 : z.getD j 0 = 0 := by rw [List.getD_eq_getElem?_getD, List.getElem?_eq_none (by omega)]; rfl
        simp only [vr, e1, e2]; grind
  have ex : ∀ j, (p : Rat) * vr (swr r z k p) j = M j := by
    intro j
    obtain ⟨c, hc⟩ := dv j
    have hMi : M j = ((z.getD k 0 * r.getD j 0 - r.getD k 0 * z.getD j 0 : Int) : Rat) := by
      show ((z.getD k 0 : Int) : Rat) * ((r.getD j 0 : Int) : Rat) + (-((r.getD k 0 : Int) : Rat)) * ((z.getD j 0 : Int) : Rat) = _
      grind
    have hi : z.getD k 0 * r.getD j 0 - r.getD k 0 * z.getD j 0 = p * c := by
      rw [hMi] at hc; exact_mod_cast hc
    simp only [vr]
    rw [swr_get hr hzl, hi, hc, Int.fdiv_eq_ediv_of_dvd (Int.dvd_mul_right p c), Int.mul_ediv_cancel_left _ hp]
  have eN : (fun j => (p : Rat) * vr (swr r z k p) j) = M := funext ex
  refine ⟨l1, ?_, ?_, ?_⟩
  · intro j; rw [ex j]
    show ((z.getD k 0 : Int) : Rat) * vr r j + (-((r.getD k 0 : Int) : Rat)) * vr z j = _
    grind
  · intro S
    have h := hM S
    rw [← eN, wg_smul_v] at h
    grind
  · intro j hj
    have h := ex j
    rw [zM j hj] at h
    grind
/-- how great the rows' numbers are -/
theorem Bi.ent {B0 n m k : Nat} {A0 : List Vec} {top : List (List Int)} {Z : List (List Int × Vec)} {p : Int} {w : Frm} (B : Bi B0 n m k A0 top Z p w)
    {z : List Int × Vec} (hz : z ∈ Z) (j : Nat) : Ab ((m * B0) ^ (k+1) : Nat) (vr z.1 j) := by
  have nnr : ∀ a : Nat, (0 : Rat) ≤ (a : Rat) := fun a => by exact_mod_cast Nat.zero_le a
  have z0 : Ab ((m * B0) ^ (k+1) : Nat) (0 : Rat) := by have := nnr ((m * B0) ^ (k+1)); constructor <;> grind
  have hkn := B.lenZ
  have hnm := B.nm
  have hl : 0 < Z.length := List.length_pos_of_mem hz
  rcases Nat.lt_or_ge j k with h | h
  · rw [B.zer z hz j h]; exact z0
  · rcases Nat.lt_or_ge j m with h2 | h2
    · have e := wg_Sj (v := vr z.1) w (B.zer z hz) h h2
      rw [← B.rel z hz] at e
      have hp : (p : Rat) ≠ 0 := by have := B.pz; exact_mod_cast this
      have ht : w (Tk k m) = tri k * p := by
        have := tri_sq k
        have := B.pl
        unfold ld at this; grind
      rw [ht] at e
      have e2 : vr z.1 j = sg k * tri k * wg z.2 w (Sj k j m) := by
        have h5 := tri_sq k
        have h6 := sg_sq k
        have : p * (vr z.1 j) = p * (sg k * tri k * wg z.2 w (Sj k j m)) := by grind
        grind
      have ls : (Sj k j m).length = m := by unfold Sj; simp; omega
      have bd := wg_bd (V := (B0 : Nat)) (W := ((m * B0) ^ k : Nat)) (Sj k j m) z.2 w (B.bda z hz) (fun T hT => by have := B.bdw T; rw [hT, ls] at this; exact this)
      rw [ls] at bd
      have eb : ((m : Nat) : Rat) * (((B0 : Nat) : Rat) * (((m * B0) ^ k : Nat) : Rat)) = (((m * B0) ^ (k+1) : Nat) : Rat) := by
        rw [Nat.pow_succ]
        have : m * (B0 * (m * B0) ^ k) = (m * B0) ^ k * (m * B0) := by rw [← Nat.mul_assoc, Nat.mul_comm]
        rw [← this]; simp [Rat.natCast_mul]
      rw [eb] at bd
      rw [e2]
      have s1 : ∀ c, sg c = 1 ∨ sg c = -1 := by intro c; unfold sg; split; exact .inl rfl; exact .inr rfl
      have s2 : ∀ c, tri c = 1 ∨ tri c = -1 := by
        intro c; induction c with
        | zero => exact .inl rfl
        | succ c ih =>
          simp only [tri]
          rcases ih with a | a <;> rcases s1 c with b | b <;> rw [a, b] <;> grind
      rcases s1 k with a | a <;> rcases s2 k with b | b <;> rw [a, b]
      · simpa using bd
      · have := bd.neg; simpa using this
      · have := bd.neg; simpa using this
      · rw [show (-1 : Rat) * -1 * wg z.2 w (Sj k j m) = wg z.2 w (Sj k j m) by grind]; exact bd
    · have e1 : z.1.getD j 0 = 0 := by rw [List.getD_eq_getElem?_getD, List.getElem?_eq_none (by rw [B.colZ z hz]; omega)]; rfl
      have : vr z.1 j = 0 := by simp only [vr, e1]; rfl
      rw [this]; exact z0
theorem pow_up {a i n : Nat} (h : 1 ≤ a) (hi : i ≤ n) : a ^ i ≤ a ^ n := Nat.pow_le_pow_right h hi
theorem Bi.step {B0 n m k : Nat} {A0 : List Vec} {top : List (List Int)} {z : List Int × Vec} {Z : List (List Int × Vec)} {p : Int} {w : Frm}
    (B : Bi B0 n m k A0 top (z :: Z) p w) (hq : z.1.getD k 0 ≠ 0) :
    Bi B0 n m (k+1) A0 (top ++ [z.1]) (Z.map fun y => (swr y.1 z.1 k p, y.2)) (z.1.getD k 0) (wg z.2 w) := by
  have hkn := B.lenZ
  have hnm := B.nm
  simp at hkn
  have hkm : k < m := by omega
  have hz : z ∈ z :: Z := by simp
  have key : ∀ y ∈ Z, _ := fun y hy => swr_exact hkm (B.colZ y (by simp [hy])) (B.colZ z hz) B.pz B.pl (B.rel y (by simp [hy])) (B.rel z hz) (B.zer y (by simp [hy])) (B.zer z hz) hq B.intw (B.inta y (by simp [hy])) (B.inta z hz)
  have l1 := (swr_exact hkm (B.colZ z hz) (B.colZ z hz) B.pz B.pl (B.rel z hz) (B.rel z hz) (B.zer z hz) (B.zer z hz) hq B.intw (B.inta z hz) (B.inta z hz)).1
  have hp' : (p : Rat) ≠ 0 := by have := B.pz; exact_mod_cast this
  have hlT := B.lenT
  refine { lenT := by simp [B.lenT], lenZ := by simp; omega, nm := B.nm, colT := ?_, colZ := ?_, pz := hq, pl := l1, rel := ?_, zer := ?_, intw := fun S => wg_int S z.2 w (B.inta z hz) B.intw, inta := ?_, all := ?_, dia := ?_, last := ?_, bda := ?_, bdw := ?_, bdt := ?_, b1 := B.b1, lin := ?_, lin2 := ?_ }
  · intro r hr; simp at hr; rcases hr with h | h
    · exact B.colT r h
    · subst h; exact B.colZ z hz
  · intro y hy; simp at hy; obtain ⟨a, b, hab, rfl⟩ := hy
    exact swr_len (B.colZ (a, b) (by simp [hab])) (B.colZ z hz)
  · intro y hy S; simp at hy; obtain ⟨a, b, hab, rfl⟩ := hy
    exact (key (a, b) hab).2.2.1 S
  · intro y hy; simp at hy; obtain ⟨a, b, hab, rfl⟩ := hy
    exact (key (a, b) hab).2.2.2
  · intro y hy; simp at hy; obtain ⟨a, b, hab, rfl⟩ := hy
    exact B.inta (a, b) (by simp [hab])
  · rw [← B.all]; simp [wgs, Function.comp_def]
  · intro i hi
    rcases Nat.lt_or_ge i k with h | h
    · have : (top ++ [z.1]).getD i [] = top.getD i [] := by
        rw [List.getD_eq_getElem?_getD, List.getD_eq_getElem?_getD, List.getElem?_append_left (by omega)]
      rw [this]; exact B.dia i h
    · have : i = k := by omega
      subst this
      have : (top ++ [z.1]).getD i [] = z.1 := by
        rw [List.getD_eq_getElem?_getD, List.getElem?_append_right (by omega), hlT]; simp
      rw [this]
      exact ⟨hq, fun j hj => vr_zero_of (B.zer z hz j hj)⟩
  · intro _
    have : (top ++ [z.1]).getD (k + 1 - 1) [] = z.1 := by
      rw [List.getD_eq_getElem?_getD, List.getElem?_append_right (by omega)]; simp [hlT]
    rw [this]; rfl
  · intro y hy; simp at hy; obtain ⟨a, b, hab, rfl⟩ := hy
    exact B.bda (a, b) (by simp [hab])
  · intro T
    have bd := wg_bd (V := (B0 : Nat)) (W := ((T.length * B0) ^ k : Nat)) T z.2 w (B.bda z hz) (fun U hU => by have := B.bdw U; rw [hU] at this; exact this)
    have eb : ((T.length : Nat) : Rat) * (((B0 : Nat) : Rat) * (((T.length * B0) ^ k : Nat) : Rat)) = (((T.length * B0) ^ (k+1) : Nat) : Rat) := by
      rw [Nat.pow_succ]
      have : T.length * (B0 * (T.length * B0) ^ k) = (T.length * B0) ^ k * (T.length * B0) := by rw [← Nat.mul_assoc, Nat.mul_comm]
      rw [← this]; simp [Rat.natCast_mul]
    rw [eb] at bd
    exact bd
  · intro r hr j; simp at hr; rcases hr with h | h
    · exact B.bdt r h j
    · subst h
      refine (B.ent hz j).le ?_
      have := B.b1
      have h1 : 1 ≤ m * B0 := Nat.mul_pos (by omega) (by omega)
      exact_mod_cast pow_up h1 (by omega)
  · intro f hf h0
    have hl := B.lin f hf h0
    refine ⟨?_, ?_⟩
    · intro r hr; simp at hr; rcases hr with h | h
      · exact hl.1 r h
      · subst h; exact hl.2 z hz
    · intro y hy; simp at hy; obtain ⟨a, b, hab, rfl⟩ := hy
      have h1 := (key (a, b) hab).2.1
      have e : (fun j => (p : Rat) * vr (swr a z.1 k p) j) = fun j => (fun j => ((z.1.getD k 0 : Int) : Rat) * vr a j) j + (fun j => (-((a.getD k 0 : Int) : Rat)) * vr z.1 j) j := by
        funext j; rw [h1 j]; grind
      have h2 := congrArg f e
      rw [hf.smul, hf.add, hf.smul, hf.smul, hl.2 z hz, hl.2 (a, b) (by simp [hab])] at h2
      grind
  · intro f hf h1 h2
    have fz : f (vr z.1) = 0 := h1 z.1 (by simp)
    have hq' : ((z.1.getD k 0 : Int) : Rat) ≠ 0 := by exact_mod_cast hq
    refine B.lin2 f hf (fun r hr => h1 r (by simp [hr])) fun y hy => ?_
    rcases List.mem_cons.mp hy with h | h
    · subst h; exact fz
    · have e1 := (key y h).2.1
      have e : (fun j => (p : Rat) * vr (swr y.1 z.1 k p) j) = fun j => (fun j => ((z.1.getD k 0 : Int) : Rat) * vr y.1 j) j + (fun j => (-((y.1.getD k 0 : Int) : Rat)) * vr z.1 j) j := by
        funext j; rw [e1 j]; grind
      have h3 := congrArg f e
      rw [hf.smul, hf.add, hf.smul, hf.smul, fz, h2 _ (List.mem_map_of_mem h)] at h3
      grind
/-- no row leads: the measure is nought -/
theorem pow_rel (Z : List (List Int × Vec)) : ∀ {p : Rat} {w : Frm}, p ≠ 0 → (∀ z ∈ Z, ∀ S, p * wg z.2 w S = wg (vr z.1) w S) →
    ∃ c : Rat, c ≠ 0 ∧ ∀ S, c * wgs (Z.map (·.2)) w S = wgs (Z.map (fun z => vr z.1)) w S := by
  induction Z with
  | nil => intro p w _ _; exact ⟨1, by grind, fun S => by simp [wgs]⟩
  | cons z Z ih =>
    intro p w hp h
    obtain ⟨c, hc, hS⟩ := ih (p := p) (w := wg z.2 w) hp (fun y hy S => rel_up hp (h y (by simp [hy])) (h z (by simp)) S)
    refine ⟨p * c, by grind, fun S => ?_⟩
    simp only [List.map_cons, wgs]
    have e : wg (vr z.1) w = fun T => p * wg z.2 w T := by funext T; exact (h z (by simp) T).symm
    rw [e, wgs_smul]
    simp only []
    rw [← hS]; grind
theorem Bi.none {B0 n m k : Nat} {A0 : List Vec} {top : List (List Int)} {Z : List (List Int × Vec)} {p : Int} {w : Frm}
    (B : Bi B0 n m k A0 top Z p w) (hkn : k < n) (h0 : ∀ z ∈ Z, z.1.getD k 0 = 0) : ld n m (wgs A0 one) = 0 := by
  have hp' : (p : Rat) ≠ 0 := by have := B.pz; exact_mod_cast this
  obtain ⟨c, hc, hS⟩ := pow_rel Z hp' B.rel
  have h := wgs_few (c := k+1) (n := n) (m := m) (L := Z.map (fun z => vr z.1)) w ?_ (by omega) (by have := B.lenZ; simp; omega)
  · rw [← hS, B.all] at h
    unfold ld; grind
  · intro v hv j hj
    rw [List.mem_map] at hv
    obtain ⟨z, hz, rfl⟩ := hv
    rcases Nat.lt_or_ge j k with h | h
    · exact B.zer _ hz j h
    · have : j = k := by omega
      subst this
      have := h0 _ hz
      simp only [vr]; rw [this]; rfl
/-- at last -/
theorem Bi.fin {B0 n m : Nat} {A0 : List Vec} {top : List (List Int)} {Z : List (List Int × Vec)} {p : Int} {w : Frm}
    (B : Bi B0 n m n A0 top Z p w) : Z = [] ∧ ld n m (wgs A0 one) = p := by
  have : Z = [] := by have := B.lenZ; exact List.length_eq_zero_iff.mp (by omega)
  subst this
  refine ⟨rfl, ?_⟩
  rw [← B.all]; exact B.pl
end Wd
/-! Fractions as rationals -/
namespace Mth
theorem frac_rat (t b : Int) (h : b ≠ 0) : frac t b = (((t : Rat) / (b : Rat)).num, (((t : Rat) / (b : Rat)).den : Int)) := by
  have g := frac_gcd t b h
  have p := frac_pos t b h
  have c := frac_cross t b
  generalize (frac t b) = x at *
  obtain ⟨n, d⟩ := x
  simp only at g p c
  have hd : d = (d.toNat : Int) := by omega
  have hn : d.toNat ≠ 0 := by omega
  have hc : n.natAbs.Coprime d.toNat := by
    have : Int.gcd n d = n.natAbs.gcd d.toNat := by rw [Int.gcd]; congr 1; omega
    unfold Nat.Coprime; rw [← this]; exact g
  let r : Rat := ⟨n, d.toNat, hn, hc⟩
  have hr : r * (d : Rat) = n := by
    have h1 : r = (n : Rat) / ((d.toNat : Nat) : Rat) := by
      have := Rat.num_divInt_den r
      rw [← this, Rat.divInt_eq_div]; rfl
    have h2 : ((d.toNat : Nat) : Rat) = (d : Rat) := by
      have : ((d.toNat : Nat) : Rat) = (((d.toNat : Nat) : Int) : Rat) := rfl
      rw [this, ← hd]
    have h3 : (d : Rat) ≠ 0 := by have : d ≠ 0 := by omega
                                  exact_mod_cast this
    rw [h1, h2]; grind
  have hb : (b : Rat) ≠ 0 := by exact_mod_cast h
  have hd0 : (d : Rat) ≠ 0 := by have : d ≠ 0 := by omega
                                 exact_mod_cast this
  have cr : (n : Rat) * b = t * d := by exact_mod_cast c
  have e : (t : Rat) / (b : Rat) = r := by grind
  rw [e]
  show (n, d) = (n, ((d.toNat : Nat) : Int))
  rw [← hd]
/-- the fraction's numbers -/
def fr (q : Rat) : Int × Int := (q.num, q.den)
theorem rat_num (q : Rat) : q * ((q.den : Nat) : Rat) = q.num := by
  have h1 := Rat.num_divInt_den q
  rw [Rat.divInt_eq_div] at h1
  have : ((q.den : Nat) : Rat) ≠ 0 := by exact_mod_cast q.den_nz
  have h2 : (((q.den : Nat) : Int) : Rat) = ((q.den : Nat) : Rat) := rfl
  rw [h2] at h1
  grind
theorem rat_den_ne (q : Rat) : ((q.den : Nat) : Rat) ≠ 0 := by exact_mod_cast q.den_nz
theorem rat_of (q : Rat) : ((q.num : Int) : Rat) / ((((q.den : Nat) : Int)) : Rat) = q := by
  have := rat_num q
  have h2 : (((q.den : Nat) : Int) : Rat) = ((q.den : Nat) : Rat) := rfl
  have := rat_den_ne q
  rw [h2]; grind
theorem ic (n : Nat) : (((n : Nat) : Int) : Rat) = ((n : Nat) : Rat) := rfl
theorem fr_add (p q : Rat) : frac (p.num * q.den + q.num * p.den) (p.den * q.den) = fr (p + q) := by
  have hp := p.den_nz
  have hq := q.den_nz
  have h : ((p.den : Int) * (q.den : Int)) ≠ 0 := Int.mul_ne_zero (by omega) (by omega)
  rw [frac_rat _ _ h]
  have e : (((p.num * q.den + q.num * p.den : Int)) : Rat) / (((p.den : Int) * (q.den : Int) : Int) : Rat) = p + q := by
    have := rat_num p; have := rat_num q; have := rat_den_ne p; have := rat_den_ne q
    simp only [Rat.intCast_add, Rat.intCast_mul, ic]
    grind
  rw [e]; rfl
theorem fr_sub (p q : Rat) : frac (p.num * q.den - q.num * p.den) (p.den * q.den) = fr (p - q) := by
  have hp := p.den_nz
  have hq := q.den_nz
  have h : ((p.den : Int) * (q.den : Int)) ≠ 0 := Int.mul_ne_zero (by omega) (by omega)
  rw [frac_rat _ _ h]
  have e : (((p.num * q.den - q.num * p.den : Int)) : Rat) / (((p.den : Int) * (q.den : Int) : Int) : Rat) = p - q := by
    have := rat_num p; have := rat_num q; have := rat_den_ne p; have := rat_den_ne q
    simp only [Rat.intCast_sub, Rat.intCast_mul, ic]
    grind
  rw [e]; rfl
theorem fr_mul (p q : Rat) : frac (p.num * q.num) (p.den * q.den) = fr (p * q) := by
  have hp := p.den_nz
  have hq := q.den_nz
  have h : ((p.den : Int) * (q.den : Int)) ≠ 0 := Int.mul_ne_zero (by omega) (by omega)
  rw [frac_rat _ _ h]
  have e : (((p.num * q.num : Int)) : Rat) / (((p.den : Int) * (q.den : Int) : Int) : Rat) = p * q := by
    have := rat_num p; have := rat_num q; have := rat_den_ne p; have := rat_den_ne q
    simp only [Rat.intCast_mul, ic]
    grind
  rw [e]; rfl
/-- how many figures, above and below -/
def Sb (n d : Nat) (q : Rat) : Prop := q.num.natAbs ≤ 2 ^ n ∧ q.den ≤ 2 ^ d
theorem frac_le {t b : Int} (h : b ≠ 0) : (frac t b).1.natAbs ≤ t.natAbs ∧ (frac t b).2.natAbs ≤ b.natAbs := by
  have h1 := frac_l t b
  have h2 := frac_r t b
  have h3 := part_ne t b h
  have a1 : t.natAbs = (frac t b).1.natAbs * (part t b).natAbs := by rw [← Int.natAbs_mul, h1]
  have a2 : b.natAbs = (frac t b).2.natAbs * (part t b).natAbs := by rw [← Int.natAbs_mul, h2]
  have a3 : 1 ≤ (part t b).natAbs := by omega
  rw [a1, a2]
  exact ⟨Nat.le_mul_of_pos_right _ a3, Nat.le_mul_of_pos_right _ a3⟩
theorem sb_of {t b : Int} {n d : Nat} (h : b ≠ 0) (h1 : t.natAbs ≤ 2 ^ n) (h2 : b.natAbs ≤ 2 ^ d) {q : Rat} (e : frac t b = fr q) : Sb n d q := by
  have := frac_le (t := t) h
  rw [e] at this
  simp only [fr, Int.natAbs_natCast] at this
  exact ⟨by omega, by omega⟩
theorem pmul {a b m n : Nat} (h : a ≤ 2 ^ m) (g : b ≤ 2 ^ n) : a * b ≤ 2 ^ (m + n) := by rw [Nat.pow_add]; exact Nat.mul_le_mul h g
theorem dnz (p q : Rat) : ((p.den : Int) * (q.den : Int)) ≠ 0 := by
  have hp := p.den_nz
  have hq := q.den_nz
  exact Int.mul_ne_zero (by omega) (by omega)
theorem Sb.mul {n d n' d' : Nat} {p q : Rat} (h : Sb n d p) (g : Sb n' d' q) : Sb (n + n') (d + d') (p * q) := by
  refine sb_of (dnz p q) ?_ ?_ (fr_mul p q)
  · rw [Int.natAbs_mul]; exact pmul h.1 g.1
  · rw [Int.natAbs_mul, Int.natAbs_natCast, Int.natAbs_natCast]; exact pmul h.2 g.2
theorem Sb.add {n d n' d' N : Nat} {p q : Rat} (h : Sb n d p) (g : Sb n' d' q) (h1 : n + d' ≤ N) (h2 : n' + d ≤ N) : Sb (N + 1) (d + d') (p + q) := by
  refine sb_of (dnz p q) ?_ ?_ (fr_add p q)
  · have a1 : (p.num * q.den).natAbs ≤ 2 ^ N := by
      rw [Int.natAbs_mul, Int.natAbs_natCast]
      exact Nat.le_trans (pmul h.1 g.2) (Nat.pow_le_pow_right (by decide) h1)
    have a2 : (q.num * p.den).natAbs ≤ 2 ^ N := by
      rw [Int.natAbs_mul, Int.natAbs_natCast]
      exact Nat.le_trans (pmul g.1 h.2) (Nat.pow_le_pow_right (by decide) h2)
    have := Int.natAbs_add_le (p.num * q.den) (q.num * p.den)
    rw [Nat.pow_succ]; omega
  · rw [Int.natAbs_mul, Int.natAbs_natCast, Int.natAbs_natCast]; exact pmul h.2 g.2
theorem Sb.sub {n d n' d' N : Nat} {p q : Rat} (h : Sb n d p) (g : Sb n' d' q) (h1 : n + d' ≤ N) (h2 : n' + d ≤ N) : Sb (N + 1) (d + d') (p - q) := by
  refine sb_of (dnz p q) ?_ ?_ (fr_sub p q)
  · have a1 : (p.num * q.den).natAbs ≤ 2 ^ N := by
      rw [Int.natAbs_mul, Int.natAbs_natCast]
      exact Nat.le_trans (pmul h.1 g.2) (Nat.pow_le_pow_right (by decide) h1)
    have a2 : (q.num * p.den).natAbs ≤ 2 ^ N := by
      rw [Int.natAbs_mul, Int.natAbs_natCast]
      exact Nat.le_trans (pmul g.1 h.2) (Nat.pow_le_pow_right (by decide) h2)
    have := Int.natAbs_sub_le (p.num * q.den) (q.num * p.den)
    rw [Nat.pow_succ]; omega
  · rw [Int.natAbs_mul, Int.natAbs_natCast, Int.natAbs_natCast]; exact pmul h.2 g.2
theorem Sb.mono {n d n' d' : Nat} {p : Rat} (h : Sb n d p) (h1 : n ≤ n') (h2 : d ≤ d') : Sb n' d' p :=
  ⟨Nat.le_trans h.1 (Nat.pow_le_pow_right (by decide) h1), Nat.le_trans h.2 (Nat.pow_le_pow_right (by decide) h2)⟩
theorem Sb.zero : Sb 0 0 0 := by constructor <;> decide
theorem Sb.one : Sb 0 0 1 := by constructor <;> decide
/-- the common bottom of a row -/
def cb1 (c : Int) (q : Rat) : Int := c.fdiv (Int.gcd c q.den : Int) * q.den
def cb (r : List Rat) : Int := r.foldl cb1 1
theorem cb1_ok {c : Int} (h : 0 < c) (q : Rat) : 0 < cb1 c q ∧ c ∣ cb1 c q ∧ (q.den : Int) ∣ cb1 c q ∧ cb1 c q ≤ c * q.den := by
  have hq := q.den_nz
  have hg : 0 < Int.gcd c q.den := Int.gcd_pos_of_ne_zero_left _ (by omega)
  obtain ⟨x, hx⟩ := Int.gcd_dvd_left c (q.den : Int)
  obtain ⟨y, hy⟩ := Int.gcd_dvd_right c (q.den : Int)
  generalize hG : Int.gcd c (q.den : Int) = G at *
  have hG0 : (G : Int) ≠ 0 := by omega
  have e : c.fdiv (G : Int) = x := by
    rw [Int.fdiv_eq_ediv_of_dvd ⟨x, hx⟩]
    conv => lhs; rw [hx]
    rw [Int.mul_ediv_cancel_left _ hG0]
  have hx0 : 0 < x := by
    rcases Int.lt_or_le 0 x with h' | h'
    · exact h'
    · have : (G : Int) * x ≤ 0 := Int.mul_nonpos_of_nonneg_of_nonpos (by omega) h'
      omega
  have hq0 : (0 : Int) < q.den := by omega
  unfold cb1
  rw [hG, e]
  refine ⟨Int.mul_pos hx0 hq0, ⟨y, ?_⟩, ⟨x, Int.mul_comm _ _⟩, ?_⟩
  · conv => lhs; rw [hy]
    conv => rhs; rw [hx]
    rw [Int.mul_left_comm, Int.mul_assoc]
  · refine Int.mul_le_mul_of_nonneg_right ?_ (by omega)
    have : 1 * x ≤ (G : Int) * x := Int.mul_le_mul_of_nonneg_right (by omega) (by omega)
    omega
theorem cb_ok (r : List Rat) : ∀ {c : Int} {D d : Nat}, 0 < c → c.natAbs ≤ 2 ^ D → (∀ q ∈ r, q.den ≤ 2 ^ d) →
    0 < r.foldl cb1 c ∧ c ∣ r.foldl cb1 c ∧ (∀ q ∈ r, (q.den : Int) ∣ r.foldl cb1 c) ∧ (r.foldl cb1 c).natAbs ≤ 2 ^ (D + d * r.length) := by
  induction r with
  | nil => intro c D d h g _; exact ⟨h, Int.dvd_refl _, by simp, by simpa using g⟩
  | cons q r ih =>
    intro c D d h g hd
    obtain ⟨a1, a2, a3, a4⟩ := cb1_ok h q
    have hq := hd q (by simp)
    have a5 : (cb1 c q).natAbs ≤ 2 ^ (D + d) := by
      have h5 : (cb1 c q).natAbs ≤ c.natAbs * q.den := by
        have e1 : ((c.natAbs * q.den : Nat) : Int) = c * q.den := by rw [Int.natCast_mul]; congr 1; omega
        omega
      exact Nat.le_trans h5 (pmul g hq)
    obtain ⟨b1, b2, b3, b4⟩ := ih (D := D + d) (d := d) a1 a5 (fun p hp => hd p (by simp [hp]))
    refine ⟨b1, Int.dvd_trans a2 b2, ?_, ?_⟩
    · intro p hp
      rcases List.mem_cons.mp hp with rfl | hp
      · exact Int.dvd_trans a3 b2
      · exact b3 p hp
    · rw [List.length_cons, Nat.mul_succ]
      have : D + (d * r.length + d) = D + d + d * r.length := by omega
      rw [this]; exact b4
/-- times a number that its bottom divides -/
def wh (b : Int) (q : Rat) : Int := q.num * b.fdiv q.den
theorem wh_rat {b : Int} {q : Rat} (h : (q.den : Int) ∣ b) : ((wh b q : Int) : Rat) = b * q := by
  obtain ⟨x, hx⟩ := h
  have hq := q.den_nz
  have e : b.fdiv q.den = x := by
    rw [Int.fdiv_eq_ediv_of_dvd ⟨x, hx⟩, hx, Int.mul_ediv_cancel_left _ (by omega)]
  unfold wh
  rw [e, hx]
  have := rat_num q
  simp only [Rat.intCast_mul, ic]
  grind
theorem wh_le {b : Int} {q : Rat} {n D : Nat} (h : (q.den : Int) ∣ b) (h1 : q.num.natAbs ≤ 2 ^ n) (h2 : b.natAbs ≤ 2 ^ D) : (wh b q).natAbs ≤ 2 ^ (n + D) := by
  obtain ⟨x, hx⟩ := h
  have hq := q.den_nz
  have e : b.fdiv q.den = x := by
    rw [Int.fdiv_eq_ediv_of_dvd ⟨x, hx⟩, hx, Int.mul_ediv_cancel_left _ (by omega)]
  unfold wh
  rw [e, Int.natAbs_mul]
  refine pmul h1 (Nat.le_trans ?_ h2)
  rw [hx, Int.natAbs_mul, Int.natAbs_natCast]
  exact Nat.le_mul_of_pos_left _ (by omega)
end Mth
/-! The measure of a table: its sweeping, its rows times numbers -/
namespace Wd
open Mth
/-- two rows exchanged, the one with its signs turned -/
def ledR (R : List (List Int)) (k i : Nat) : List (List Int) := if i = k then R else (R.set k (R.getD i [])).set i ((R.getD k []).map fun x => -x)
/-- the rows of rationals -/
def vq (r : List Rat) : Vec := fun j => r.getD j 0
def dt (n m : Nat) (T : List (List Rat)) : Rat := ld n m (wgs (T.map vq) one)
def prodB : List Int → Int
  | [] => 1
  | b :: L => b * prodB L
end Wd
/-! A table that is a product of two triangular ones; its rows turned round, exchanged, doubled, scaled -/
namespace Wd
open Mth
def sumQ (f : Nat → Rat) : Nat → Rat
  | 0 => 0
  | n+1 => sumQ f n + f n
def wn (V : Nat → Vec) : Nat → Frm
  | 0 => one
  | i+1 => wg (V i) (wn V i)
def prodQ (f : Nat → Rat) : Nat → Rat
  | 0 => 1
  | n+1 => prodQ f n * f n
def rowF (T : List (List Rat)) (i : Nat) : Vec := vq (T.getD i [])
def en (T : List (List Rat)) (i j : Nat) : Rat := (T.getD i []).getD j 0
/-- the product -/
def mulT (n : Nat) (L U : List (List Rat)) : List (List Rat) := (List.range n).map fun i => (List.range n).map fun j => sumQ (fun l => en L i l * en U l j) n
structure Tri (n : Nat) (L U : List (List Rat)) : Prop where
  lL : L.length = n
  lU : U.length = n
  cL : ∀ r ∈ L, r.length = n
  cU : ∀ r ∈ U, r.length = n
  l1 : ∀ i, i < n → en L i i = 1
  l0 : ∀ i j, i < n → i < j → en L i j = 0
  u0 : ∀ i j, i < n → j < i → en U i j = 0
/-! the rows changed -/
end Wd
/-! The answer of a table and a right row: told by sweeping, whole when times the measure -/
namespace Wd
def fx (n : Nat) (x : Nat → Rat) : Vec → Rat := fun v => sumQ (fun j => v j * x j) n - v n
/-! a vector that all rows are square to -/
def ct : Vec → Frm → Frm
  | _, _, [] => 0
  | y, w, false :: S => y 0 * w (true :: S) + ct (sh y) (at0 w) S
  | y, w, true :: S => - ct (sh y) (at1 w) S
def dotv (u y : Vec) : Nat → Rat
  | 0 => 0
  | n+1 => u 0 * y 0 + dotv (sh u) (sh y) n
/-- the measure times an answer is the form at other columns -/
def crS (n j : Nat) : List Bool := List.replicate j true ++ false :: (List.replicate (n - 1 - j) true ++ [true])
def crC (n j : Nat) : Rat := tri n * sg (n - 1 - j)
end Wd
/-! the common bottom is the least one; bottoms that divide -/
namespace Mth
theorem den_sum : ∀ {r : List Rat} {p : Rat}, p ∈ r → p.den ≤ (r.map (·.den)).sum
  | q :: r, p, h => by
    rw [List.map_cons, List.sum_cons]
    rcases List.mem_cons.mp h with rfl | h
    · omega
    · have := den_sum h; omega
theorem cb_pos (r : List Rat) : 0 < cb r ∧ ∀ q ∈ r, (q.den : Int) ∣ cb r := by
  obtain ⟨a, _, b, _⟩ := cb_ok r (c := 1) (D := 0) (d := (r.map (·.den)).sum) (by decide) (by decide) (fun p hp => by
    have h1 : p.den ≤ (r.map (·.den)).sum := den_sum hp
    have h2 : (r.map (·.den)).sum < 2 ^ (r.map (·.den)).sum := Nat.lt_two_pow_self
    omega)
  exact ⟨a, b⟩
/-- a value's own size -/
def Vb (v : Nat) (q : Rat) : Prop := Wd.Ab ((2 ^ v : Nat) : Rat) q
theorem Vb.mul {v u : Nat} {p q : Rat} (h : Vb v p) (g : Vb u q) : Vb (v + u) (p * q) := by
  have := Wd.Ab.mul h g
  have e : (((2 ^ v : Nat)) : Rat) * ((2 ^ u : Nat) : Rat) = ((2 ^ (v + u) : Nat) : Rat) := by rw [Nat.pow_add, Rat.natCast_mul]
  rw [e] at this
  exact this
theorem Vb.add {v : Nat} {p q : Rat} (h : Vb v p) (g : Vb v q) : Vb (v + 1) (p + q) := by
  obtain ⟨a, b⟩ := h
  obtain ⟨c, d⟩ := g
  have e : ((2 ^ (v + 1) : Nat) : Rat) = ((2 ^ v : Nat) : Rat) + ((2 ^ v : Nat) : Rat) := by
    rw [Nat.pow_succ, Nat.mul_two, Rat.natCast_add]
  unfold Vb Wd.Ab
  rw [e]
  constructor <;> grind
theorem Vb.mono {v u : Nat} {p : Rat} (h : Vb v p) (hv : v ≤ u) : Vb u p := by
  refine Wd.Ab.le h ?_
  exact_mod_cast Nat.pow_le_pow_right (by decide) hv
end Mth
/-! Numbers brought to whole ones without a common part -/
namespace Mth
def gl (c : Int) (ks : List Int) : Int := ks.foldl (fun c x => (Int.gcd c x : Int)) c
theorem gl_cons (c k : Int) (ks : List Int) : gl c (k :: ks) = gl (Int.gcd c k : Int) ks := rfl
theorem gl_app (c : Int) (ks ls : List Int) : gl c (ks ++ ls) = gl (gl c ks) ls := by unfold gl; rw [List.foldl_append]
theorem gl_nn : ∀ (ks : List Int) (c : Int), 0 ≤ c → 0 ≤ gl c ks
  | [], c, h => h
  | k :: ks, c, h => by rw [gl_cons]; exact gl_nn ks _ (by omega)
theorem gl_dvd : ∀ (ks : List Int) (c : Int), gl c ks ∣ c ∧ ∀ k ∈ ks, gl c ks ∣ k
  | [], c => ⟨Int.dvd_refl c, fun k h => by cases h⟩
  | k :: ks, c => by
    obtain ⟨a, b⟩ := gl_dvd ks (Int.gcd c k : Int)
    rw [gl_cons]
    refine ⟨Int.dvd_trans a (Int.gcd_dvd_left c k), fun x hx => ?_⟩
    rcases List.mem_cons.mp hx with rfl | hx
    · exact Int.dvd_trans a (Int.gcd_dvd_right c x)
    · exact b x hx
theorem dvd_gl : ∀ (ks : List Int) (c : Int) {d : Int}, d ∣ c → (∀ k ∈ ks, d ∣ k) → d ∣ gl c ks
  | [], c, d, h, _ => h
  | k :: ks, c, d, h, g => by
    rw [gl_cons]
    exact dvd_gl ks _ (Int.dvd_coe_gcd h (g k (by simp))) fun x hx => g x (by simp [hx])
theorem gl_two (a b : Int) (ks : List Int) : gl (Int.gcd a b : Int) ks = gl 0 (a :: b :: ks) := by
  rw [gl_cons, gl_cons]
  congr 2
  unfold Int.gcd
  simp
/-- the common part of all numbers, made whole -/
def gA (qs : List Rat) : Int := gl 0 (qs.map (wh (cb qs)))
/-- by what all are made greater -/
def scl (qs : List Rat) : Rat := ((cb qs : Int) : Rat) / ((gA qs : Int) : Rat)
theorem int_pos {a : Int} (h : 0 < a) : (0 : Rat) < ((a : Int) : Rat) := by exact_mod_cast h
theorem gA_pos {qs : List Rat} {q : Rat} (h : q ∈ qs) (n : q ≠ 0) : 0 < gA qs := by
  have h0 : 0 ≤ gA qs := gl_nn _ 0 (Int.le_refl _)
  rcases Int.lt_or_eq_of_le h0 with z | z
  · exact z
  · exfalso
    have d := (gl_dvd (qs.map (wh (cb qs))) 0).2 _ (List.mem_map_of_mem (f := wh (cb qs)) h)
    rw [show gl 0 (qs.map (wh (cb qs))) = 0 from z.symm, Int.zero_dvd] at d
    have e := wh_rat ((cb_pos qs).2 q h)
    rw [d] at e
    have p := (cb_pos qs).1
    rcases Rat.mul_eq_zero.mp e.symm with w | w
    · have : cb qs = 0 := by exact_mod_cast w
      omega
    · exact n w
theorem scl_at {qs : List Rat} {q : Rat} (hq : q ∈ qs) : ((wh (cb qs) q : Int) : Rat) / ((gA qs : Int) : Rat) = scl qs * q := by
  rw [wh_rat ((cb_pos qs).2 q hq)]
  unfold scl
  rw [Rat.div_def, Rat.div_def]; grind
theorem scl_int {qs : List Rat} {q0 q : Rat} (h0 : q0 ∈ qs) (n0 : q0 ≠ 0) (hq : q ∈ qs) : ∃ k : Int, scl qs * q = k ∧ k * gA qs = wh (cb qs) q := by
  have g0 := gA_pos h0 n0
  obtain ⟨k, hk⟩ := (gl_dvd (qs.map (wh (cb qs))) 0).2 _ (List.mem_map_of_mem (f := wh (cb qs)) hq)
  have hk' : wh (cb qs) q = gA qs * k := hk
  refine ⟨k, ?_, by rw [hk', Int.mul_comm]⟩
  rw [← scl_at hq, hk', Rat.intCast_mul, Rat.div_def]
  have : ((gA qs : Int) : Rat) ≠ 0 := fun z => by have := int_pos g0; rw [z] at this; exact absurd this Rat.lt_irrefl
  rw [Rat.mul_comm, ← Rat.mul_assoc, Rat.inv_mul_cancel _ this, Rat.one_mul]
theorem scl_den {qs : List Rat} {q0 q : Rat} (h0 : q0 ∈ qs) (n0 : q0 ≠ 0) (hq : q ∈ qs) : (scl qs * q).den = 1 := by
  obtain ⟨k, e, _⟩ := scl_int h0 n0 hq
  rw [e, Rat.den_intCast]
theorem scl_num {qs : List Rat} {q0 q : Rat} (h0 : q0 ∈ qs) (n0 : q0 ≠ 0) (hq : q ∈ qs) : (((scl qs * q).num : Int) : Rat) = scl qs * q := by
  obtain ⟨k, e, _⟩ := scl_int h0 n0 hq
  rw [e, Rat.num_intCast]
theorem scl_le {qs : List Rat} {q0 q : Rat} (h0 : q0 ∈ qs) (n0 : q0 ≠ 0) (hq : q ∈ qs) : (scl qs * q).num.natAbs ≤ (wh (cb qs) q).natAbs := by
  obtain ⟨k, e, g⟩ := scl_int h0 n0 hq
  have g0 := gA_pos h0 n0
  rw [e, Rat.num_intCast, ← g, Int.natAbs_mul]
  exact Nat.le_mul_of_pos_right _ (by omega)
theorem scl_pos {qs : List Rat} {q0 : Rat} (h0 : q0 ∈ qs) (n0 : q0 ≠ 0) : 0 < scl qs := by
  unfold scl
  rw [Rat.div_def]
  exact Rat.mul_pos (int_pos (cb_pos qs).1) (Rat.inv_pos.mpr (int_pos (gA_pos h0 n0)))
theorem scl_one {qs : List Rat} {q0 : Rat} (h0 : q0 ∈ qs) (n0 : q0 ≠ 0) : gl 0 (qs.map fun q => (scl qs * q).num) = 1 := by
  have g0 := gA_pos h0 n0
  have nn : 0 ≤ gl 0 (qs.map fun q => (scl qs * q).num) := gl_nn _ 0 (Int.le_refl _)
  have d : gl 0 (qs.map fun q => (scl qs * q).num) * gA qs ∣ gA qs := by
    refine dvd_gl _ 0 ⟨0, by simp⟩ fun k hk => ?_
    obtain ⟨q, hq, rfl⟩ := List.mem_map.mp hk
    obtain ⟨k, e, g⟩ := scl_int h0 n0 hq
    have := (gl_dvd (qs.map fun q => (scl qs * q).num) 0).2 _ (List.mem_map_of_mem (f := fun q => (scl qs * q).num) hq)
    rw [e, Rat.num_intCast] at this
    rw [← g]
    exact Int.mul_dvd_mul_right _ this
  generalize gl 0 (qs.map fun q => (scl qs * q).num) = G at *
  obtain ⟨c, hc⟩ := d
  have e : gA qs * (G * c - 1) = 0 := by
    have : gA qs * (G * c - 1) = G * gA qs * c - gA qs := by grind
    rw [this, ← hc]; omega
  rcases Int.mul_eq_zero.mp e with z | z
  · omega
  · have : G ∣ 1 := ⟨c, by omega⟩
    exact Int.eq_one_of_dvd_one nn this
/-- as a is to the floor's width, so is what comes of it -/
theorem scl_cross {c q W : Rat} {k l : Int} (hk : c * q = k) (hl : c * W = l) : k * W.num * (q.den : Int) = q.num * (W.den : Int) * l := by
  have e1 : (q.num : Rat) = q * (q.den : Int) := by
    rw [Rat.intCast_natCast]
    exact (rat_num q).symm
  have e2 : (W.num : Rat) = W * (W.den : Int) := by
    rw [Rat.intCast_natCast]
    exact (rat_num W).symm
  have : ((k * W.num * (q.den : Int) : Int) : Rat) = ((q.num * (W.den : Int) * l : Int) : Rat) := by
    rw [Rat.intCast_mul, Rat.intCast_mul, Rat.intCast_mul, Rat.intCast_mul, ← hk, ← hl, e1, e2]
    grind
  exact_mod_cast this
end Mth
namespace My
open PySem
def top (i : Nat) : Stmt := PySem.Challenge.pw_currentfloor_k50_brought.main.body.getD i (.Pass ⟨0, 0, 0, 0⟩)
abbrev sCommon : Stmt := top 4
abbrev sFraction : Stmt := top 5
abbrev sCBot : Stmt := top 6
abbrev sWholes : Stmt := top 7
abbrev s_numbers_of : Stmt := top 9
abbrev s_whole_floor : Stmt := top 10
abbrev s_brought : Stmt := top 12
abbrev s_law_cell_at : Stmt := top 14
abbrev s_law_lowest : Stmt := top 15
abbrev s_law_wheel : Stmt := top 16
abbrev s_law_two : Stmt := top 17
abbrev s_law_broken : Stmt := top 18
abbrev s_law_built : Stmt := top 19
abbrev s_law_scaled_one : Stmt := top 20
abbrev s_law_scaled : Stmt := top 21
abbrev s_law_floor_of : Stmt := top 22
abbrev s_law_side : Stmt := top 23
abbrev s_law_scale_by : Stmt := top 24
abbrev s_law_numbers : Stmt := top 25
abbrev s_law_spoilt : Stmt := top 26
abbrev s_law_shared : Stmt := top 27
abbrev s_law_formed : Stmt := top 28
abbrev sLaw : Stmt := top 29
end My
/-! currentfloor.fractions: each def's promise. sCommon, sFraction, .. are the text's places, given above. -/
namespace My
open PySem L2 Mth
theorem same_new {H : Hp} {p : Addr} (h : H p = none) (o : HO) : Same H (upd H p o) := fun b u q => by rw [upd_ne (ne_of_none q h)]; exact q
theorem iteNN {c A B : Prop} [Decidable c] (hc : ¬ c) (h : A) : if (!decide c) = true then A else B := by
  rw [decide_eq_false hc]
  exact iteT h
theorem iteDT {c A B : Prop} [Decidable c] (hc : c) (h : A) : if decide c = true then A else B := by
  rw [decide_eq_true hc]
  exact iteT h
theorem iteDF {c A B : Prop} [Decidable c] (hc : ¬ c) (h : B) : if decide c = true then A else B := by
  rw [decide_eq_false hc]
  exact iteF h
theorem iv {a b : Int} (h : a = b) : V.int a = V.int b := by rw [h]
theorem ivn {a b : Int} (h : a ≠ b) : ¬ V.int a = V.int b := fun z => h (V.int.inj z)
theorem at0 {x y : V} : atI [x, y] 0 = some x := atI_nat (j := 0) rfl
theorem at1 {x y : V} : atI [x, y] 1 = some y := atI_nat (j := 1) rfl
/-- the sizes with which fractions are reckoned -/
abbrev Sz (i : Int) : Prop := i.natAbs < 2 ^ 3000
/-- a new fraction comes of two numbers -/
abbrev Gives (H : Hp) (Q : VK) (t b : Int) : Prop := ∀ p, H p = none → Q (.ref p) (upd H p (.tup [.int (frac t b).1, .int (frac t b).2]))
/-- the fraction stands at p -/
abbrev FrA (H : Hp) (p : Addr) (n d : Int) : Prop := H p = some (.tup [.int n, .int d])
section
variable {P : Program} {w : World} {K : PySem.W.Frag} {mg : Str → Option Value} {base : Heap}

def spGcd : Sp := fun vs H Q _ => ∃ a b : Int, vs = [.int a, .int b] ∧ Q (.int (Int.gcd a b : Int)) H
theorem abs_gcd {x : Int} {n : Nat} (h : Int.gcd x 0 = n) : (if x < 0 then -x else x) = (n : Int) := by
  rw [← h, Int.gcd_zero_right]
  split <;> omega
theorem scCP : FnScope ["one", "other", "rest"] ["one", "other"] (defScope sCommon) := ⟨rfl, rfl, rfl, by decide +kernel, rfl, by decide +kernel, by decide +kernel⟩
theorem ok_common {f : Addr} {fd : FuncData} (F : Fun K "common_part" "common_part" sCommon f fd) (ma : mg "abs" = none) : FnOk P w K mg base CX0 1 f fd ["one", "other"] spGcd := by
  refine F.ok scCP (fun vs H Q E h => ?_) (fun cdv A outer s H vs Q E hr h => ?_)
  · obtain ⟨a, b, rfl, _⟩ := h
    rfl
  obtain ⟨a, b, rfl, q⟩ := h
  refine ⟨_, pss_cons (ps_while PassesOwn.never (pt_cmpR op_ne (pv 1) pe_int (nomark _))
      (pss_cons (ps_set (i := 2) scCP.nd rfl (Or.inl rfl) (pe_op op_modN (pv 0) (pv 1)))
      (pss_cons (ps_set (i := 0) scCP.nd rfl (Or.inl rfl) (pv 1))
      (pss_one (ps_set (i := 1) scCP.nd rfl (Or.inl rfl) (pv 2))))))
    (pss_one (ps_ret (pe_callB call_abs (by rfl) ma PyProof.Rows.boot_abs (pa_cons (pv 0) pa_nil)))), ?_⟩
  refine while_by (fun σ H2 => ∃ x y r, σ = [some (.int x), some (.int y), r] ∧ H2 = H ∧ Int.gcd x y = Int.gcd a b) (fun σ _ => match σ with | [_, some (.int y), _] => y.natAbs | _ => 0) ⟨a, b, none, rfl, rfl, rfl⟩ ?_ ?_
  · rintro σ H2 ⟨x, y, r, rfl, rfl, g⟩
    refine ⟨_, rfl, rfl, _, rfl, ?_⟩
    by_cases hy : y = 0
    · refine iteNS (iv hy) ?_
      subst hy
      refine ⟨_, rfl, x, rfl, ?_⟩
      rw [abs_gcd g]
      exact q
    · refine iteNN (ivn hy) ?_
      exact ⟨_, rfl, _, rfl, _, _, rfl, rfl, hy, _, rfl, _, rfl, ⟨y, x.fmod y, some (.int (x.fmod y)), rfl, rfl, (gcd_fmod x y).trans g⟩, fmod_lt x y hy⟩
  · rintro σ H2 Q1 Q2 hq ⟨v, e, sc, b, eb, z⟩
    exact ⟨v, e, sc, b, eb, hq _ _ z⟩

/-- fraction(top, bottom); C the class NoNumber -/
def spFrac (C : Addr) : Sp := fun vs H Q E => ∃ t b : Int, vs = [.int t, .int b] ∧ Big b ∧ (b = 0 → E (.ref C) none H) ∧ (b ≠ 0 → ∀ p, H p = none → Q (.ref p) (upd H p (.tup [.int (frac t b).1, .int (frac t b).2])))
theorem scF : FnScope ["top", "bottom", "part"] ["top", "bottom"] (defScope sFraction) := ⟨rfl, rfl, rfl, by decide +kernel, rfl, by decide +kernel, by decide +kernel⟩
theorem ok_fraction {f g C : Addr} {fd gd : FuncData} {bm : List Value} (F : Fun K "fraction" "fraction" sFraction f fd) (G : FnOk P w K mg base CX0 1 g gd ["one", "other"] spGcd) (bG : Binds K gd ["one", "other"] []) (kG : PySem.W.keepIn K (.ref g) = true) (mG : mg "common_part" = some (.ref g))
    (mC : mg "NoNumber" = some (.ref C)) (xC : PySem.W.excIn K C [.type "ValueError", .type "Exception", .type "BaseException", .type "object"] "ValueError.__new__" = true) : FnOk P w K mg base (CXr P w) 2 f fd ["top", "bottom"] (spFrac C) := by
  refine okX F scF (fun vs H Q E h => ?_) (fun cdv A outer s H vs Q E hr h => ?_)
  · obtain ⟨a, b, rfl, _⟩ := h
    rfl
  obtain ⟨t, b, rfl, hb, h0, h1⟩ := h
  refine ⟨_, pss_cons (ps_if (pt_cmpR op_eq (pv 1) pe_int (nomark _)) (pss_one (ps_raise (by rfl) mC xC PySem.F.excBase_ValueError rfl raise_out (pa_cons pe_str pa_nil))) pss_nil)
    (pss_cons (ps_set (i := 2) scF.nd rfl (Or.inl rfl) (pe_call (CX := CX0) G hr (by rfl) mG kG bG .nil (pass0 (X := _)) (pa_cons (pv 0) (pa_cons (pv 1) pa_nil))))
    (pss_cons (ps_if (pt_cmpR op_lt (pv 1) pe_int (nomark _)) (pss_one (ps_set (i := 2) scF.nd rfl (Or.inl rfl) (pe_un un_neg (pv 2)))) pss_nil)
    (pss_one (ps_ret (pe_tup (pa_cons (pe_op op_fdivB (pv 0) (pv 2)) (pa_cons (pe_op op_fdivB (pv 1) (pv 2)) pa_nil))))))), ?_⟩
  refine ⟨_, rfl, rfl, _, rfl, ?_⟩
  by_cases hz : b = 0
  · refine iteDT (iv hz) ?_
    exact ⟨by show 1 ≤ sizeLine; decide, h0 hz⟩
  refine iteDF (ivn hz) ?_
  refine ⟨_, rfl, _, rfl, t, b, rfl, ?_⟩
  refine ⟨_, rfl, _, _, rfl, rfl, _, rfl, ?_⟩
  have fin : ∀ part, part = Mth.part t b → tRet (tTup (tCons (tOp (rI CDivB fun i j => V.int (i.fdiv j)) (tVar 0) (tVar 2)) (tCons (tOp (rI CDivB fun i j => V.int (i.fdiv j)) (tVar 1) (tVar 2)) tNil)))
      { nx := fun _ H' => Q .non H', rt := Q } [some (.int t), some (.int b), some (.int part)] H := by
    rintro part rfl
    have hp : CDivB t (Mth.part t b) := ⟨part_ne t b hz, Nat.lt_of_le_of_lt (part_le t b hz) hb⟩
    exact ⟨_, rfl, _, rfl, _, _, rfl, rfl, hp, _, rfl, _, rfl, _, _, rfl, rfl, hp, by show 2 ≤ sizeLine; decide, h1 hz⟩
  by_cases hn : b < 0
  · refine iteDT hn ?_
    exact ⟨_, rfl, _, rfl, fin _ (by unfold Mth.part; rw [if_pos hn])⟩
  · refine iteDF hn ?_
    exact fin _ (by unfold Mth.part; rw [if_neg hn])
end
end My
/-! currentfloor.fractions and currentfloor.tables: promises of what reckons measures -/
namespace My
open PySem L2 Mth Wd
theorem same_up {x : Addr} {H0 H : Hp} (s : Same H0 H) (n : H0 x = none) (o : HO) : Same H0 (upd H x o) := fun b u q => by rw [upd_ne (ne_of_none q n)]; exact s b u q
theorem szl {n : Nat} (h : n ≤ 100000) : n < sizeLine := by rw [sizeLine_eq]; omega
theorem szle {n : Nat} (h : n ≤ 100000) : n ≤ sizeLine := Nat.le_of_lt (szl h)
theorem big2 {i : Int} {n : Nat} (h : i.natAbs ≤ 2 ^ n) (hn : n < 8000) : Big i := Nat.lt_of_le_of_lt h (Nat.pow_lt_pow_right (by decide) hn)
theorem cut_take (xs : List V) {j : Nat} (h : j ≤ xs.length) : cutV xs none (some (j : Int)) = xs.take j := by
  unfold cutV
  have e1 : HT.sIx xs.length 0 none = 0 := rfl
  have e2 : HT.sIx xs.length xs.length (some (j : Int)) = j := by simp [HT.sIx]; rw [if_neg (by omega)]; omega
  rw [e1, e2]; simp
theorem cut_drop (xs : List V) {j : Nat} (h : j ≤ xs.length) : cutV xs (some (j : Int)) none = xs.drop j := by
  unfold cutV
  have e1 : HT.sIx xs.length 0 (some (j : Int)) = j := by simp [HT.sIx]; rw [if_neg (by omega)]; omega
  have e2 : HT.sIx xs.length xs.length none = xs.length := rfl
  rw [e1, e2, List.take_of_length_le]; simp
theorem ints_at {ns : List Int} {i : Nat} {v : V} (h : (ns.map V.int)[i]? = some v) : ∃ e, v = .int e ∧ ns[i]? = some e := by
  rw [List.getElem?_map] at h
  cases q : ns[i]? with
  | none => rw [q] at h; cases h
  | some e => rw [q] at h; exact ⟨e, (Option.some.inj h).symm, rfl⟩
theorem take_succ_of {α : Type} {xs : List α} {i : Nat} {x : α} (h : xs[i]? = some x) : xs.take (i + 1) = xs.take i ++ [x] := by
  rw [List.take_add_one, h]; rfl
section
variable {P : Program} {w : World} {K : PySem.W.Frag} {mg : Str → Option Value} {base : Heap} {f g h C : Addr} {fd gd hd : FuncData}

/-- the common bottom of a row -/
def spCB : Sp := fun vs H Q _ => ∃ (a : Addr) (qs : List Rat) (d : Nat), vs = [.ref a] ∧ TupR FrR H a qs ∧ (∀ q ∈ qs, q.den ≤ 2 ^ d) ∧ d * qs.length + d < 8000 ∧ Q (.int (cb qs)) H
theorem scCB : FnScope ["row", "common", "one"] ["row"] (defScope sCBot) := ⟨rfl, rfl, rfl, by decide +kernel, rfl, by decide +kernel, by decide +kernel⟩
/-- the row times a number -/
def spWholes : Sp := fun vs H Q _ => ∃ (a : Addr) (qs : List Rat) (b : Int), vs = [.ref a, .int b] ∧ TupR FrR H a qs ∧ qs.length ≤ 1000 ∧ (∀ q ∈ qs, Big q.num ∧ Big (q.den : Int) ∧ Big (b.fdiv q.den)) ∧
  ∀ p H', Same H H' → H p = none → IntsL H' p (qs.map (wh b)) → Q (.ref p) H'
theorem scWs : FnScope ["row", "bottom"] ["row", "bottom"] (defScope sWholes) := ⟨rfl, rfl, rfl, by decide +kernel, rfl, by decide +kernel, by decide +kernel⟩
theorem ndWs : (["one", "bottom"] : List Str).Nodup := by decide +kernel
theorem ok_wholes (F : Fun K "wholes" "wholes" sWholes f fd) : FnOk P w K mg base CX0 1 f fd ["row", "bottom"] spWholes := by
  refine F.ok scWs (fun vs H Q E h => ?_) (fun cdv A outer s H vs Q E hr h => ?_)
  · obtain ⟨a, qs, b, rfl, _⟩ := h
    rfl
  obtain ⟨a, qs, b, rfl, ⟨bs, ha, hA⟩, hn, hsz, q⟩ := h
  refine ⟨_, pss_one (ps_ret (pe_comp (Nc := ["one", "bottom"]) (cap := [(1, 1)]) (g := gName 0) (te := tOp (rI CMulB fun i j => .int (i * j)) (tOp (rIxT K) (tVar 0) (tC (.int 0))) (tOp (rI CDivB fun i j => .int (i.fdiv j)) (tVar 1) (tOp (rIxT K) (tVar 0) (tC (.int 1))))) rfl (pi_tup (pv 0))
      (comp_mk rfl rfl (by decide +kernel) (by decide +kernel) (List.forall_mem_cons.mpr ⟨⟨rfl, rfl⟩, List.forall_mem_nil _⟩) rfl (List.forall_mem_cons.mpr ⟨⟨_, _, rfl, rfl, rfl, rfl, rfl⟩, List.forall_mem_nil _⟩))
      (fun C fp pins s' H' => pg_name (i := 0) ndWs rfl (Or.inl rfl)) (fun C fp pins s' H' => pe_op op_mulB (pe_ix ix_tup (pv 0) pe_int (fun _ _ => rfl)) (pe_op op_fdivB (pv 1) (pe_ix ix_tup (pv 0) pe_int (fun _ _ => rfl)))))), ?_⟩
  refine ⟨_, rfl, a, rfl, ⟨_, SqT.of ha⟩, fun acc hacc => ?_⟩
  refine comp_run (run_tup ha) (by rw [List.length_map, hA.1]; exact hn) hacc (fun i ys σ _ => ys = ((qs.take i).map (wh b)).map V.int ∧ ∃ u, σ = [u, some (.int b)]) ⟨rfl, none, rfl⟩ ?_ ?_
  · rintro i ys σ H2 x H3 hi sm hacc2 ⟨hys, u, rfl⟩ ⟨rfl, hx⟩ C hC
    obtain ⟨c, y, rfl, _, hy, hB⟩ := hA.ref hx
    obtain ⟨s1, s2, s3⟩ := hsz y (List.mem_of_getElem? hy)
    have hB3 := mo_fr sm hB
    have yd := y.den_nz
    refine ⟨_, rfl, c, _, _, _, rfl, rfl, SqT.of hB3, at0, _, rfl, _, rfl, c, _, _, _, rfl, rfl, SqT.of hB3, at1, _, _, rfl, rfl, ⟨by omega, s2⟩, _, _, rfl, rfl, ⟨s1, s3⟩, ?_⟩
    refine hC _ _ _ (Same.refl _) ⟨?_, _, rfl⟩
    rw [hys, take_succ_of hy, List.map_append, List.map_append]; rfl
  · rintro ys σ H2 sm ha2 hl ⟨hys, _⟩
    refine q acc H2 sm hacc ?_
    rw [List.length_map, hA.1, List.take_length] at hys
    unfold IntsL
    rw [ha2, hys]

theorem bt_list : bootBuiltins "list" = some (.type "list") := by decide +kernel
end
end My
/-! currentfloor.floors: numbers_of, whole_floor; currentfloor.squares: brought -/
namespace My
open PySem L2 Mth Wd
theorem fr_upd {H : Hp} {a : Addr} {bs : List Addr} {qs : List Rat} {ys : List V} (h : At FrR H bs qs) (e : H a = some (.lst ys)) (o : HO) : At FrR (upd H a o) bs qs := (at_del e h).keep mo_fr (del_up H a o)
theorem tfd {H : Hp} {a b : Addr} {r : List Rat} {ys : List V} (h : TupR FrR H b r) (e : H a = some (.lst ys)) : TupR FrR (del H a) b r := by
  obtain ⟨cs, h1, h2⟩ := h
  exact ⟨cs, del_at h1 (fun z => by rw [z, e] at h1; cases h1), at_del e h2⟩
theorem mo_tf : Mo (TupR FrR) := fun s h => mo_tup (R := FrR) (fun s h => mo_fr s h) s h
theorem t3_0 (x y z : V) : atI [x, y, z] 0 = some x := atI_nat (j := 0) rfl
theorem t3_1 (x y z : V) : atI [x, y, z] 1 = some y := atI_nat (j := 1) rfl
theorem t3_2 (x y z : V) : atI [x, y, z] 2 = some z := atI_nat (j := 2) rfl
/-- a floor: width, height, rectangles -/
def FloorR (H : Hp) (a : Addr) (W U : Rat) (rows : List (List Rat)) : Prop := ∃ p q r, H a = some (.tup [.ref p, .ref q, .ref r]) ∧ FrR H p W ∧ FrR H q U ∧ TupR (TupR FrR) H r rows
theorem mo_floor {H H' : Hp} {a : Addr} {W U : Rat} {rows : List (List Rat)} (s : Same H H') (h : FloorR H a W U rows) : FloorR H' a W U rows := by
  obtain ⟨p, q, r, h1, h2, h3, h4⟩ := h
  exact ⟨p, q, r, s _ _ h1, s _ _ h2, s _ _ h3, mo_tup (R := TupR FrR) (fun s h => mo_tf s h) s h4⟩
abbrev nums (W U : Rat) (rows : List (List Rat)) : List Rat := W :: U :: rows.flatten
theorem flat4 : ∀ {rows : List (List Rat)}, (∀ r ∈ rows, r.length = 4) → rows.flatten.length = 4 * rows.length
  | [], _ => rfl
  | r :: rows, h => by
    rw [List.flatten_cons, List.length_append, h r (by simp), flat4 (fun x hx => h x (by simp [hx])), List.length_cons]; omega
section
variable {P : Program} {w : World} {K : PySem.W.Frag} {mg : Str → Option Value} {base : Heap} {f g h C0 f1 f2 f3 f4 f5 : Addr} {fd gd hd d1 d2 d3 d4 d5 : FuncData}
/-- the common bottom of a row that is a list -/
def spCBL : Sp := fun vs H Q _ => ∃ (a : Addr) (qs : List Rat) (d : Nat), vs = [.ref a] ∧ LstR FrR H a qs ∧ (∀ q ∈ qs, q.den ≤ 2 ^ d) ∧ d * qs.length + d < 8000 ∧ Q (.int (cb qs)) H
theorem ok_cbotL (F : Fun K "common_bottom" "common_bottom" sCBot f fd) (G : FnOk P w K mg base CX0 1 g gd ["one", "other"] spGcd) (bG : Binds K gd ["one", "other"] []) (kG : PySem.W.keepIn K (.ref g) = true) (mG : mg "common_part" = some (.ref g)) :
    FnOk P w K mg base CX0 2 f fd ["row"] spCBL := by
  refine F.ok scCB (fun vs H Q E h => ?_) (fun cdv A outer s H vs Q E hr h => ?_)
  · obtain ⟨a, qs, d, rfl, _⟩ := h
    rfl
  obtain ⟨a, qs, d, rfl, ⟨bs, ha, hA⟩, hd, hsz, q⟩ := h
  refine ⟨_, pss_cons (ps_set (i := 1) scCB.nd rfl (Or.inl rfl) pe_int)
    (pss_cons (ps_for PassesOwn.never rfl (pi_list (pv 0)) (pg_name (i := 2) scCB.nd rfl (Or.inl rfl))
      (pss_one (ps_set (i := 1) scCB.nd rfl (Or.inl rfl) (pe_op op_mulB (pe_op op_fdivB (pv 1) (pe_call G hr (by rfl) mG kG bG .nil pass0 (pa_cons (pv 1) (pa_cons (pe_ix ix_tup (pv 2) pe_int (fun _ _ => rfl)) pa_nil)))) (pe_ix ix_tup (pv 2) pe_int (fun _ _ => rfl))))))
    (pss_one (ps_ret (pv 1)))), ?_⟩
  refine ⟨_, rfl, a, rfl, ⟨_, SqL.of ha⟩, ?_⟩
  refine for_list (xs := bs.map V.ref) (fun i σ H2 => ∃ u, H2 = H ∧ σ = [some (.ref a), some (.int ((qs.take i).foldl cb1 1)), u]) ⟨none, rfl, rfl⟩ (fun i σ H2 _ ⟨_, e, _⟩ => by rw [e]; exact SqL.of ha) ?_ ?_
  · rintro i x σ H2 hx ⟨u, rfl, rfl⟩
    obtain ⟨b, y, rfl, _, hy, hB⟩ := hA.ref hx
    have hi : i < qs.length := (List.getElem?_eq_some_iff.mp hy).1
    have ym : y ∈ qs := List.mem_of_getElem? hy
    obtain ⟨c1, c2, c3, c4⟩ := cb_ok (qs.take i) (c := 1) (D := 0) (d := d) (by decide) (by decide) (fun p hp => hd p (List.mem_of_mem_take hp))
    generalize hc : (qs.take i).foldl cb1 1 = c at *
    have lt : (qs.take i).length ≤ qs.length := by simp; omega
    have mle : d * (qs.take i).length ≤ d * qs.length := Nat.mul_le_mul_left d lt
    have hdn : y.den ≤ 2 ^ d := hd y ym
    have hg0 : (Int.gcd c y.den : Int) ≠ 0 := by have := Int.gcd_pos_of_ne_zero_left (y.den : Int) (show c ≠ 0 by omega); omega
    have hgb : Big (Int.gcd c y.den : Int) := by
      refine big2 (n := d) ?_ (by omega)
      rw [Int.natAbs_natCast]
      refine Nat.le_trans (Nat.le_of_dvd ?_ (Int.ofNat_dvd_left.mp (Int.gcd_dvd_right c (y.den : Int)))) ?_
      · have := y.den_nz; omega
      · simpa using hdn
    have hb1 : Big (c.fdiv (Int.gcd c y.den : Int)) := by
      refine big2 (n := 0 + d * (qs.take i).length) (Nat.le_trans ?_ c4) (by omega)
      rw [Int.fdiv_eq_ediv_of_dvd (Int.gcd_dvd_left c _)]
      exact Int.natAbs_ediv_le_natAbs c _
    have hb2 : Big (y.den : Int) := big2 (n := d) (by simpa using hdn) (by omega)
    refine ⟨_, rfl, _, rfl, _, rfl, b, _, _, _, rfl, rfl, SqT.of hB, at1, c, y.den, rfl, _, _, rfl, rfl, ⟨hg0, hgb⟩, _, rfl, b, _, _, _, rfl, rfl, SqT.of hB, at1, _, _, rfl, rfl, ⟨hb1, hb2⟩, ?_⟩
    refine ⟨some (.ref b), rfl, ?_⟩
    rw [take_succ_of hy, List.foldl_append]
    show _ = [some (V.ref a), some (.int (cb1 ((qs.take i).foldl cb1 1) y)), some (.ref b)]
    rw [hc]; rfl
  · rintro σ H2 ⟨u, rfl, rfl⟩
    refine ⟨_, rfl, ?_⟩
    rw [List.length_map, hA.1, List.take_length]
    exact q
/-- all numbers of a floor -/
def spNums : Sp := fun vs H Q _ => ∃ (a : Addr) (W U : Rat) (rows : List (List Rat)), vs = [.ref a] ∧ FloorR H a W U rows ∧ rows.length ≤ 40 ∧ (∀ r ∈ rows, r.length = 4) ∧ ∀ p H', Same H H' → LstR FrR H' p (nums W U rows) → Q (.ref p) H'
theorem scNo : FnScope ["floor", "numbers", "rectangle"] ["floor"] (defScope s_numbers_of) := ⟨rfl, rfl, rfl, by decide +kernel, rfl, by decide +kernel, by decide +kernel⟩
theorem ok_nums (F : Fun K "numbers_of" "numbers_of" s_numbers_of f fd) (mli : mg "list" = none) : FnOk P w K mg base CX0 1 f fd ["floor"] spNums := by
  refine F.ok scNo (fun vs H Q E h => ?_) (fun cdv A outer s H vs Q E hr h => ?_)
  · obtain ⟨a, W, U, rows, rfl, _⟩ := h
    rfl
  obtain ⟨a, W, U, rows, rfl, ⟨p, q0, r, ha, hW, hU, bs, hrr, hB⟩, hl, h4, q⟩ := h
  refine ⟨_, pss_cons (ps_set (i := 1) scNo.nd rfl (Or.inl rfl) (pe_lst (pa_cons (pe_ix ix_tup (pv 0) pe_int (fun _ _ => rfl)) (pa_cons (pe_ix ix_tup (pv 0) pe_int (fun _ _ => rfl)) pa_nil))))
    (pss_cons (ps_for PassesOwn.never rfl (pi_tup (pe_ix ix_tup (pv 0) pe_int (fun _ _ => rfl))) (pg_name (i := 2) scNo.nd rfl (Or.inl rfl))
      (pss_one (ps_expr (pe_bm PySem.F.plainAttrs_list PySem.F.slot_list_extend PySem.F.type_list_extend mt_extend (pv 1) (pa_cons (pe_callTy call_list_of (by rfl) mli bt_list (pa_cons (pv 2) pa_nil)) pa_nil)))))
    (pss_one (ps_ret (pv 1)))), ?_⟩
  refine ⟨_, rfl, a, _, _, _, rfl, rfl, SqT.of ha, t3_0 _ _ _, _, rfl, a, _, _, _, rfl, rfl, SqT.of ha, t3_1 _ _ _, by show 2 ≤ sizeLine; decide, fun L hL => ?_⟩
  have s1 := same_new hL (.lst [.ref p, .ref q0])
  have e1 : (upd H L (.lst [.ref p, .ref q0])) L = some (.lst ([p, q0].map V.ref)) := upd_same
  generalize upd H L (.lst [.ref p, .ref q0]) = H1 at s1 e1
  have lb : bs.length = rows.length := hB.1
  refine ⟨_, rfl, a, _, _, _, rfl, rfl, SqT.of (s1 _ _ ha), t3_2 _ _ _, r, rfl, ⟨_, SqT.of (s1 _ _ hrr)⟩, ?_⟩
  refine for_tup (xs := bs.map V.ref) (fun i σ H2 => Same H H2 ∧ ∃ (u : Option V) (cs : List Addr), σ = [some (.ref a), some (.ref L), u] ∧ H2 L = some (.lst (cs.map V.ref)) ∧ At FrR H2 cs (W :: U :: (rows.take i).flatten))
    ⟨s1, none, [p, q0], rfl, e1, (At.nil.snoc (R := FrR) (b := p) (x := W) (s1 _ _ hW)).snoc (b := q0) (x := U) (s1 _ _ hU)⟩ (fun i σ H2 _ ⟨s2, _⟩ => SqT.of (s2 _ _ hrr)) ?_ ?_
  · rintro i x σ H2 hx ⟨s2, u, cs, rfl, hcs, hC⟩
    obtain ⟨b, row, rfl, _, hrow, es, hes, hE⟩ := hB.ref hx
    have hi : i < rows.length := (List.getElem?_eq_some_iff.mp hrow).1
    have le : es.length = 4 := by rw [hE.1]; exact h4 row (List.mem_of_getElem? hrow)
    have lc : cs.length = 2 + 4 * i := by
      rw [hC.1, List.length_cons, List.length_cons, flat4 (fun x hx => h4 x (List.mem_of_mem_take hx)), List.length_take]; omega
    refine ⟨_, rfl, .inl ⟨rfl, _, SqL.of hcs⟩, _, rfl, b, _, rfl, .inr (SqT.of (s2 _ _ hes)), fun lf hlf => ?_⟩
    have s3 := same_new hlf (.lst (es.map V.ref))
    have e3 : (upd H2 lf (.lst (es.map V.ref))) lf = some (.lst (es.map V.ref)) := upd_same
    generalize upd H2 lf (.lst (es.map V.ref)) = H3 at s3 e3
    refine ⟨L, lf, _, _, rfl, rfl, s3 _ _ hcs, e3, by rw [List.length_map, List.length_map]; exact szle (by omega), ?_⟩
    refine ⟨same_up (s2.trans s3) hL _, _, cs ++ es, rfl, by rw [upd_same]; simp, ?_⟩
    have := (hC.keep mo_fr s3).app (hE.keep mo_fr (s2.trans s3))
    rw [take_succ_of hrow, List.flatten_append, List.flatten_cons, List.flatten_nil, List.append_nil]
    exact fr_upd this (s3 _ _ hcs) _
  · rintro σ H2 ⟨s2, u, cs, rfl, hcs, hC⟩
    rw [List.length_map, lb, List.take_length] at hC
    exact ⟨_, rfl, q L H2 s2 ⟨cs, hcs, hC⟩⟩
theorem sIxT2 {n : Nat} (h : 2 ≤ n) : HT.sIx n n (some 2) = 2 := by simp [HT.sIx]; omega
/-- all numbers times a number, whole -/
def spWF : Sp := fun vs H Q _ => ∃ (a : Addr) (b : Int) (W U : Rat) (rows : List (List Rat)), vs = [.ref a, .int b] ∧ FloorR H a W U rows ∧ rows.length ≤ 40 ∧ (∀ r ∈ rows, r.length = 4) ∧ (∀ q ∈ nums W U rows, Big q.num ∧ Big (q.den : Int) ∧ Big (b.fdiv q.den)) ∧
  ∀ p l H', Same H H' → H' p = some (.tup [.int (wh b W), .int (wh b U), .ref l]) → LstR IntsL H' l (rows.map fun r => r.map (wh b)) → Q (.ref p) H'
theorem scWF : FnScope ["floor", "bottom", "sides"] ["floor", "bottom"] (defScope s_whole_floor) := ⟨rfl, rfl, rfl, by decide +kernel, rfl, by decide +kernel, by decide +kernel⟩
theorem ndRB : (["rectangle", "bottom"] : List Str).Nodup := by decide +kernel
theorem ok_wf (F : Fun K "whole_floor" "whole_floor" s_whole_floor f fd) (G1 : FnOk P w K mg base CX0 1 f1 d1 ["row", "bottom"] spWholes) (b1 : Binds K d1 ["row", "bottom"] []) (k1 : PySem.W.keepIn K (.ref f1) = true) (m1 : mg "wholes" = some (.ref f1)) :
    FnOk P w K mg base CX0 2 f fd ["floor", "bottom"] spWF := by
  refine F.ok scWF (fun vs H Q E h => ?_) (fun cdv A outer s H vs Q E hr h => ?_)
  · obtain ⟨a, b, W, U, rows, rfl, _⟩ := h
    rfl
  obtain ⟨a, b, W, U, rows, rfl, ⟨p, q0, r, ha, hW, hU, bs, hrr, hB⟩, hl, h4, hsz, q⟩ := h
  refine ⟨_, pss_cons (ps_set (i := 2) scWF.nd rfl (Or.inl rfl) (pe_call G1 hr (by rfl) m1 k1 b1 .nil pass0 (pa_cons (pe_slice sl_tup (pv 0) po_none (po_some pe_int)) (pa_cons (pv 1) pa_nil))))
    (pss_one (ps_ret (pe_tup (pa_cons (pe_ix ix_list (pv 2) pe_int (fun _ _ => rfl)) (pa_cons (pe_ix ix_list (pv 2) pe_int (fun _ _ => rfl)) (pa_cons
      (pe_comp (Nc := ["rectangle", "bottom"]) (cap := [(1, 1)]) (g := gName 0) (te := tCall spWholes [] E0 (tCons (tVar 0) (tCons (tVar 1) tNil))) rfl (pi_tup (pe_ix ix_tup (pv 0) pe_int (fun _ _ => rfl)))
      (comp_mk rfl rfl (by decide +kernel) (by decide +kernel) (List.forall_mem_cons.mpr ⟨⟨rfl, rfl⟩, List.forall_mem_nil _⟩) rfl (List.forall_mem_cons.mpr ⟨⟨_, _, rfl, rfl, rfl, rfl, rfl⟩, List.forall_mem_nil _⟩))
      (fun C fp pins s' H' => pg_name (i := 0) ndRB rfl (Or.inl rfl)) (fun C fp pins s' H' => pe_call G1 hr (by rfl) m1 k1 b1 .nil pass0 (pa_cons (pv 0) (pa_cons (pv 1) pa_nil)))) pa_nil)))))), ?_⟩
  refine ⟨_, rfl, 2, rfl, a, _, rfl, SqT.of ha, fun z => ?_, fun p1 hp1 => ?_⟩
  · have := z.2
    rw [sIxT2 (by show 2 ≤ 3; decide)] at this
    cases this
  rw [show cutV [V.ref p, .ref q0, .ref r] none (some 2) = [p, q0].map V.ref by rw [show (some (2 : Int)) = some ((2 : Nat) : Int) from rfl, cut_take _ (by show 2 ≤ 3; decide)]; rfl]
  have s1 := same_new hp1 (.tup ([p, q0].map V.ref))
  have e1 : (upd H p1 (.tup ([p, q0].map V.ref))) p1 = some (.tup ([p, q0].map V.ref)) := upd_same
  generalize upd H p1 (.tup ([p, q0].map V.ref)) = H1 at s1 e1
  have a1 : At FrR H1 [p, q0] [W, U] := (At.nil.snoc (R := FrR) (b := p) (x := W) (s1 _ _ hW)).snoc (b := q0) (x := U) (s1 _ _ hU)
  refine ⟨_, rfl, p1, [W, U], b, rfl, ⟨_, e1, a1⟩, by show 2 ≤ 1000; decide, fun y hy => hsz y (by simp only [List.mem_cons, List.not_mem_nil, or_false] at hy; rcases hy with rfl | rfl <;> simp), fun l2 H2 s2 _ hl2 => ?_⟩
  have hl2' : H2 l2 = some (.lst [.int (wh b W), .int (wh b U)]) := hl2
  have s12 := s1.trans s2
  have lb : bs.length = rows.length := hB.1
  refine ⟨_, rfl, l2, _, _, _, rfl, rfl, SqL.of hl2', at0, _, rfl, l2, _, _, _, rfl, rfl, SqL.of hl2', at1, ?_⟩
  refine ⟨_, rfl, a, _, _, _, rfl, rfl, SqT.of (s12 _ _ ha), t3_2 _ _ _, r, rfl, ⟨_, SqT.of (s12 _ _ hrr)⟩, fun acc hacc => ?_⟩
  refine comp_run (run_tup (s12 _ _ hrr)) (by rw [List.length_map]; omega) hacc (fun i ys σ hp => ∃ gs : List Addr, ys = gs.map V.ref ∧ At IntsL hp gs ((rows.map fun r => r.map (wh b)).take i) ∧ ∃ u, σ = [u, some (.int b)]) ⟨[], rfl, At.nil, none, rfl⟩ ?_ ?_
  · rintro i ys σ H3 z H4 hi sm hac3 ⟨gs, rfl, hG, u, rfl⟩ ⟨rfl, hx⟩ Cc hC
    obtain ⟨c, row, rfl, _, hrow, hR⟩ := hB.ref hx
    have rm : row ∈ rows := List.mem_of_getElem? hrow
    have hR3 := mo_tf (s12.trans sm) hR
    refine ⟨_, rfl, _, rfl, c, row, b, rfl, hR3, by rw [h4 row rm]; omega, fun y hy => hsz y (by simp only [List.mem_cons]; exact .inr (.inr (List.mem_flatten.mpr ⟨row, rm, hy⟩))), fun p5 H5 s5 np hp => ?_⟩
    refine hC _ _ _ s5 ⟨gs ++ [p5], by simp, ?_, _, rfl⟩
    have ne : p5 ≠ acc := fun z => by rw [z, hac3] at np; cases np
    have e3 : (rows.map fun r => r.map (wh b))[i]? = some (row.map (wh b)) := by rw [List.getElem?_map, hrow]; rfl
    rw [take_succ_of e3]
    exact (hG.keep mo_ints (del_mono acc s5)).snoc (del_at hp ne)
  rintro ys σ2 H3 s3 hac3 hl3 ⟨gs, rfl, hG, u, rfl⟩
  rw [List.length_map, lb, List.take_of_length_le (by rw [List.length_map]; omega)] at hG
  refine ⟨by show 3 ≤ sizeLine; decide, fun pp hpp => ?_⟩
  have s4 := same_new hpp (.tup [.int (wh b W), .int (wh b U), .ref acc])
  exact q pp acc _ (s12.trans (s3.trans s4)) upd_same ⟨gs, s4 _ _ hac3, (hG.keep mo_ints (del_sub H3 acc)).keep mo_ints s4⟩
def rTupOf (K : PySem.W.Frag) : List V → Hp → VK → Prop := fun xs H Q => ∃ p ys, xs = [.ref p] ∧ ((SqL K H p ys ∧ ∀ l, H l = none → Q (.ref l) (upd H l (.tup ys))) ∨ (SqT K H p ys ∧ Q (.ref p) H))
/-- how great the numbers of a floor may be -/
structure FlK (W U : Rat) (rows : List (List Rat)) : Prop where
  len : rows.length ≤ 40
  four : ∀ r ∈ rows, r.length = 4
  sb : ∀ q ∈ nums W U rows, Sb 30 16 q
  pos : 0 < W
theorem FlK.cnt {W U : Rat} {rows : List (List Rat)} (k : FlK W U rows) : (nums W U rows).length ≤ 162 := by
  have := k.len
  rw [List.length_cons, List.length_cons, flat4 k.four]; omega
theorem FlK.cb {W U : Rat} {rows : List (List Rat)} (k : FlK W U rows) : (cb (nums W U rows)).natAbs ≤ 2 ^ 2592 := by
  obtain ⟨_, _, _, c4⟩ := cb_ok (nums W U rows) (c := 1) (D := 0) (d := 16) (by decide) (by decide) fun q hq => (k.sb q hq).2
  refine Nat.le_trans c4 (Nat.pow_le_pow_right (by decide) ?_)
  have := k.cnt
  omega
theorem FlK.wh {W U : Rat} {rows : List (List Rat)} (k : FlK W U rows) {q : Rat} (hq : q ∈ nums W U rows) : (wh (Mth.cb (nums W U rows)) q).natAbs ≤ 2 ^ 2622 :=
  wh_le ((cb_pos _).2 q hq) (k.sb q hq).1 k.cb
theorem FlK.big {W U : Rat} {rows : List (List Rat)} (k : FlK W U rows) {q : Rat} (hq : q ∈ nums W U rows) : Big q.num ∧ Big (q.den : Int) ∧ Big ((Mth.cb (nums W U rows)).fdiv q.den) := by
  refine ⟨big2 (k.sb q hq).1 (by decide), big2 (n := 16) (by rw [Int.natAbs_natCast]; exact (k.sb q hq).2) (by decide), big2 (n := 2592) (Nat.le_trans ?_ k.cb) (by decide)⟩
  rw [Int.fdiv_eq_ediv_of_dvd ((cb_pos _).2 q hq)]
  exact Int.natAbs_ediv_le_natAbs _ _
theorem FlK.gA {W U : Rat} {rows : List (List Rat)} (k : FlK W U rows) : 0 < gA (nums W U rows) ∧ (gA (nums W U rows)).natAbs ≤ 2 ^ 2622 := by
  have wm : W ∈ nums W U rows := by simp
  have w0 : W ≠ 0 := fun z => by have := k.pos; rw [z] at this; exact absurd this Rat.lt_irrefl
  have g0 := gA_pos wm w0
  refine ⟨g0, ?_⟩
  have d := (gl_dvd ((nums W U rows).map (Mth.wh (Mth.cb (nums W U rows)))) 0).2 _ (List.mem_map_of_mem wm)
  have e := wh_rat ((cb_pos (nums W U rows)).2 W wm)
  refine Nat.le_trans (Nat.le_of_dvd ?_ (Int.natAbs_dvd_natAbs.mpr d)) (k.wh wm)
  refine Nat.pos_of_ne_zero fun z => ?_
  rw [Int.natAbs_eq_zero.mp z] at e
  have p := (cb_pos (nums W U rows)).1
  rcases Rat.mul_eq_zero.mp e.symm with y | y
  · have : Mth.cb (nums W U rows) = 0 := by exact_mod_cast y
    omega
  · exact w0 y
def spBrt : Sp := fun vs H Q _ => ∃ (a : Addr) (W U : Rat) (rows : List (List Rat)), vs = [.ref a] ∧ FloorR H a W U rows ∧ FlK W U rows ∧
  ∀ p H', Same H H' → FloorR H' p (scl (nums W U rows) * W) (scl (nums W U rows) * U) (rows.map fun r => r.map fun q => scl (nums W U rows) * q) → Q (.ref p) H'
theorem scBr : FnScope ["floor", "bottom", "whole", "common", "rectangle", "number", "rectangles"] ["floor"] (defScope s_brought) := ⟨rfl, rfl, rfl, by decide +kernel, rfl, by decide +kernel, by decide +kernel⟩
theorem ndRC : (["rectangle", "common"] : List Str).Nodup := by decide +kernel
theorem ndNC : (["number", "common"] : List Str).Nodup := by decide +kernel
theorem gl_flat (c : Int) : ∀ (R : List (List Int)), R.foldl (fun c r => gl c r) c = gl c R.flatten := by
  intro R
  induction R generalizing c with
  | nil => rfl
  | cons r R ih => rw [List.foldl_cons, ih, List.flatten_cons, gl_app]
theorem fr_of {t b : Int} {q : Rat} (hb : b ≠ 0) (e : (t : Rat) / (b : Rat) = q) : frac t b = (q.num, (q.den : Int)) := by rw [frac_rat t b hb, e]
set_option maxHeartbeats 4000000 in
theorem ok_brought (F : Fun K "brought" "brought" s_brought f fd) (G1 : FnOk P w K mg base CX0 1 f1 d1 ["one", "other"] spGcd) (b1 : Binds K d1 ["one", "other"] []) (k1 : PySem.W.keepIn K (.ref f1) = true) (m1 : mg "common_part" = some (.ref f1))
    (G2 : FnOk P w K mg base (CXr P w) 2 f2 d2 ["top", "bottom"] (spFrac C0)) (b2 : Binds K d2 ["top", "bottom"] []) (k2 : PySem.W.keepIn K (.ref f2) = true) (m2 : mg "fraction" = some (.ref f2))
    (G3 : FnOk P w K mg base CX0 2 f3 d3 ["row"] spCBL) (b3 : Binds K d3 ["row"] []) (k3 : PySem.W.keepIn K (.ref f3) = true) (m3 : mg "common_bottom" = some (.ref f3))
    (G4 : FnOk P w K mg base CX0 1 f4 d4 ["floor"] spNums) (b4 : Binds K d4 ["floor"] []) (k4 : PySem.W.keepIn K (.ref f4) = true) (m4 : mg "numbers_of" = some (.ref f4))
    (G5 : FnOk P w K mg base CX0 2 f5 d5 ["floor", "bottom"] spWF) (b5 : Binds K d5 ["floor", "bottom"] []) (k5 : PySem.W.keepIn K (.ref f5) = true) (m5 : mg "whole_floor" = some (.ref f5)) (mt : mg "tuple" = none) :
    FnOk P w K mg base CX0 3 f fd ["floor"] spBrt := by
  refine F.ok scBr (fun vs H Q E h => ?_) (fun cdv A outer s H vs Q E hr h => ?_)
  · obtain ⟨a, W, U, rows, rfl, _⟩ := h
    rfl
  obtain ⟨a, W, U, rows, rfl, hF, k, q⟩ := h
  have hr1 := hr.mono (show 1 ≤ 2 by decide)
  refine ⟨_, pss_cons (ps_set (i := 1) scBr.nd rfl (Or.inl rfl) (pe_call G3 hr (by rfl) m3 k3 b3 .nil pass0 (pa_cons (pe_call G4 hr1 (by rfl) m4 k4 b4 .nil pass0 (pa_cons (pv 0) pa_nil)) pa_nil)))
    (pss_cons (ps_set (i := 2) scBr.nd rfl (Or.inl rfl) (pe_call G5 hr (by rfl) m5 k5 b5 .nil pass0 (pa_cons (pv 0) (pa_cons (pv 1) pa_nil))))
    (pss_cons (ps_set (i := 3) scBr.nd rfl (Or.inr rfl) (pe_call G1 hr1 (by rfl) m1 k1 b1 .nil pass0 (pa_cons (pe_ix ix_tup (pv 2) pe_int (fun _ _ => rfl)) (pa_cons (pe_ix ix_tup (pv 2) pe_int (fun _ _ => rfl)) pa_nil))))
    (pss_cons (ps_for PassesOwn.never rfl (pi_list (pe_ix ix_tup (pv 2) pe_int (fun _ _ => rfl))) (pg_name (i := 4) scBr.nd rfl (Or.inl rfl))
      (pss_one (ps_for PassesOwn.never rfl (pi_list (pv 4)) (pg_name (i := 5) scBr.nd rfl (Or.inl rfl))
        (pss_one (ps_set (i := 3) scBr.nd rfl (Or.inr rfl) (pe_call G1 hr1 (by rfl) m1 k1 b1 .nil pass0 (pa_cons (pv 3) (pa_cons (pv 5) pa_nil))))))))
    (pss_cons (ps_setComp (i := 6) scBr.nd rfl (Or.inl rfl) (Nc := ["rectangle", "common"]) (cap := [(1, 3)]) (g := gName 0) (te := tCB (rTupOf K) (tCons (tComp 2 [(1, 1)] (iList K (tVar 0)) (gName 0) (tCall (spFrac C0) [] E0 (tCons (tVar 0) (tCons (tVar 1) tNil)))) tNil)) rfl (pi_list (pe_ix ix_tup (pv 2) pe_int (fun _ _ => rfl)))
      (comp_mk rfl rfl (by decide +kernel) (by decide +kernel) (List.forall_mem_cons.mpr ⟨⟨rfl, rfl⟩, List.forall_mem_nil _⟩) rfl (List.forall_mem_cons.mpr ⟨⟨_, _, rfl, rfl, rfl, rfl, rfl⟩, List.forall_mem_nil _⟩))
      (fun C fp pins s' H' => pg_name (i := 0) ndRC rfl (Or.inl rfl))
      (fun C fp pins s' H' => pe_callTy call_tuple_of (by rfl) mt bt_tuple (pa_cons (pe_comp (Nc := ["number", "common"]) (cap := [(1, 1)]) (g := gName 0) (te := tCall (spFrac C0) [] E0 (tCons (tVar 0) (tCons (tVar 1) tNil))) rfl (pi_list (pv 0))
        (comp_mk rfl rfl (by decide +kernel) (by decide +kernel) (List.forall_mem_cons.mpr ⟨⟨rfl, rfl⟩, List.forall_mem_nil _⟩) rfl (List.forall_mem_cons.mpr ⟨⟨_, _, rfl, rfl, rfl, rfl, rfl⟩, List.forall_mem_nil _⟩))
        (fun C fp pins s' H' => pg_name (i := 0) ndNC rfl (Or.inl rfl)) (fun C fp pins s' H' => pe_call (CX := CXr P w) G2 hr (by rfl) m2 k2 b2 .nil passR0 (pa_cons (pv 0) (pa_cons (pv 1) pa_nil)))) pa_nil)))
    (pss_one (ps_ret (pe_tup (pa_cons (pe_call (CX := CXr P w) G2 hr (by rfl) m2 k2 b2 .nil passR0 (pa_cons (pe_ix ix_tup (pv 2) pe_int (fun _ _ => rfl)) (pa_cons (pv 3) pa_nil))) (pa_cons (pe_call (CX := CXr P w) G2 hr (by rfl) m2 k2 b2 .nil passR0 (pa_cons (pe_ix ix_tup (pv 2) pe_int (fun _ _ => rfl)) (pa_cons (pv 3) pa_nil)))
      (pa_cons (pe_callTy call_tuple_of (by rfl) mt bt_tuple (pa_cons (pv 6) pa_nil)) pa_nil)))))))))), ?_⟩
  obtain ⟨p, q0, r, ha, hW, hU, bs, hrr, hB⟩ := id hF
  have cnt := k.cnt
  refine ⟨_, rfl, a, W, U, rows, rfl, hF, k.len, k.four, fun pn H1 s1 hN => ⟨pn, _, 16, rfl, hN, fun y hy => (k.sb y hy).2, by omega, ?_⟩⟩
  refine ⟨_, rfl, _, rfl, a, _, W, U, rows, rfl, mo_floor s1 hF, k.len, k.four, fun y hy => k.big hy, fun pw l H2 s2 hw hL => ?_⟩
  obtain ⟨D0, DL⟩ := k.gA
  have wm : W ∈ nums W U rows := by simp
  have um : U ∈ nums W U rows := by simp
  have sc : ∀ {y : Rat}, y ∈ nums W U rows → ((wh (cb (nums W U rows)) y : Int) : Rat) / ((gA (nums W U rows) : Int) : Rat) = scl (nums W U rows) * y := fun hy => scl_at hy
  have eD : gA (nums W U rows) = gl (Int.gcd (wh (cb (nums W U rows)) W) (wh (cb (nums W U rows)) U) : Int) (rows.map fun r => r.map (wh (cb (nums W U rows)))).flatten := by
    rw [gl_two]
    unfold gA
    rw [List.map_cons, List.map_cons, List.map_flatten]
  have rmem : ∀ {row : List Rat}, row ∈ rows → ∀ {y : Rat}, y ∈ row → y ∈ nums W U rows := fun hr y hy => by simp only [List.mem_cons]; exact .inr (.inr (List.mem_flatten.mpr ⟨_, hr, hy⟩))
  generalize gA (nums W U rows) = D at *
  generalize scl (nums W U rows) = c at *
  generalize cb (nums W U rows) = B at *
  have Dn : D ≠ 0 := by omega
  have Db : Big D := big2 DL (by decide)
  obtain ⟨gs, hl, hG⟩ := hL
  have lg : gs.length = rows.length := by rw [hG.1, List.length_map]
  refine ⟨_, rfl, pw, _, _, _, rfl, rfl, SqT.of hw, t3_0 _ _ _, _, rfl, pw, _, _, _, rfl, rfl, SqT.of hw, t3_1 _ _ _, _, _, rfl, ?_⟩
  refine ⟨_, rfl, pw, _, _, _, rfl, rfl, SqT.of hw, t3_2 _ _ _, l, rfl, ⟨_, SqL.of hl⟩, ?_⟩
  refine for_list (xs := gs.map V.ref) (fun i σ H3 => H3 = H2 ∧ ∃ u4 u5, σ = [some (.ref a), some (.int B), some (.ref pw), some (.int (((rows.map fun r => r.map (wh B)).take i).foldl (fun c r => gl c r) (Int.gcd (wh B W) (wh B U) : Int))), u4, u5, none])
    ⟨rfl, none, none, rfl⟩ (fun i σ H3 _ ⟨e, _⟩ => by rw [e]; exact SqL.of hl) ?_ ?_
  · rintro i x σ H3 hx ⟨rfl, u4, u5, rfl⟩
    obtain ⟨g1, row, rfl, _, hrow, hg1⟩ := hG.ref hx
    rw [take_succ_of hrow, List.foldl_append]
    generalize ((rows.map fun r => r.map (wh B)).take i).foldl (fun c r => gl c r) (Int.gcd (wh B W) (wh B U) : Int) = ci
    refine ⟨_, rfl, g1, rfl, ⟨_, SqL.of hg1⟩, ?_⟩
    refine for_list (xs := row.map V.int) (fun j σ H4 => H4 = H3 ∧ ∃ u5, σ = [some (.ref a), some (.int B), some (.ref pw), some (.int (gl ci (row.take j))), some (.ref g1), u5, none])
      ⟨rfl, _, rfl⟩ (fun i σ H4 _ ⟨e, _⟩ => by rw [e]; exact SqL.of hg1) ?_ ?_
    · rintro j x σ H4 hx ⟨rfl, u5, rfl⟩
      obtain ⟨e, rfl, he⟩ := ints_at hx
      refine ⟨_, rfl, _, rfl, _, _, rfl, rfl, some (.int e), ?_⟩
      rw [take_succ_of he, gl_app]; rfl
    · rintro σ H4 ⟨rfl, u5, rfl⟩
      rw [List.length_map, List.take_length]
      exact ⟨rfl, _, _, rfl⟩
  rintro σ H3 ⟨rfl, u4, u5, rfl⟩
  rw [List.length_map, lg, List.take_of_length_le (by rw [List.length_map]; omega), gl_flat, ← eD]
  -- the rectangles
  refine ⟨_, rfl, pw, _, _, _, rfl, rfl, SqT.of hw, t3_2 _ _ _, l, rfl, ⟨_, SqL.of hl⟩, fun acc hacc => ?_⟩
  refine comp_run (run_list hl) (by rw [List.length_map]; have := k.len; omega) hacc (fun i ys σ hp => ∃ ds : List Addr, ys = ds.map V.ref ∧ At (TupR FrR) hp ds ((rows.map fun r => r.map fun q => c * q).take i) ∧ ∃ u, σ = [u, some (.int D)]) ⟨[], rfl, At.nil, none, rfl⟩ ?_ ?_
  · rintro i ys σ H4 x H5 hi sm hacc4 ⟨ds, rfl, hD, u, rfl⟩ ⟨rfl, hx⟩ Cc hC
    obtain ⟨g1, irow, rfl, _, hirow, hg1⟩ := hG.ref hx
    rw [List.getElem?_map] at hirow
    obtain ⟨row, hrow, rfl⟩ := Option.map_eq_some_iff.mp hirow
    have rm := List.mem_of_getElem? hrow
    have hg4 := mo_ints sm hg1
    refine ⟨_, rfl, g1, rfl, ⟨_, SqL.of hg4⟩, fun ac2 hac2 => ?_⟩
    refine comp_run (run_list hg4) (by rw [List.length_map, List.length_map, k.four row rm]; omega) hac2 (fun j ys σ hp => ∃ es : List Addr, ys = es.map V.ref ∧ At FrR hp es ((row.map fun q => c * q).take j) ∧ ∃ u, σ = [u, some (.int D)]) ⟨[], rfl, At.nil, none, rfl⟩ ?_ ?_
    · rintro j ys2 σ2 H6 x2 H7 hj sm2 hacc6 ⟨es, rfl, hE, u2, rfl⟩ ⟨rfl, hx2⟩ Cc2 hC2
      obtain ⟨e, rfl, he⟩ := ints_at hx2
      rw [List.getElem?_map] at he
      obtain ⟨y, hy, rfl⟩ := Option.map_eq_some_iff.mp he
      have ym := rmem rm (List.mem_of_getElem? hy)
      refine ⟨_, rfl, _, rfl, _, _, rfl, Db, fun z => absurd z Dn, fun _ t ht => ?_⟩
      rw [fr_of Dn (sc ym)]
      dsimp only
      have st := same_new ht (.tup [.int (c * y).num, .int (c * y).den])
      refine hC2 _ _ _ st ⟨es ++ [t], by simp, ?_, _, rfl⟩
      have ec : (row.map fun q => c * q)[j]? = some (c * y) := by rw [List.getElem?_map, hy]; rfl
      rw [take_succ_of ec]
      exact (hE.keep mo_fr (del_mono ac2 st)).snoc (FrR.del (q := c * y) upd_same (st _ _ hacc6))
    rintro ys2 σ2 H6 s6 hacc6 hl6 ⟨es, rfl, hE, u2, rfl⟩
    rw [List.length_map, List.length_map, List.take_of_length_le (by rw [List.length_map]; omega)] at hE
    refine ⟨ac2, _, rfl, .inl ⟨SqL.of hacc6, fun pt hpt => ?_⟩⟩
    have st := same_new hpt (.tup (es.map V.ref))
    have s46 := s6.trans st
    refine hC _ _ _ s46 ⟨ds ++ [pt], by simp, ?_, _, rfl⟩
    have ec : (rows.map fun r => r.map fun q => c * q)[i]? = some (row.map fun q => c * q) := by rw [List.getElem?_map, hrow]; rfl
    rw [take_succ_of ec]
    exact (hD.keep mo_tf (del_mono acc s46)).snoc (tfd ⟨es, upd_same, (hE.keep mo_fr (del_sub H6 ac2)).keep mo_fr st⟩ (s46 _ _ hacc4))
  rintro ys σ4 H4 s4 hacc4 hl4 ⟨ds, rfl, hD, u, rfl⟩
  rw [List.length_map, lg, List.take_of_length_le (by rw [List.length_map]; omega)] at hD
  have hw4 := s4 _ _ hw
  refine ⟨_, rfl, pw, _, _, _, rfl, rfl, SqT.of hw4, t3_0 _ _ _, _, rfl, _, _, rfl, Db, fun z => absurd z Dn, fun _ t1 ht1 => ?_⟩
  rw [fr_of Dn (sc wm)] at *
  dsimp only
  have v1 := same_new ht1 (.tup [.int (c * W).num, .int (c * W).den])
  have f1 : FrR (upd H4 t1 (.tup [.int (c * W).num, .int (c * W).den])) t1 (c * W) := upd_same
  generalize upd H4 t1 (.tup [.int (c * W).num, .int (c * W).den]) = H5 at v1 f1
  refine ⟨_, rfl, pw, _, _, _, rfl, rfl, SqT.of (v1 _ _ hw4), t3_1 _ _ _, _, rfl, _, _, rfl, Db, fun z => absurd z Dn, fun _ t2 ht2 => ?_⟩
  rw [fr_of Dn (sc um)] at *
  dsimp only
  have v2 := same_new ht2 (.tup [.int (c * U).num, .int (c * U).den])
  have f2 : FrR (upd H5 t2 (.tup [.int (c * U).num, .int (c * U).den])) t2 (c * U) := upd_same
  generalize upd H5 t2 (.tup [.int (c * U).num, .int (c * U).den]) = H6 at v2 f2
  have v12 := v1.trans v2
  refine ⟨_, rfl, acc, _, rfl, .inl ⟨SqL.of (v12 _ _ hacc4), fun t3 ht3 => ?_⟩⟩
  have v3 := same_new ht3 (.tup (ds.map V.ref))
  have f3 : TupR (TupR FrR) (upd H6 t3 (.tup (ds.map V.ref))) t3 (rows.map fun r => r.map fun q => c * q) := ⟨ds, upd_same, (hD.keep mo_tf (del_sub H4 acc)).keep mo_tf (v12.trans v3)⟩
  generalize upd H6 t3 (.tup (ds.map V.ref)) = H7 at v3 f3
  refine ⟨by show 3 ≤ sizeLine; decide, fun pp hpp => ?_⟩
  have v4 := same_new hpp (.tup [.ref t1, .ref t2, .ref t3])
  exact q pp _ (s1.trans (s2.trans (s4.trans (v12.trans (v3.trans v4))))) ⟨t1, t2, t3, upd_same, (v2.trans (v3.trans v4)) _ _ f1, (v3.trans v4) _ _ f2, mo_tup (R := TupR FrR) (fun s h => mo_tf s h) v4 f3⟩
end
end My
/-! k50: cells, lowest terms, boxes broken -/
namespace My
open PySem L2 Mth Wd
/-- a new fraction comes -/
abbrev GivQ (H : Hp) (Q : VK) (q : Rat) : Prop := ∀ p, H p = none → Q (.ref p) (upd H p (.tup [.int q.num, .int q.den]))
abbrev ScA (K : PySem.W.Frag) (H : Hp) (a : Addr) (ns : List Int) : Prop := SqL K H a (ns.map V.int) ∧ ns.length ≤ 63
abbrev CellR (z : Int) : Prop := 0 ≤ z ∧ z < 2147483629
theorem joinP {T R : Prop} (m : T → R) (r : T) : R := m r
theorem name_go {i : Nat} {v : V} {σ : L2.St} {H : Hp} {k : L2.St → Hp → Prop} (h : k (σ.set i (some v)) H) : gName i v σ H k := h
theorem nx_go {D : Ends} {f : L2.St → Hp → Prop} {σ : L2.St} {H : Hp} (h : f σ H) : ({ D with nx := f } : Ends).nx σ H := h
theorem seq_join {t u : L2.TS} {D : Ends} {σ : L2.St} {H : Hp} {G : L2.St → Hp → Prop} (m : (∀ σ H, G σ H → u D σ H) → t { D with nx := u D } σ H) (r : ∀ σ H, G σ H → u D σ H) : tSeq t u D σ H := m r
abbrev Bx : Type := Int × Int × Int × Int
def BoxR (H : Hp) (p : Addr) (b : Bx) : Prop := H p = some (.tup [.int b.1, .int b.2.1, .int b.2.2.1, .int b.2.2.2])
theorem mo_box : Mo BoxR := fun s h => s _ _ h
/-- a box in the floor -/
abbrev in01 (x : Int) : Prop := 0 ≤ x ∧ x ≤ 9999
abbrev BxK (b : Bx) : Prop := in01 b.1 ∧ in01 b.2.1 ∧ in01 b.2.2.1 ∧ in01 b.2.2.2
theorem BoxR.del {H : Hp} {a p : Addr} {b : Bx} {ys : List V} (h : BoxR H p b) (e : H a = some (.lst ys)) : BoxR (del H a) p b := del_at h (fun z => by rw [z] at h; unfold BoxR at h; rw [e] at h; cases h)
theorem new_box {H : Hp} {p : Addr} (hp : H p = none) (a b c d : Int) : ∃ H', upd H p (.tup [.int a, .int b, .int c, .int d]) = H' ∧ Same H H' ∧ BoxR H' p (a, b, c, d) := ⟨_, rfl, same_new hp _, upd_same⟩
theorem new_lst {H : Hp} {p : Addr} (hp : H p = none) (vs : List V) : ∃ H', upd H p (.lst vs) = H' ∧ Same H H' ∧ H' p = some (.lst vs) := ⟨_, rfl, same_new hp _, upd_same⟩
theorem t4_0 (x y z u : V) : atI [x, y, z, u] 0 = some x := atI_nat (j := 0) rfl
theorem t4_1 (x y z u : V) : atI [x, y, z, u] 1 = some y := atI_nat (j := 1) rfl
theorem t4_2 (x y z u : V) : atI [x, y, z, u] 2 = some z := atI_nat (j := 2) rfl
theorem t4_3 (x y z u : V) : atI [x, y, z, u] 3 = some u := atI_nat (j := 3) rfl
section
variable {P : Program} {w : World} {K : PySem.W.Frag} {mg : Str → Option Value} {base : Heap} {f g h f1 f2 f3 : Addr} {fd gd hd d1 d2 d3 : FuncData}
def spCell (K : PySem.W.Frag) : Sp := fun vs H Q _ => ∃ (a : Addr) (ns : List Int) (k : Int), vs = [.ref a, .int k] ∧ ScA K H a ns ∧ 0 ≤ k ∧ ∀ z, CellR z → Q (.int z) H
theorem scCe : FnScope ["_law_script", "_law_k", "_law_cell"] ["_law_script", "_law_k"] (defScope s_law_cell_at) := ⟨rfl, rfl, rfl, by decide +kernel, rfl, by decide +kernel, by decide +kernel⟩
theorem ok_cell (F : Fun K "_law_cell_at" "_law_cell_at" s_law_cell_at f fd) (ml : mg "len" = none) : FnOk P w K mg base CX0 1 f fd ["_law_script", "_law_k"] (spCell K) := by
  refine F.ok scCe (fun vs H Q E h => ?_) (fun cdv A outer s H vs Q E hr h => ?_)
  · obtain ⟨a, ns, k, rfl, _⟩ := h
    rfl
  obtain ⟨a, ns, k, rfl, ⟨hS, hl⟩, h0, q⟩ := h
  refine ⟨_, pss_cons (ps_set (i := 2) scCe.nd rfl (Or.inl rfl) pe_int)
    (pss_cons (ps_if (pt_cmpR op_lt (pv 1) (pe_callB call_len_seq (by rfl) ml bt_len (pa_cons (pv 0) pa_nil)) (nomark _))
      (pss_one (ps_set (i := 2) scCe.nd rfl (Or.inl rfl) (pe_op op_mod (pe_ix ix_list (pv 0) (pv 1) (fun _ _ => rfl)) (pe_op op_pow pe_int pe_int)))) pss_nil)
    (pss_one (ps_ret (pe_op op_mod (pe_op op_mul (pe_op op_mod (pe_op op_add (pe_op op_mul (pv 2) pe_int) (pe_op op_mul pe_int (pv 1))) pe_int) pe_int) pe_int)))), ?_⟩
  refine ⟨_, rfl, _, rfl, a, _, rfl, .inl hS, _, _, rfl, rfl, _, rfl, ?_⟩
  have fin : ∀ x : Int, tRet (tOp (rI (fun _ j => 0 < j) fun i j => .int (i % j)) (tOp (rI CMul fun i j => .int (i * j)) (tOp (rI (fun _ j => 0 < j) fun i j => .int (i % j)) (tOp (rI0 fun i j => .int (i + j)) (tOp (rI CMul fun i j => .int (i * j)) (tVar 2) (tC (.int 48271))) (tOp (rI CMul fun i j => .int (i * j)) (tC (.int 16807)) (tVar 1))) (tC (.int 2147483647))) (tC (.int 69621))) (tC (.int 2147483629)))
      { nx := fun _ H' => Q .non H', rt := Q } [some (.ref a), some (.int k), some (.int x)] H := fun x =>
    ⟨_, rfl, _, _, rfl, rfl, .inr ⟨by decide, by decide⟩, _, rfl, _, _, rfl, rfl, .inl ⟨by decide, by decide⟩, _, _, rfl, rfl, _, _, rfl, rfl, (show (0 : Int) < 2147483647 by decide), _, _, rfl, rfl, .inr ⟨by decide, by decide⟩, _, _, rfl, rfl, (show (0 : Int) < 2147483629 by decide), q _ ⟨Int.emod_nonneg _ (by decide), Int.emod_lt_of_pos _ (by decide)⟩⟩
  by_cases hk : k < (((ns.map V.int).length : Nat) : Int)
  · refine iteDT hk ?_
    rw [List.length_map] at hk
    have hk' : k.toNat < ns.length := by omega
    have e : atI (ns.map V.int) ((k.toNat : Nat) : Int) = some (.int ns[k.toNat]) := atI_nat (by rw [List.getElem?_map, List.getElem?_eq_getElem hk']; rfl)
    rw [show ((k.toNat : Nat) : Int) = k by omega] at e
    exact ⟨_, rfl, _, rfl, a, _, _, _, rfl, rfl, hS, e, _, _, rfl, rfl, ⟨by decide, by decide, by decide⟩, _, _, rfl, rfl, (show (0 : Int) < 10 ^ ((18 : Int).toNat) by decide), fin _⟩
  · exact iteDF hk (fin _)
/-- in lowest terms -/
def spLow : Sp := fun vs H Q _ => ∃ t b : Int, vs = [.int t, .int b] ∧ 0 < b ∧ Big b ∧ GivQ H Q ((t : Rat) / (b : Rat))
theorem scLo : FnScope ["_law_top", "_law_bottom", "_law_a", "_law_b", "_law_rest"] ["_law_top", "_law_bottom"] (defScope s_law_lowest) := ⟨rfl, rfl, rfl, by decide +kernel, rfl, by decide +kernel, by decide +kernel⟩
theorem abs_eq (a : Int) : (if a < 0 then -a else a) = (a.natAbs : Int) := by split <;> omega
theorem emod_gcd {x y : Int} (hy : 0 < y) : Int.gcd y (x % y) = Int.gcd x y := by
  have := gcd_fmod x y
  rwa [Int.fmod_eq_emod_of_nonneg x (Int.le_of_lt hy)] at this
theorem ok_low (F : Fun K "_law_lowest" "_law_lowest" s_law_lowest f fd) (ma : mg "abs" = none) : FnOk P w K mg base CX0 1 f fd ["_law_top", "_law_bottom"] spLow := by
  refine F.ok scLo (fun vs H Q E h => ?_) (fun cdv A outer s H vs Q E hr h => ?_)
  · obtain ⟨t, b, rfl, _⟩ := h
    rfl
  obtain ⟨t, b, rfl, hb, bb, q⟩ := h
  refine ⟨_, pss_cons (ps_set (i := 2) scLo.nd rfl (Or.inl rfl) (pe_callB call_abs (by rfl) ma bt_abs (pa_cons (pv 0) pa_nil)))
    (pss_cons (ps_set (i := 3) scLo.nd rfl (Or.inl rfl) (pv 1))
    (pss_cons (ps_while PassesOwn.never (pt_cmpR op_gt (pv 3) pe_int (nomark _))
      (pss_cons (ps_set (i := 4) scLo.nd rfl (Or.inl rfl) (pe_op op_mod (pv 2) (pv 3)))
      (pss_cons (ps_set (i := 2) scLo.nd rfl (Or.inl rfl) (pv 3))
      (pss_one (ps_set (i := 3) scLo.nd rfl (Or.inl rfl) (pv 4))))))
    (pss_one (ps_ret (pe_tup (pa_cons (pe_op op_fdivB (pv 0) (pv 2)) (pa_cons (pe_op op_fdivB (pv 1) (pv 2)) pa_nil))))))), ?_⟩
  refine ⟨_, rfl, t, rfl, _, rfl, ?_⟩
  rw [abs_eq]
  refine while_by (fun σ H2 => ∃ x y r, σ = [some (.int t), some (.int b), some (.int x), some (.int y), r] ∧ H2 = H ∧ 0 ≤ x ∧ 0 ≤ y ∧ Int.gcd x y = Int.gcd t b) (fun σ _ => match σ with | [_, _, _, some (.int y), _] => y.natAbs | _ => 0) ⟨_, _, none, rfl, rfl, by omega, by omega, by unfold Int.gcd; simp⟩ ?_ ?_
  · rintro σ H2 ⟨x, y, r, rfl, rfl, x0, y0, gg⟩
    refine ⟨_, rfl, _, _, rfl, rfl, _, rfl, ?_⟩
    by_cases hy : (0 : Int) < y
    · refine iteDT hy ?_
      have m0 := Int.emod_nonneg x (Int.ne_of_gt hy)
      have m1 := Int.emod_lt_of_pos x hy
      refine ⟨_, rfl, _, rfl, _, _, rfl, rfl, hy, _, rfl, _, rfl, ⟨y, x % y, _, rfl, rfl, y0, m0, (emod_gcd hy).trans gg⟩, ?_⟩
      show (x % y).natAbs < y.natAbs
      omega
    · refine iteDF hy ?_
      have hy : y = 0 := by omega
      subst hy
      have gx : x = (Int.gcd t b : Int) := by
        have := abs_gcd gg
        rw [if_neg (by omega)] at this
        exact this
      have pe : Mth.part t b = x := by unfold Mth.part; rw [if_neg (by omega), gx]
      have gp : 0 < Int.gcd t b := Mth.gcd_pos t b (by omega)
      have hx : CDivB t x := ⟨by omega, by rw [← pe]; exact Nat.lt_of_le_of_lt (part_le t b (by omega)) bb⟩
      have ef := frac_rat t b (by omega)
      unfold frac at ef
      rw [pe] at ef
      have e1 := congrArg Prod.fst ef
      have e2 := congrArg Prod.snd ef
      simp only at e1 e2
      refine ⟨_, rfl, _, rfl, _, _, rfl, rfl, hx, _, rfl, _, rfl, _, _, rfl, rfl, hx, by show 2 ≤ sizeLine; decide, ?_⟩
      dsimp only
      rw [e1, e2]
      exact q
  · rintro σ H2 Q1 Q2 hq ⟨v, e, i, j, e1, e2, b, eb, z⟩
    exact ⟨v, e, i, j, e1, e2, b, eb, hq _ _ z⟩
def spSide : Sp := fun vs H Q _ => ∃ z : Int, vs = [.int z] ∧ ∀ x : Int, 4 ≤ x → x ≤ 9199 → Q (.int x) H
theorem scSi : FnScope ["_law_cell"] ["_law_cell"] (defScope s_law_side) := ⟨rfl, rfl, rfl, by decide +kernel, rfl, by decide +kernel, by decide +kernel⟩
theorem ok_side (F : Fun K "_law_side" "_law_side" s_law_side f fd) : FnOk P w K mg base CX0 1 f fd ["_law_cell"] spSide := by
  refine F.ok scSi (fun vs H Q E h => ?_) (fun cdv A outer s H vs Q E hr h => ?_)
  · obtain ⟨z, rfl, _⟩ := h
    rfl
  obtain ⟨z, rfl, q⟩ := h
  refine ⟨_, pss_cons (ps_if (pt_cmpR op_gt (pe_op op_mod (pv 0) pe_int) pe_int (nomark _)) (pss_one (ps_ret (pe_op op_add pe_int (pe_op op_mod (pe_op op_fdiv (pv 0) pe_int) pe_int)))) pss_nil)
    (pss_one (ps_ret (pe_op op_add pe_int (pe_op op_mod (pe_op op_fdiv (pv 0) pe_int) pe_int)))), ?_⟩
  refine ⟨_, rfl, _, _, rfl, rfl, (show (0 : Int) < 3 by decide), _, _, rfl, rfl, _, rfl, ?_⟩
  refine ite2 (fun _ => ?_) (fun _ => ?_)
  · exact ⟨_, rfl, _, _, rfl, rfl, ⟨by decide, by decide⟩, _, _, rfl, rfl, (show (0 : Int) < 9 by decide), _, _, rfl, rfl, q _ (by omega) (by omega)⟩
  · exact ⟨_, rfl, _, _, rfl, rfl, ⟨by decide, by decide⟩, _, _, rfl, rfl, (show (0 : Int) < 9000 by decide), _, _, rfl, rfl, q _ (by omega) (by omega)⟩
/-- two whole numbers between -/
def spTwo : Sp := fun vs H Q _ => ∃ lo hi c : Int, vs = [.int lo, .int hi, .int c] ∧ lo + 3 ≤ hi ∧ ∀ x y : Int, lo < x → x < y → y < hi → ∀ p, H p = none → Q (.ref p) (upd H p (.tup [.int x, .int y]))
theorem scTw : FnScope ["_law_low", "_law_high", "_law_cell", "_law_first"] ["_law_low", "_law_high", "_law_cell"] (defScope s_law_two) := ⟨rfl, rfl, rfl, by decide +kernel, rfl, by decide +kernel, by decide +kernel⟩
theorem ok_two (F : Fun K "_law_two" "_law_two" s_law_two f fd) : FnOk P w K mg base CX0 1 f fd ["_law_low", "_law_high", "_law_cell"] spTwo := by
  refine F.ok scTw (fun vs H Q E h => ?_) (fun cdv A outer s H vs Q E hr h => ?_)
  · obtain ⟨lo, hi, c, rfl, _⟩ := h
    rfl
  obtain ⟨lo, hi, c, rfl, hlh, q⟩ := h
  refine ⟨_, pss_cons (ps_set (i := 3) scTw.nd rfl (Or.inl rfl) (pe_op op_add (pe_op op_add (pv 0) pe_int) (pe_op op_mod (pv 2) (pe_op op_sub (pe_op op_sub (pv 1) (pv 0)) pe_int))))
    (pss_one (ps_ret (pe_tup (pa_cons (pv 3) (pa_cons (pe_op op_add (pe_op op_add (pv 3) pe_int) (pe_op op_mod (pe_op op_fdiv (pv 2) pe_int) (pe_op op_sub (pe_op op_sub (pv 1) (pv 3)) pe_int))) pa_nil))))), ?_⟩
  have h1 : (0 : Int) < hi - lo - 2 := by omega
  have a0 := Int.emod_nonneg c (Int.ne_of_gt h1)
  have a1 := Int.emod_lt_of_pos c h1
  refine ⟨_, rfl, _, _, rfl, rfl, _, rfl, _, rfl, _, rfl, _, _, rfl, rfl, _, _, rfl, rfl, _, _, rfl, rfl, h1, _, _, rfl, rfl, ?_⟩
  dsimp only
  generalize hx : lo + 1 + c % (hi - lo - 2) = x
  have h2 : (0 : Int) < hi - x - 1 := by omega
  have b0 := Int.emod_nonneg (c / 7) (Int.ne_of_gt h2)
  have b1 := Int.emod_lt_of_pos (c / 7) h2
  exact ⟨_, rfl, _, rfl, _, _, rfl, rfl, _, rfl, _, _, rfl, rfl, ⟨by decide, by decide⟩, _, rfl, _, rfl, _, _, rfl, rfl, _, _, rfl, rfl, _, _, rfl, rfl, h2, _, _, rfl, rfl, by show 2 ≤ sizeLine; decide, q x _ (by omega) (by omega) (by omega)⟩
/-- boxes in a list -/
abbrev BxsQ (H : Hp) (Q : VK) (n m : Nat) : Prop := ∀ (p : Addr) (H' : Hp) (bs : List Bx), Same H H' → LstR BoxR H' p bs → n ≤ bs.length → bs.length ≤ m → (∀ b ∈ bs, BxK b) → Q (.ref p) H'
def spWheel : Sp := fun vs H Q _ => ∃ (pb px py : Addr) (b : Bx) (x0 x1 y0 y1 way : Int), vs = [.ref pb, .ref px, .ref py, .int way] ∧ BoxR H pb b ∧ H px = some (.tup [.int x0, .int x1]) ∧ H py = some (.tup [.int y0, .int y1]) ∧ BxK b ∧ in01 x0 ∧ in01 x1 ∧ in01 y0 ∧ in01 y1 ∧ BxsQ H Q 5 5
theorem scWl : FnScope ["_law_box", "_law_x", "_law_y", "_law_way", "_law_left", "_law_low", "_law_right", "_law_high", "_law_outer"] ["_law_box", "_law_x", "_law_y", "_law_way"] (defScope s_law_wheel) := ⟨rfl, rfl, rfl, by decide +kernel, rfl, by decide +kernel, by decide +kernel⟩
set_option maxHeartbeats 4000000 in
theorem ok_wheel (F : Fun K "_law_wheel" "_law_wheel" s_law_wheel f fd) : FnOk P w K mg base CX0 1 f fd ["_law_box", "_law_x", "_law_y", "_law_way"] spWheel := by
  refine F.ok scWl (fun vs H Q E h => ?_) (fun cdv A outer s H vs Q E hr h => ?_)
  · obtain ⟨pb, px, py, b, x0, x1, y0, y1, way, rfl, _⟩ := h
    rfl
  obtain ⟨pb, px, py, ⟨l, lo, r, hi⟩, x0, x1, y0, y1, way, rfl, hb, hx, hy, ⟨kl, klo, kr, khi⟩, kx0, kx1, ky0, ky1, q⟩ := h
  dsimp only at kl klo kr khi
  refine ⟨_, pss_cons (ps_asg (pv 0) (pg_tup rfl (pgs_cons (pg_name (i := 4) scWl.nd rfl (Or.inl rfl)) (pgs_cons (pg_name (i := 5) scWl.nd rfl (Or.inl rfl)) (pgs_cons (pg_name (i := 6) scWl.nd rfl (Or.inl rfl)) (pgs_cons (pg_name (i := 7) scWl.nd rfl (Or.inl rfl)) pgs_nil))))))
    (pss_cons (ps_if (pt_cmpR op_eq (pv 3) pe_int (nomark _))
      (pss_one (ps_set (i := 8) scWl.nd rfl (Or.inl rfl) (pe_lst (pa_cons (pe_tup (pa_cons (pv 4) (pa_cons (pv 5) (pa_cons (pe_ix ix_tup (pv 1) pe_int (fun _ _ => rfl)) (pa_cons (pe_ix ix_tup (pv 2) pe_int (fun _ _ => rfl)) pa_nil)))))
        (pa_cons (pe_tup (pa_cons (pe_ix ix_tup (pv 1) pe_int (fun _ _ => rfl)) (pa_cons (pv 5) (pa_cons (pv 6) (pa_cons (pe_ix ix_tup (pv 2) pe_int (fun _ _ => rfl)) pa_nil)))))
        (pa_cons (pe_tup (pa_cons (pe_ix ix_tup (pv 1) pe_int (fun _ _ => rfl)) (pa_cons (pe_ix ix_tup (pv 2) pe_int (fun _ _ => rfl)) (pa_cons (pv 6) (pa_cons (pv 7) pa_nil)))))
        (pa_cons (pe_tup (pa_cons (pv 4) (pa_cons (pe_ix ix_tup (pv 2) pe_int (fun _ _ => rfl)) (pa_cons (pe_ix ix_tup (pv 1) pe_int (fun _ _ => rfl)) (pa_cons (pv 7) pa_nil))))) pa_nil)))))))
      (pss_one (ps_set (i := 8) scWl.nd rfl (Or.inl rfl) (pe_lst (pa_cons (pe_tup (pa_cons (pe_ix ix_tup (pv 1) pe_int (fun _ _ => rfl)) (pa_cons (pv 5) (pa_cons (pv 6) (pa_cons (pe_ix ix_tup (pv 2) pe_int (fun _ _ => rfl)) pa_nil)))))
        (pa_cons (pe_tup (pa_cons (pe_ix ix_tup (pv 1) pe_int (fun _ _ => rfl)) (pa_cons (pe_ix ix_tup (pv 2) pe_int (fun _ _ => rfl)) (pa_cons (pv 6) (pa_cons (pv 7) pa_nil)))))
        (pa_cons (pe_tup (pa_cons (pv 4) (pa_cons (pe_ix ix_tup (pv 2) pe_int (fun _ _ => rfl)) (pa_cons (pe_ix ix_tup (pv 1) pe_int (fun _ _ => rfl)) (pa_cons (pv 7) pa_nil)))))
        (pa_cons (pe_tup (pa_cons (pv 4) (pa_cons (pv 5) (pa_cons (pe_ix ix_tup (pv 1) pe_int (fun _ _ => rfl)) (pa_cons (pe_ix ix_tup (pv 2) pe_int (fun _ _ => rfl)) pa_nil))))) pa_nil))))))))
    (pss_one (ps_ret (pe_op op_cat (pv 8) (pe_lst (pa_cons (pe_tup (pa_cons (pe_ix ix_tup (pv 1) pe_int (fun _ _ => rfl)) (pa_cons (pe_ix ix_tup (pv 2) pe_int (fun _ _ => rfl)) (pa_cons (pe_ix ix_tup (pv 1) pe_int (fun _ _ => rfl)) (pa_cons (pe_ix ix_tup (pv 2) pe_int (fun _ _ => rfl)) pa_nil))))) pa_nil)))))), ?_⟩
  refine ⟨_, rfl, pb, _, rfl, SqT.of hb, rfl, _, _, rfl, _, _, rfl, _, _, rfl, _, _, rfl, rfl, ?_⟩
  -- the middle one, and all together
  have fin : ∀ (H1 : Hp) (p : Addr) (cs : List Addr) (bs : List Bx), Same H H1 → H1 p = some (.lst (cs.map V.ref)) → At BoxR H1 cs bs → bs.length = 4 → (∀ b ∈ bs, BxK b) →
      tRet (tOp rCat (tVar 8) (tLst (tCons (tTup (tCons (tOp (rIxT K) (tVar 1) (tC (.int 0))) (tCons (tOp (rIxT K) (tVar 2) (tC (.int 0))) (tCons (tOp (rIxT K) (tVar 1) (tC (.int 1))) (tCons (tOp (rIxT K) (tVar 2) (tC (.int 1))) tNil))))) tNil)))
      { nx := fun _ H' => Q .non H', rt := Q } [some (.ref pb), some (.ref px), some (.ref py), some (.int way), some (.int l), some (.int lo), some (.int r), some (.int hi), some (.ref p)] H1 := by
    intro H1 p cs bs s1 hp hA h4 hk
    refine ⟨_, rfl, _, rfl, px, _, _, _, rfl, rfl, SqT.of (s1 _ _ hx), at0, _, rfl, py, _, _, _, rfl, rfl, SqT.of (s1 _ _ hy), at0, _, rfl, px, _, _, _, rfl, rfl, SqT.of (s1 _ _ hx), at1, _, rfl, py, _, _, _, rfl, rfl, SqT.of (s1 _ _ hy), at1, by show 4 ≤ sizeLine; decide, fun c hc => ?_⟩
    obtain ⟨H2, e2, s2, f2⟩ := new_box hc x0 y0 x1 y1
    dsimp only
    rw [e2]
    refine ⟨by show 1 ≤ sizeLine; decide, fun c2 hc2 => ?_⟩
    obtain ⟨H3, e3, s3, f3⟩ := new_lst hc2 [.ref c]
    try dsimp only
    rw [e3]
    have s23 := s2.trans s3
    have lc : cs.length = 4 := by rw [hA.1]; exact h4
    refine ⟨p, c2, _, _, rfl, rfl, s23 _ _ hp, f3, by rw [List.length_map]; exact szle (by simp; omega), fun c4 hc4 => ?_⟩
    have s4 := same_new hc4 (.lst (cs.map V.ref ++ [.ref c]))
    refine q c4 _ (bs ++ [(x0, y0, x1, y1)]) (s1.trans (s23.trans s4)) ⟨cs ++ [c], by rw [upd_same]; simp, ((hA.keep mo_box s23).snoc (s3 _ _ f2)).keep mo_box s4⟩ (by simp [h4]) (by simp [h4]) fun b hb => ?_
    rcases List.mem_append.mp hb with z | z
    · exact hk b z
    · rw [List.mem_singleton.mp z]; exact ⟨kx0, ky0, kx1, ky1⟩
  refine ⟨_, rfl, rfl, _, rfl, ?_⟩
  refine ite2 (fun _ => ?_) (fun _ => ?_)
  · refine ⟨_, rfl, _, rfl, _, rfl, px, _, _, _, rfl, rfl, SqT.of hx, at1, _, rfl, py, _, _, _, rfl, rfl, SqT.of hy, at0, by show 4 ≤ sizeLine; decide, fun c1 hc1 => ?_⟩
    obtain ⟨H1, e1, s1, g1⟩ := new_box hc1 l lo x1 y0
    dsimp only
    rw [e1]
    refine ⟨_, rfl, px, _, _, _, rfl, rfl, SqT.of (s1 _ _ hx), at1, _, rfl, _, rfl, _, rfl, py, _, _, _, rfl, rfl, SqT.of (s1 _ _ hy), at1, by show 4 ≤ sizeLine; decide, fun c2 hc2 => ?_⟩
    obtain ⟨H2, e2, s2, g2⟩ := new_box hc2 x1 lo r y1
    dsimp only
    rw [e2]
    have s12 := s1.trans s2
    refine ⟨_, rfl, px, _, _, _, rfl, rfl, SqT.of (s12 _ _ hx), at0, _, rfl, py, _, _, _, rfl, rfl, SqT.of (s12 _ _ hy), at1, _, rfl, _, rfl, by show 4 ≤ sizeLine; decide, fun c3 hc3 => ?_⟩
    obtain ⟨H3, e3, s3, g3⟩ := new_box hc3 x0 y1 r hi
    dsimp only
    rw [e3]
    have s13 := s12.trans s3
    refine ⟨_, rfl, _, rfl, py, _, _, _, rfl, rfl, SqT.of (s13 _ _ hy), at0, _, rfl, px, _, _, _, rfl, rfl, SqT.of (s13 _ _ hx), at0, _, rfl, by show 4 ≤ sizeLine; decide, fun c4 hc4 => ?_⟩
    obtain ⟨H4, e4, s4, g4⟩ := new_box hc4 l y0 x0 hi
    dsimp only
    rw [e4]
    refine ⟨by show 4 ≤ sizeLine; decide, fun c5 hc5 => ?_⟩
    obtain ⟨H5, e5, s5, g5⟩ := new_lst hc5 [.ref c1, .ref c2, .ref c3, .ref c4]
    try dsimp only
    rw [e5]
    have A : At BoxR H5 [c1, c2, c3, c4] [(l, lo, x1, y0), (x1, lo, r, y1), (x0, y1, r, hi), (l, y0, x0, hi)] :=
      (((At.nil.snoc (R := BoxR) (b := c1) (x := (l, lo, x1, y0)) ((s2.trans (s3.trans (s4.trans s5))) _ _ g1)).snoc (b := c2) (x := (x1, lo, r, y1)) ((s3.trans (s4.trans s5)) _ _ g2)).snoc (b := c3) (x := (x0, y1, r, hi)) ((s4.trans s5) _ _ g3)).snoc (b := c4) (x := (l, y0, x0, hi)) (s5 _ _ g4)
    refine fin H5 c5 [c1, c2, c3, c4] _ (s13.trans (s4.trans s5)) g5 A rfl fun b hb => ?_
    simp only [List.mem_cons, List.not_mem_nil, or_false] at hb
    rcases hb with rfl | rfl | rfl | rfl
    · exact ⟨kl, klo, kx1, ky0⟩
    · exact ⟨kx1, klo, kr, ky1⟩
    · exact ⟨kx0, ky1, kr, khi⟩
    · exact ⟨kl, ky0, kx0, khi⟩
  · refine ⟨_, rfl, px, _, _, _, rfl, rfl, SqT.of hx, at0, _, rfl, _, rfl, _, rfl, py, _, _, _, rfl, rfl, SqT.of hy, at0, by show 4 ≤ sizeLine; decide, fun c1 hc1 => ?_⟩
    obtain ⟨H1, e1, s1, g1⟩ := new_box hc1 x0 lo r y0
    dsimp only
    rw [e1]
    refine ⟨_, rfl, px, _, _, _, rfl, rfl, SqT.of (s1 _ _ hx), at1, _, rfl, py, _, _, _, rfl, rfl, SqT.of (s1 _ _ hy), at0, _, rfl, _, rfl, by show 4 ≤ sizeLine; decide, fun c2 hc2 => ?_⟩
    obtain ⟨H2, e2, s2, g2⟩ := new_box hc2 x1 y0 r hi
    dsimp only
    rw [e2]
    have s12 := s1.trans s2
    refine ⟨_, rfl, _, rfl, py, _, _, _, rfl, rfl, SqT.of (s12 _ _ hy), at1, _, rfl, px, _, _, _, rfl, rfl, SqT.of (s12 _ _ hx), at1, _, rfl, by show 4 ≤ sizeLine; decide, fun c3 hc3 => ?_⟩
    obtain ⟨H3, e3, s3, g3⟩ := new_box hc3 l y1 x1 hi
    dsimp only
    rw [e3]
    have s13 := s12.trans s3
    refine ⟨_, rfl, _, rfl, _, rfl, px, _, _, _, rfl, rfl, SqT.of (s13 _ _ hx), at0, _, rfl, py, _, _, _, rfl, rfl, SqT.of (s13 _ _ hy), at1, by show 4 ≤ sizeLine; decide, fun c4 hc4 => ?_⟩
    obtain ⟨H4, e4, s4, g4⟩ := new_box hc4 l lo x0 y1
    dsimp only
    rw [e4]
    refine ⟨by show 4 ≤ sizeLine; decide, fun c5 hc5 => ?_⟩
    obtain ⟨H5, e5, s5, g5⟩ := new_lst hc5 [.ref c1, .ref c2, .ref c3, .ref c4]
    try dsimp only
    rw [e5]
    have A : At BoxR H5 [c1, c2, c3, c4] [(x0, lo, r, y0), (x1, y0, r, hi), (l, y1, x1, hi), (l, lo, x0, y1)] :=
      (((At.nil.snoc (R := BoxR) (b := c1) (x := (x0, lo, r, y0)) ((s2.trans (s3.trans (s4.trans s5))) _ _ g1)).snoc (b := c2) (x := (x1, y0, r, hi)) ((s3.trans (s4.trans s5)) _ _ g2)).snoc (b := c3) (x := (l, y1, x1, hi)) ((s4.trans s5) _ _ g3)).snoc (b := c4) (x := (l, lo, x0, y1)) (s5 _ _ g4)
    refine fin H5 c5 [c1, c2, c3, c4] _ (s13.trans (s4.trans s5)) g5 A rfl fun b hb => ?_
    simp only [List.mem_cons, List.not_mem_nil, or_false] at hb
    rcases hb with rfl | rfl | rfl | rfl
    · exact ⟨kx0, klo, kr, ky0⟩
    · exact ⟨kx1, ky0, kr, khi⟩
    · exact ⟨kl, ky1, kx1, khi⟩
    · exact ⟨kl, klo, kx0, ky1⟩
def spBroken : Sp := fun vs H Q _ => ∃ (pb : Addr) (b : Bx) (c : Int), vs = [.ref pb, .int c] ∧ BoxR H pb b ∧ BxK b ∧ BxsQ H Q 1 5
theorem scBk : FnScope ["_law_box", "_law_cell", "_law_left", "_law_low", "_law_right", "_law_high", "_law_how", "_law_x", "_law_y"] ["_law_box", "_law_cell"] (defScope s_law_broken) := ⟨rfl, rfl, rfl, by decide +kernel, rfl, by decide +kernel, by decide +kernel⟩
set_option maxHeartbeats 4000000 in
theorem ok_broken (F : Fun K "_law_broken" "_law_broken" s_law_broken f fd) (G1 : FnOk P w K mg base CX0 1 f1 d1 ["_law_low", "_law_high", "_law_cell"] spTwo) (b1 : Binds K d1 ["_law_low", "_law_high", "_law_cell"] []) (k1 : PySem.W.keepIn K (.ref f1) = true) (m1 : mg "_law_two" = some (.ref f1))
    (G2 : FnOk P w K mg base CX0 1 f2 d2 ["_law_box", "_law_x", "_law_y", "_law_way"] spWheel) (b2 : Binds K d2 ["_law_box", "_law_x", "_law_y", "_law_way"] []) (k2 : PySem.W.keepIn K (.ref f2) = true) (m2 : mg "_law_wheel" = some (.ref f2)) :
    FnOk P w K mg base CX0 2 f fd ["_law_box", "_law_cell"] spBroken := by
  refine F.ok scBk (fun vs H Q E h => ?_) (fun cdv A outer s H vs Q E hr h => ?_)
  · obtain ⟨pb, b, c, rfl, _⟩ := h
    rfl
  obtain ⟨pb, ⟨l, lo, r, hi⟩, c, rfl, hb, ⟨kl, klo, kr, khi⟩, q⟩ := h
  dsimp only at kl klo kr khi
  refine ⟨_, pss_cons (ps_asg (pv 0) (pg_tup rfl (pgs_cons (pg_name (i := 2) scBk.nd rfl (Or.inl rfl)) (pgs_cons (pg_name (i := 3) scBk.nd rfl (Or.inl rfl)) (pgs_cons (pg_name (i := 4) scBk.nd rfl (Or.inl rfl)) (pgs_cons (pg_name (i := 5) scBk.nd rfl (Or.inl rfl)) pgs_nil))))))
    (pss_cons (ps_set (i := 6) scBk.nd rfl (Or.inl rfl) (pe_op op_mod (pv 1) pe_int))
    (pss_cons (ps_set (i := 1) scBk.nd rfl (Or.inl rfl) (pe_op op_fdiv (pv 1) pe_int))
    (pss_cons (ps_if (PW.pt (pw_and (pt_cmpR op_eq (pv 6) pe_int (nomark _)) (pw_and (pt_cmpR op_gt (pe_op op_sub (pv 4) (pv 2)) pe_int (nomark _)) (pw_and1 (pt_cmpR op_gt (pe_op op_sub (pv 5) (pv 3)) pe_int (nomark _))))))
      (pss_cons (ps_set (i := 7) scBk.nd rfl (Or.inl rfl) (pe_call G1 hr (by rfl) m1 k1 b1 .nil pass0 (pa_cons (pv 2) (pa_cons (pv 4) (pa_cons (pe_op op_fdiv (pv 1) pe_int) pa_nil)))))
      (pss_cons (ps_set (i := 8) scBk.nd rfl (Or.inl rfl) (pe_call G1 hr (by rfl) m1 k1 b1 .nil pass0 (pa_cons (pv 3) (pa_cons (pv 5) (pa_cons (pe_op op_fdiv (pv 1) pe_int) pa_nil)))))
      (pss_one (ps_ret (pe_call G2 hr (by rfl) m2 k2 b2 .nil pass0 (pa_cons (pv 0) (pa_cons (pv 7) (pa_cons (pv 8) (pa_cons (pe_op op_mod (pv 1) pe_int) pa_nil))))))))) pss_nil)
    (pss_cons (ps_if (PW.pt (pw_and (pt_cmpR op_eq (pe_op op_mod (pv 6) pe_int) pe_int (nomark _)) (pw_and1 (pt_cmpR op_gt (pe_op op_sub (pv 4) (pv 2)) pe_int (nomark _)))))
      (pss_cons (ps_set (i := 7) scBk.nd rfl (Or.inl rfl) (pe_op op_add (pe_op op_add (pv 2) pe_int) (pe_op op_mod (pv 1) (pe_op op_sub (pe_op op_sub (pv 4) (pv 2)) pe_int))))
      (pss_one (ps_ret (pe_lst (pa_cons (pe_tup (pa_cons (pv 2) (pa_cons (pv 3) (pa_cons (pv 7) (pa_cons (pv 5) pa_nil))))) (pa_cons (pe_tup (pa_cons (pv 7) (pa_cons (pv 3) (pa_cons (pv 4) (pa_cons (pv 5) pa_nil))))) pa_nil)))))) pss_nil)
    (pss_cons (ps_if (pt_cmpR op_gt (pe_op op_sub (pv 5) (pv 3)) pe_int (nomark _))
      (pss_cons (ps_set (i := 8) scBk.nd rfl (Or.inl rfl) (pe_op op_add (pe_op op_add (pv 3) pe_int) (pe_op op_mod (pv 1) (pe_op op_sub (pe_op op_sub (pv 5) (pv 3)) pe_int))))
      (pss_one (ps_ret (pe_lst (pa_cons (pe_tup (pa_cons (pv 2) (pa_cons (pv 3) (pa_cons (pv 4) (pa_cons (pv 8) pa_nil))))) (pa_cons (pe_tup (pa_cons (pv 2) (pa_cons (pv 8) (pa_cons (pv 4) (pa_cons (pv 5) pa_nil))))) pa_nil)))))) pss_nil)
    (pss_one (ps_ret (pe_lst (pa_cons (pv 0) pa_nil))))))))), ?_⟩
  refine ⟨_, rfl, pb, _, rfl, SqT.of hb, rfl, _, _, rfl, _, _, rfl, _, _, rfl, _, _, rfl, rfl, ?_⟩
  refine ⟨_, rfl, _, _, rfl, rfl, (show (0 : Int) < 5 by decide), _, rfl, _, _, rfl, rfl, ⟨by decide, by decide⟩, ?_⟩
  -- two boxes
  have fin2 : ∀ (a1 b1 c1 d1 a2 b2 c2 d2 : Int), BxK (a1, b1, c1, d1) → BxK (a2, b2, c2, d2) → ∀ p, H p = none → ∀ p2, (upd H p (.tup [.int a1, .int b1, .int c1, .int d1])) p2 = none → ∀ p3, (upd (upd H p (.tup [.int a1, .int b1, .int c1, .int d1])) p2 (.tup [.int a2, .int b2, .int c2, .int d2])) p3 = none →
      Q (.ref p3) (upd (upd (upd H p (.tup [.int a1, .int b1, .int c1, .int d1])) p2 (.tup [.int a2, .int b2, .int c2, .int d2])) p3 (.lst [.ref p, .ref p2])) := by
    intro a1 b1 c1 d1 a2 b2 c2 d2 kb1 kb2 p hp p2 hp2 p3 hp3
    obtain ⟨H1, e1, s1, g1⟩ := new_box hp a1 b1 c1 d1
    rw [e1] at hp2 hp3 ⊢
    obtain ⟨H2, e2, s2, g2⟩ := new_box hp2 a2 b2 c2 d2
    rw [e2] at hp3 ⊢
    have s3 := same_new hp3 (.lst [.ref p, .ref p2])
    refine q p3 _ [(a1, b1, c1, d1), (a2, b2, c2, d2)] (s1.trans (s2.trans s3)) ⟨[p, p2], upd_same, (At.nil.snoc (R := BoxR) (b := p) (x := (a1, b1, c1, d1)) ((s2.trans s3) _ _ g1)).snoc (b := p2) (x := (a2, b2, c2, d2)) (s3 _ _ g2)⟩ (by simp) (by simp) fun b hb => ?_
    simp only [List.mem_cons, List.not_mem_nil, or_false] at hb
    rcases hb with rfl | rfl
    · exact kb1
    · exact kb2
  refine ⟨_, rfl, rfl, _, rfl, ?_⟩
  apply joinP
  case m =>
    intro rest
    refine ite2 (fun _ => ⟨_, rfl, _, rfl, _, _, rfl, rfl, _, _, rfl, rfl, _, rfl, ?_⟩) (fun _ => rest)
    by_cases h2 : (2 : Int) < r - l
    · refine iteDT h2 ⟨_, rfl, _, rfl, _, _, rfl, rfl, _, _, rfl, rfl, _, rfl, ?_⟩
      by_cases h3 : (2 : Int) < hi - lo
      · refine iteDT h3 ?_
        refine ⟨_, rfl, _, rfl, _, rfl, _, _, rfl, rfl, ⟨by decide, by decide⟩, l, r, _, rfl, by omega, fun x0 x1 q1 q2 q3 px hpx => ?_⟩
        have s1 := same_new hpx (.tup [.int x0, .int x1])
        have g1 : (upd H px (.tup [.int x0, .int x1])) px = some (.tup [.int x0, .int x1]) := upd_same
        generalize upd H px (.tup [.int x0, .int x1]) = H1 at s1 g1
        refine ⟨_, rfl, _, rfl, _, rfl, _, _, rfl, rfl, ⟨by decide, by decide⟩, lo, hi, _, rfl, by omega, fun y0 y1 q4 q5 q6 py hpy => ?_⟩
        have s2 := same_new hpy (.tup [.int y0, .int y1])
        have g2 : (upd H1 py (.tup [.int y0, .int y1])) py = some (.tup [.int y0, .int y1]) := upd_same
        generalize upd H1 py (.tup [.int y0, .int y1]) = H2 at s2 g2
        exact ⟨_, rfl, _, rfl, _, rfl, _, rfl, _, _, rfl, rfl, (show (0 : Int) < 2 by decide), pb, px, py, (l, lo, r, hi), x0, x1, y0, y1, _, rfl, mo_box (s1.trans s2) hb, s2 _ _ g1, g2, ⟨kl, klo, kr, khi⟩, ⟨by omega, by omega⟩, ⟨by omega, by omega⟩, ⟨by omega, by omega⟩, ⟨by omega, by omega⟩, fun p H' bs s3 hL n1 n2 hk => q p H' bs ((s1.trans s2).trans s3) hL (by omega) n2 hk⟩
      · exact iteDF h3 rest
    · exact iteDF h2 rest
  case r =>
    refine ⟨_, rfl, _, _, rfl, rfl, (show (0 : Int) < 2 by decide), rfl, _, rfl, ?_⟩
    apply joinP
    case m =>
      intro rest
      refine ite2 (fun _ => ⟨_, rfl, _, rfl, _, _, rfl, rfl, _, _, rfl, rfl, _, rfl, ?_⟩) (fun _ => rest)
      by_cases h2 : (1 : Int) < r - l
      · refine iteDT h2 ?_
        have h1 : (0 : Int) < r - l - 1 := by omega
        have a0 := Int.emod_nonneg (c / 5) (Int.ne_of_gt h1)
        have a1 := Int.emod_lt_of_pos (c / 5) h1
        refine ⟨_, rfl, _, _, rfl, rfl, _, rfl, _, rfl, _, rfl, _, _, rfl, rfl, _, _, rfl, rfl, _, _, rfl, rfl, h1, _, _, rfl, rfl, ?_⟩
        dsimp only
        generalize hx : l + 1 + c / 5 % (r - l - 1) = x
        have kx : in01 x := ⟨by omega, by omega⟩
        refine ⟨_, rfl, _, rfl, _, rfl, _, rfl, by show 4 ≤ sizeLine; decide, fun p hp => ⟨_, rfl, _, rfl, _, rfl, _, rfl, by show 4 ≤ sizeLine; decide, fun p2 hp2 => ⟨by show 2 ≤ sizeLine; decide, fun p3 hp3 => ?_⟩⟩⟩
        exact fin2 l lo x hi x lo r hi ⟨kl, klo, kx, khi⟩ ⟨kx, klo, kr, khi⟩ p hp p2 hp2 p3 hp3
      · exact iteDF h2 rest
    case r =>
      refine ⟨_, rfl, _, rfl, _, _, rfl, rfl, _, _, rfl, rfl, _, rfl, ?_⟩
      by_cases h2 : (1 : Int) < hi - lo
      · refine iteDT h2 ?_
        have h1 : (0 : Int) < hi - lo - 1 := by omega
        have a0 := Int.emod_nonneg (c / 5) (Int.ne_of_gt h1)
        have a1 := Int.emod_lt_of_pos (c / 5) h1
        refine ⟨_, rfl, _, _, rfl, rfl, _, rfl, _, rfl, _, rfl, _, _, rfl, rfl, _, _, rfl, rfl, _, _, rfl, rfl, h1, _, _, rfl, rfl, ?_⟩
        dsimp only
        generalize hy : lo + 1 + c / 5 % (hi - lo - 1) = y
        have ky : in01 y := ⟨by omega, by omega⟩
        refine ⟨_, rfl, _, rfl, _, rfl, _, rfl, by show 4 ≤ sizeLine; decide, fun p hp => ⟨_, rfl, _, rfl, _, rfl, _, rfl, by show 4 ≤ sizeLine; decide, fun p2 hp2 => ⟨by show 2 ≤ sizeLine; decide, fun p3 hp3 => ?_⟩⟩⟩
        exact fin2 l lo r y l y r hi ⟨kl, klo, kr, ky⟩ ⟨kl, ky, kr, khi⟩ p hp p2 hp2 p3 hp3
      · refine iteDF h2 ⟨_, rfl, by show 1 ≤ sizeLine; decide, fun p hp => ?_⟩
        have s1 := same_new hp (.lst [.ref pb])
        refine q p _ [(l, lo, r, hi)] s1 ⟨[pb], upd_same, At.nil.snoc (R := BoxR) (b := pb) (x := (l, lo, r, hi)) (s1 _ _ hb)⟩ (by simp) (by simp) fun b hb => ?_
        rw [List.mem_singleton.mp hb]; exact ⟨kl, klo, kr, khi⟩
end
end My
/-! k50: the floor built, scaled; spoilt -/
namespace My
open PySem L2 Mth Wd
theorem at_last {xs : List V} {x : V} (h : xs[xs.length - 1]? = some x) (n : 0 < xs.length) : atI xs (-1) = some x := by
  unfold atI ixN
  rw [if_neg (by omega), if_pos (by omega), show ((-1 : Int) + (xs.length : Int)).toNat = xs.length - 1 by omega]
  exact h
theorem cut_last (xs : List V) (n : 0 < xs.length) : cutV xs none (some (-1)) = xs.dropLast := by
  unfold cutV
  have e1 : HT.sIx xs.length 0 none = 0 := rfl
  have e2 : HT.sIx xs.length xs.length (some (-1)) = xs.length - 1 := by
    simp only [HT.sIx]
    split <;> omega
  rw [e1, e2, List.dropLast_eq_take]; simp
section
variable {P : Program} {w : World} {K : PySem.W.Frag} {mg : Str → Option Value} {base : Heap} {f g h f1 f2 f3 : Addr} {fd gd hd d1 d2 d3 : FuncData}
def spBuilt (K : PySem.W.Frag) : Sp := fun vs H Q _ => ∃ (a : Addr) (ns : List Int) (wd hg : Int), vs = [.ref a, .int 4, .int 30, .int wd, .int hg, .int 12] ∧ ScA K H a ns ∧ in01 wd ∧ in01 hg ∧ BxsQ H Q 1 12
theorem scBu : FnScope ["_law_script", "_law_first", "_law_last", "_law_wide", "_law_high", "_law_most", "_law_boxes", "_law_k", "_law_cell", "_law_at", "_law_parts"] ["_law_script", "_law_first", "_law_last", "_law_wide", "_law_high", "_law_most"] (defScope s_law_built) := ⟨rfl, rfl, rfl, by decide +kernel, rfl, by decide +kernel, by decide +kernel⟩
set_option maxHeartbeats 4000000 in
theorem ok_built (F : Fun K "_law_built" "_law_built" s_law_built f fd) (G1 : FnOk P w K mg base CX0 1 f1 d1 ["_law_script", "_law_k"] (spCell K)) (b1 : Binds K d1 ["_law_script", "_law_k"] []) (k1 : PySem.W.keepIn K (.ref f1) = true) (m1 : mg "_law_cell_at" = some (.ref f1))
    (G2 : FnOk P w K mg base CX0 2 f2 d2 ["_law_box", "_law_cell"] spBroken) (b2 : Binds K d2 ["_law_box", "_law_cell"] []) (k2 : PySem.W.keepIn K (.ref f2) = true) (m2 : mg "_law_broken" = some (.ref f2)) (ml : mg "len" = none) (mn : mg "min" = none) (mr : mg "range" = none) :
    FnOk P w K mg base CX0 3 f fd ["_law_script", "_law_first", "_law_last", "_law_wide", "_law_high", "_law_most"] (spBuilt K) := by
  refine F.ok scBu (fun vs H Q E h => ?_) (fun cdv A outer s H vs Q E hr h => ?_)
  · obtain ⟨a, ns, wd, hg, rfl, _⟩ := h
    rfl
  obtain ⟨a, ns, wd, hg, rfl, hS, kw, kh, q⟩ := h
  have hr1 := hr.mono (show 1 ≤ 2 by decide)
  refine ⟨_, pss_cons (ps_set (i := 6) scBu.nd rfl (Or.inl rfl) (pe_lst (pa_cons (pe_tup (pa_cons pe_int (pa_cons pe_int (pa_cons (pv 3) (pa_cons (pv 4) pa_nil))))) pa_nil)))
    (pss_cons (ps_for PassesOwn.never rfl (pi_range2 (by rfl) mr (pa_cons (pv 1) (pa_cons (pe_callB (call_min2 rfl) (by rfl) mn bt_min (pa_cons (pe_callB call_len_seq (by rfl) ml bt_len (pa_cons (pv 0) pa_nil)) (pa_cons (pv 2) pa_nil))) pa_nil))) (pg_name (i := 7) scBu.nd rfl (Or.inl rfl))
      (pss_cons (ps_set (i := 8) scBu.nd rfl (Or.inl rfl) (pe_call G1 hr1 (by rfl) m1 k1 b1 .nil pass0 (pa_cons (pv 0) (pa_cons (pv 7) pa_nil))))
      (pss_cons (ps_set (i := 9) scBu.nd rfl (Or.inl rfl) (pe_op op_mod (pv 8) (pe_callB call_len_seq (by rfl) ml bt_len (pa_cons (pv 6) pa_nil))))
      (pss_cons (ps_set (i := 10) scBu.nd rfl (Or.inl rfl) (pe_call G2 hr (by rfl) m2 k2 b2 .nil pass0 (pa_cons (pe_ix ix_list (pv 6) (pv 9) (fun _ _ => rfl)) (pa_cons (pe_op op_fdiv (pv 8) pe_int) pa_nil))))
      (pss_one (ps_if (pt_cmpR op_le (pe_op op_add (pe_callB call_len_seq (by rfl) ml bt_len (pa_cons (pv 6) pa_nil)) (pe_callB call_len_seq (by rfl) ml bt_len (pa_cons (pv 10) pa_nil))) (pe_op op_add (pv 5) pe_int) (nomark _))
        (pss_one (ps_set (i := 6) scBu.nd rfl (Or.inl rfl) (pe_op op_cat (pe_op op_cat (pe_op op_cat (pe_slice sl_list (pv 6) po_none (po_some (pv 9))) (pe_lst (pa_cons (pe_ix ix_list (pv 10) (pe_un un_neg pe_int) (fun _ _ => rfl)) pa_nil))) (pe_slice sl_list (pv 6) (po_some (pe_op op_add (pv 9) pe_int)) po_none)) (pe_slice sl_list (pv 10) po_none (po_some (pe_un un_neg pe_int)))))) pss_nil))))))
    (pss_one (ps_ret (pv 6)))), ?_⟩
  refine ⟨_, rfl, _, rfl, by show 4 ≤ sizeLine; decide, fun c0 hc0 => ?_⟩
  obtain ⟨H1, e1, s1, g1⟩ := new_box hc0 0 0 wd hg
  rw [e1]
  refine ⟨by show 1 ≤ sizeLine; decide, fun L0 hL0 => ?_⟩
  obtain ⟨H2, e2, s2, g2⟩ := new_lst hL0 [.ref c0]
  rw [e2]
  have s12 := s1.trans s2
  refine ⟨_, rfl, _, rfl, a, _, rfl, .inl (s12.seq hS.1), _, rfl, _, _, rfl, ?_⟩
  obtain ⟨L, hL, L0', L1⟩ : ∃ L : Int, (if (30 : Int) < (((ns.map V.int).length : Nat) : Int) then (30 : Int) else (((ns.map V.int).length : Nat) : Int)) = L ∧ 0 ≤ L ∧ L ≤ 30 := ⟨_, rfl, by split <;> omega, by split <;> omega⟩
  rw [hL]
  refine ⟨_, _, rfl, ⟨by omega, by omega, by omega, by omega⟩, ?_⟩
  refine for_range (lo := 4) (n := (L - 4).toNat) (fun i σ H3 => Same H H3 ∧ ∃ (p : Addr) (bs : List Bx) (u7 u8 u9 u10 : Option V), σ = [some (.ref a), some (.int 4), some (.int 30), some (.int wd), some (.int hg), some (.int 12), some (.ref p), u7, u8, u9, u10] ∧ LstR BoxR H3 p bs ∧ 1 ≤ bs.length ∧ bs.length ≤ 12 ∧ ∀ b ∈ bs, BxK b)
    ⟨s12, L0, [(0, 0, wd, hg)], none, none, none, none, rfl, ⟨[c0], g2, At.nil.snoc (R := BoxR) (b := c0) (x := (0, 0, wd, hg)) (s2 _ _ g1)⟩, by simp, by simp, fun b hb => by rw [List.mem_singleton.mp hb]; exact ⟨⟨Int.le_refl _, (by decide : (0 : Int) ≤ 9999)⟩, ⟨Int.le_refl _, (by decide : (0 : Int) ≤ 9999)⟩, kw, kh⟩⟩ ?_ ?_
  · rintro i σ H3 hi ⟨s3, p, bs, u7, u8, u9, u10, rfl, ⟨cs, hp, hC⟩, n1, n2, kb⟩
    have lc : cs.length = bs.length := hC.1
    have lm : (cs.map V.ref).length = bs.length := by rw [List.length_map, lc]
    refine ⟨_, rfl, _, rfl, a, ns, _, rfl, ⟨s3.seq hS.1, hS.2⟩, by omega, fun z hz => ?_⟩
    have zp : (0 : Int) < ((cs.map V.ref).length : Int) := by omega
    refine ⟨_, rfl, _, rfl, p, _, rfl, .inl (SqL.of hp), _, _, rfl, rfl, zp, ?_⟩
    have y0 := Int.emod_nonneg z (Int.ne_of_gt zp)
    have y1 := Int.emod_lt_of_pos z zp
    obtain ⟨j, hj⟩ := Int.eq_ofNat_of_zero_le y0
    rw [hj] at y1
    have jl : j < bs.length := by omega
    have eb : bs[j]? = some bs[j] := List.getElem?_eq_getElem jl
    generalize bs[j] = b at eb
    obtain ⟨c, hc, fb⟩ := hC.get eb
    have hat : atI (cs.map V.ref) (z % ((cs.map V.ref).length : Int)) = some (.ref c) := by rw [hj]; exact atI_nat (ref_at hc)
    refine ⟨_, rfl, _, rfl, p, _, _, _, rfl, rfl, SqL.of hp, hat, _, rfl, _, _, rfl, rfl, ⟨by decide, by decide⟩, c, b, _, rfl, fb, kb b (List.mem_of_getElem? eb), fun pp H4 ps s4 ⟨ds, hpp, hD⟩ m1' m5 kp => ?_⟩
    have ld : ds.length = ps.length := hD.1
    have hp4 := s4 _ _ hp
    refine ⟨_, rfl, p, _, rfl, .inl (SqL.of hp4), _, rfl, pp, _, rfl, .inl (SqL.of hpp), _, _, rfl, rfl, _, rfl, _, _, rfl, rfl, _, _, rfl, rfl, _, rfl, ?_⟩
    by_cases hle : (((cs.map V.ref).length : Nat) : Int) + (((ds.map V.ref).length : Nat) : Int) ≤ 12 + 1
    · refine iteDT hle ?_
      rw [lm, List.length_map, ld] at hle
      refine ⟨_, rfl, _, rfl, _, rfl, p, _, rfl, SqL.of hp4, fun q1 hq1 => ?_⟩
      rw [show cutV (cs.map V.ref) none (some (z % ((cs.map V.ref).length : Int))) = (cs.take j).map V.ref by rw [hj]; exact (cut_take _ (by omega)).trans (List.map_take ..).symm]
      obtain ⟨H5, e5, s5, g5⟩ := new_lst hq1 ((cs.take j).map V.ref)
      rw [e5]
      have dl : ds[ds.length - 1]? = some ds[ds.length - 1] := List.getElem?_eq_getElem (by omega)
      generalize ds[ds.length - 1] = dL at dl
      refine ⟨_, rfl, _, rfl, pp, _, _, _, rfl, rfl, SqL.of (s5 _ _ hpp), at_last (by rw [List.length_map]; exact ref_at dl) (by rw [List.length_map]; omega), by show 1 ≤ sizeLine; decide, fun q2 hq2 => ?_⟩
      obtain ⟨H6, e6, s6, g6⟩ := new_lst hq2 [.ref dL]
      rw [e6]
      refine ⟨q1, q2, _, _, rfl, rfl, s6 _ _ g5, g6, by simp; exact szle (by omega), fun q3 hq3 => ?_⟩
      obtain ⟨H7, e7, s7, g7⟩ := new_lst hq3 ((cs.take j).map V.ref ++ [.ref dL])
      rw [e7]
      have s57 := s5.trans (s6.trans s7)
      refine ⟨_, rfl, _, rfl, _, _, rfl, rfl, _, rfl, p, _, rfl, SqL.of (s57 _ _ hp4), fun q4 hq4 => ?_⟩
      rw [show cutV (cs.map V.ref) (some (z % ((cs.map V.ref).length : Int) + 1)) none = (cs.drop (j+1)).map V.ref by rw [hj]; exact (cut_drop (j := j + 1) _ (by omega)).trans (List.map_drop ..).symm]
      obtain ⟨H8, e8, s8, g8⟩ := new_lst hq4 ((cs.drop (j+1)).map V.ref)
      rw [e8]
      refine ⟨q3, q4, _, _, rfl, rfl, s8 _ _ g7, g8, by simp; exact szle (by omega), fun q5 hq5 => ?_⟩
      obtain ⟨H9, e9, s9, g9⟩ := new_lst hq5 ((cs.take j).map V.ref ++ [.ref dL] ++ (cs.drop (j+1)).map V.ref)
      rw [e9]
      have s59 := s57.trans (s8.trans s9)
      refine ⟨_, rfl, _, rfl, _, rfl, pp, _, rfl, SqL.of (s59 _ _ hpp), fun q6 hq6 => ?_⟩
      rw [cut_last _ (by rw [List.length_map]; omega), ← List.map_dropLast]
      obtain ⟨H10, e10, s10, g10⟩ := new_lst hq6 (ds.dropLast.map V.ref)
      rw [e10]
      refine ⟨q5, q6, _, _, rfl, rfl, s10 _ _ g9, g10, by simp; exact szle (by omega), fun q7 hq7 => ?_⟩
      have s11 := same_new hq7 (.lst ((cs.take j).map V.ref ++ [.ref dL] ++ (cs.drop (j+1)).map V.ref ++ ds.dropLast.map V.ref))
      have s511 := s59.trans (s10.trans s11)
      have pl : ps[ps.length - 1]? = some ps[ps.length - 1] := List.getElem?_eq_getElem (by omega)
      generalize ps[ps.length - 1] = pL at pl
      have hdL : BoxR H4 dL pL := hD.2 _ _ _ dl (by rw [ld]; exact pl)
      have A1 : At BoxR H4 (cs.take j ++ [dL] ++ cs.drop (j+1) ++ ds.dropLast) (bs.take j ++ [pL] ++ bs.drop (j+1) ++ ps.dropLast) := by
        refine ((((hC.keep mo_box s4).take j).snoc hdL).app ((hC.keep mo_box s4).drop (j+1))).app ?_
        rw [List.dropLast_eq_take, List.dropLast_eq_take, ld]
        exact hD.take _
      refine ⟨s3.trans (s4.trans s511), q7, bs.take j ++ [pL] ++ bs.drop (j+1) ++ ps.dropLast, _, _, _, _, rfl, ⟨_, by rw [upd_same]; simp, A1.keep mo_box s511⟩, by simp; omega, by simp; omega, fun b' hb' => ?_⟩
      simp only [List.mem_append, List.mem_singleton] at hb'
      rcases hb' with ((z | z) | z) | z
      · exact kb _ (List.mem_of_mem_take z)
      · rw [z]; exact kp _ (List.mem_of_getElem? pl)
      · exact kb _ (List.mem_of_mem_drop z)
      · exact kp _ (List.dropLast_subset _ z)
    · exact iteDF hle ⟨s3.trans s4, p, bs, _, _, _, _, rfl, ⟨cs, hp4, hC.keep mo_box s4⟩, n1, n2, kb⟩
  · rintro σ H3 ⟨s3, p, bs, u7, u8, u9, u10, rfl, hL3, n1, n2, kb⟩
    exact ⟨_, rfl, q p H3 bs s3 hL3 n1 n2 kb⟩
/-- a number scaled -/
def spScO : Sp := fun vs H Q _ => ∃ (n : Int) (p : Addr) (c : Rat), vs = [.int n, .ref p] ∧ FrR H p c ∧ Sb 7 13 c ∧ n.natAbs ≤ 2 ^ 15 ∧ GivQ H Q ((n : Rat) * c)
theorem scSO : FnScope ["_law_number", "_law_scale"] ["_law_number", "_law_scale"] (defScope s_law_scaled_one) := ⟨rfl, rfl, rfl, by decide +kernel, rfl, by decide +kernel, by decide +kernel⟩
theorem sc_rat (n : Int) (c : Rat) : (((n * c.num : Int)) : Rat) / ((c.den : Int) : Rat) = (n : Rat) * c := by
  rw [Rat.intCast_mul, Rat.div_def, Rat.mul_assoc, ← Rat.div_def, rat_of]
theorem ok_scO (F : Fun K "_law_scaled_one" "_law_scaled_one" s_law_scaled_one f fd) (G : FnOk P w K mg base CX0 1 g gd ["_law_top", "_law_bottom"] spLow) (bG : Binds K gd ["_law_top", "_law_bottom"] []) (kG : PySem.W.keepIn K (.ref g) = true) (mG : mg "_law_lowest" = some (.ref g)) :
    FnOk P w K mg base CX0 2 f fd ["_law_number", "_law_scale"] spScO := by
  refine F.ok scSO (fun vs H Q E h => ?_) (fun cdv A outer s H vs Q E hr h => ?_)
  · obtain ⟨n, p, c, rfl, _⟩ := h
    rfl
  obtain ⟨n, p, c, rfl, hp, sc, nb, q⟩ := h
  refine ⟨_, pss_one (ps_ret (pe_call G hr (by rfl) mG kG bG .nil pass0 (pa_cons (pe_op op_mulB (pv 0) (pe_ix ix_tup (pv 1) pe_int (fun _ _ => rfl))) (pa_cons (pe_ix ix_tup (pv 1) pe_int (fun _ _ => rfl)) pa_nil)))), ?_⟩
  have dn := c.den_nz
  refine ⟨_, rfl, _, rfl, p, _, _, _, rfl, rfl, SqT.of hp, at0, _, _, rfl, rfl, ⟨big2 nb (by decide), big2 sc.1 (by decide)⟩, _, rfl, p, _, _, _, rfl, rfl, SqT.of hp, at1, _, _, rfl, by omega, big2 (n := 13) (by rw [Int.natAbs_natCast]; exact sc.2) (by decide), ?_⟩
  rw [sc_rat]
  exact q
abbrev bxL (b : Bx) : List Int := [b.1, b.2.1, b.2.2.1, b.2.2.2]
/-- a box in the reach of numbers -/
abbrev BxW (b : Bx) : Prop := ∀ x ∈ bxL b, x.natAbs ≤ 2 ^ 15
theorem bxk_w {b : Bx} (h : BxK b) : BxW b := fun x hx => by
  obtain ⟨h1, h2, h3, h4⟩ := h
  simp only [List.mem_cons, List.not_mem_nil, or_false] at hx
  rcases hx with rfl | rfl | rfl | rfl <;> omega
def spScd : Sp := fun vs H Q _ => ∃ (pb p : Addr) (b : Bx) (c : Rat), vs = [.ref pb, .ref p] ∧ BoxR H pb b ∧ FrR H p c ∧ Sb 7 13 c ∧ BxW b ∧ ∀ t H', Same H H' → TupR FrR H' t ((bxL b).map fun (x : Int) => (x : Rat) * c) → Q (.ref t) H'
theorem scSd : FnScope ["_law_box", "_law_scale"] ["_law_box", "_law_scale"] (defScope s_law_scaled) := ⟨rfl, rfl, rfl, by decide +kernel, rfl, by decide +kernel, by decide +kernel⟩
theorem ndPS : (["_law_part", "_law_scale"] : List Str).Nodup := by decide +kernel
theorem ok_scd (F : Fun K "_law_scaled" "_law_scaled" s_law_scaled f fd) (G : FnOk P w K mg base CX0 2 g gd ["_law_number", "_law_scale"] spScO) (bG : Binds K gd ["_law_number", "_law_scale"] []) (kG : PySem.W.keepIn K (.ref g) = true) (mG : mg "_law_scaled_one" = some (.ref g)) (mt : mg "tuple" = none) :
    FnOk P w K mg base CX0 3 f fd ["_law_box", "_law_scale"] spScd := by
  refine F.ok scSd (fun vs H Q E h => ?_) (fun cdv A outer s H vs Q E hr h => ?_)
  · obtain ⟨pb, p, b, c, rfl, _⟩ := h
    rfl
  obtain ⟨pb, p, b, c, rfl, hb, hp, sc, bw, q⟩ := h
  refine ⟨_, pss_one (ps_ret (pe_callTy call_tuple_of (by rfl) mt bt_tuple (pa_cons (pe_comp (Nc := ["_law_part", "_law_scale"]) (cap := [(1, 1)]) (g := gName 0) (te := tCall spScO [] E0 (tCons (tVar 0) (tCons (tVar 1) tNil))) rfl (pi_tup (pv 0))
      (comp_mk rfl rfl (by decide +kernel) (by decide +kernel) (List.forall_mem_cons.mpr ⟨⟨rfl, rfl⟩, List.forall_mem_nil _⟩) rfl (List.forall_mem_cons.mpr ⟨⟨_, _, rfl, rfl, rfl, rfl, rfl⟩, List.forall_mem_nil _⟩))
      (fun C fp pins s' H' => pg_name (i := 0) ndPS rfl (Or.inl rfl)) (fun C fp pins s' H' => pe_call G hr (by rfl) mG kG bG .nil pass0 (pa_cons (pv 0) (pa_cons (pv 1) pa_nil)))) pa_nil))), ?_⟩
  have hb' : H pb = some (.tup ((bxL b).map V.int)) := hb
  refine ⟨_, rfl, pb, rfl, ⟨_, SqT.of hb'⟩, fun acc hacc => ?_⟩
  refine comp_run (run_tup hb') (by show 4 ≤ 1000; decide) hacc (fun i ys σ hp => ∃ es : List Addr, ys = es.map V.ref ∧ At FrR hp es (((bxL b).map fun (x : Int) => (x : Rat) * c).take i) ∧ ∃ u, σ = [u, some (.ref p)]) ⟨[], rfl, At.nil, none, rfl⟩ ?_ ?_
  · rintro i ys σ H2 x H3 hi sm hacc2 ⟨es, rfl, hE, u, rfl⟩ ⟨rfl, hx⟩ Cc hC
    obtain ⟨e, rfl, he⟩ := ints_at hx
    refine ⟨_, rfl, _, rfl, e, p, c, rfl, sm _ _ hp, sc, bw e (List.mem_of_getElem? he), fun t ht => ?_⟩
    have st := same_new ht (.tup [.int ((e : Rat) * c).num, .int ((e : Rat) * c).den])
    refine hC _ _ _ st ⟨es ++ [t], by simp, ?_, _, rfl⟩
    have ec : ((bxL b).map fun (x : Int) => (x : Rat) * c)[i]? = some ((e : Rat) * c) := by rw [List.getElem?_map, he]; rfl
    rw [take_succ_of ec]
    exact (hE.keep mo_fr (del_mono acc st)).snoc (FrR.del (q := (e : Rat) * c) upd_same (st _ _ hacc2))
  rintro ys σ H2 s2 hacc2 hl2 ⟨es, rfl, hE, u, rfl⟩
  rw [List.take_of_length_le (by simp)] at hE
  refine ⟨acc, _, rfl, .inl ⟨SqL.of hacc2, fun t ht => ?_⟩⟩
  have st := same_new ht (.tup (es.map V.ref))
  exact q t _ (s2.trans st) ⟨es, upd_same, (hE.keep mo_fr (del_sub H2 acc)).keep mo_fr st⟩
/-- the rows of a floor of boxes -/
abbrev rowsOf (c : Rat) (bs : List Bx) : List (List Rat) := bs.map fun b => (bxL b).map fun (x : Int) => (x : Rat) * c
def spFlo : Sp := fun vs H Q _ => ∃ (pb p : Addr) (bs : List Bx) (wd hg : Int) (c : Rat), vs = [.ref pb, .int wd, .int hg, .ref p] ∧ LstR BoxR H pb bs ∧ bs.length ≤ 40 ∧ FrR H p c ∧ Sb 7 13 c ∧ wd.natAbs ≤ 2 ^ 15 ∧ hg.natAbs ≤ 2 ^ 15 ∧ (∀ b ∈ bs, BxW b) ∧
  ∀ t H', Same H H' → FloorR H' t ((wd : Rat) * c) ((hg : Rat) * c) (rowsOf c bs) → Q (.ref t) H'
theorem scFo : FnScope ["_law_boxes", "_law_wide", "_law_high", "_law_scale", "_law_rectangles"] ["_law_boxes", "_law_wide", "_law_high", "_law_scale"] (defScope s_law_floor_of) := ⟨rfl, rfl, rfl, by decide +kernel, rfl, by decide +kernel, by decide +kernel⟩
theorem ndBS : (["_law_box", "_law_scale"] : List Str).Nodup := by decide +kernel
theorem ok_flo (F : Fun K "_law_floor_of" "_law_floor_of" s_law_floor_of f fd) (G1 : FnOk P w K mg base CX0 2 f1 d1 ["_law_number", "_law_scale"] spScO) (b1 : Binds K d1 ["_law_number", "_law_scale"] []) (k1 : PySem.W.keepIn K (.ref f1) = true) (m1 : mg "_law_scaled_one" = some (.ref f1))
    (G2 : FnOk P w K mg base CX0 3 f2 d2 ["_law_box", "_law_scale"] spScd) (b2 : Binds K d2 ["_law_box", "_law_scale"] []) (k2 : PySem.W.keepIn K (.ref f2) = true) (m2 : mg "_law_scaled" = some (.ref f2)) (mt : mg "tuple" = none) :
    FnOk P w K mg base CX0 4 f fd ["_law_boxes", "_law_wide", "_law_high", "_law_scale"] spFlo := by
  refine F.ok scFo (fun vs H Q E h => ?_) (fun cdv A outer s H vs Q E hr h => ?_)
  · obtain ⟨pb, p, bs, wd, hg, c, rfl, _⟩ := h
    rfl
  obtain ⟨pb, p, bs, wd, hg, c, rfl, ⟨cs, hb, hC⟩, hl, hp, sc, nw, nh, bw, q⟩ := h
  have hr2 := hr.mono (show 2 ≤ 3 by decide)
  refine ⟨_, pss_cons (ps_setComp (i := 4) scFo.nd rfl (Or.inl rfl) (Nc := ["_law_box", "_law_scale"]) (cap := [(1, 3)]) (g := gName 0) (te := tCall spScd [] E0 (tCons (tVar 0) (tCons (tVar 1) tNil))) rfl (pi_list (pv 0))
      (comp_mk rfl rfl (by decide +kernel) (by decide +kernel) (List.forall_mem_cons.mpr ⟨⟨rfl, rfl⟩, List.forall_mem_nil _⟩) rfl (List.forall_mem_cons.mpr ⟨⟨_, _, rfl, rfl, rfl, rfl, rfl⟩, List.forall_mem_nil _⟩))
      (fun C fp pins s' H' => pg_name (i := 0) ndBS rfl (Or.inl rfl)) (fun C fp pins s' H' => pe_call G2 hr (by rfl) m2 k2 b2 .nil pass0 (pa_cons (pv 0) (pa_cons (pv 1) pa_nil))))
    (pss_one (ps_ret (pe_tup (pa_cons (pe_call G1 hr2 (by rfl) m1 k1 b1 .nil pass0 (pa_cons (pv 1) (pa_cons (pv 3) pa_nil))) (pa_cons (pe_call G1 hr2 (by rfl) m1 k1 b1 .nil pass0 (pa_cons (pv 2) (pa_cons (pv 3) pa_nil))) (pa_cons (pe_callTy call_tuple_of (by rfl) mt bt_tuple (pa_cons (pv 4) pa_nil)) pa_nil)))))), ?_⟩
  have lc : cs.length = bs.length := hC.1
  refine ⟨_, rfl, pb, rfl, ⟨_, SqL.of hb⟩, fun acc hacc => ?_⟩
  refine comp_run (run_list hb) (by rw [List.length_map]; omega) hacc (fun i ys σ hp => ∃ es : List Addr, ys = es.map V.ref ∧ At (TupR FrR) hp es ((rowsOf c bs).take i) ∧ ∃ u, σ = [u, some (.ref p)]) ⟨[], rfl, At.nil, none, rfl⟩ ?_ ?_
  · rintro i ys σ H2 x H3 hi sm hacc2 ⟨es, rfl, hE, u, rfl⟩ ⟨rfl, hx⟩ Cc hCc
    obtain ⟨d, b, rfl, _, hy, fb⟩ := hC.ref hx
    refine ⟨_, rfl, _, rfl, d, p, b, c, rfl, sm _ _ fb, sm _ _ hp, sc, bw b (List.mem_of_getElem? hy), fun t H4 st ht => ?_⟩
    refine hCc _ _ _ st ⟨es ++ [t], by simp, ?_, _, rfl⟩
    have ec : (rowsOf c bs)[i]? = some ((bxL b).map fun (x : Int) => (x : Rat) * c) := by rw [List.getElem?_map, hy]; rfl
    rw [take_succ_of ec]
    exact (hE.keep mo_tf (del_mono acc st)).snoc (tfd ht (st _ _ hacc2))
  rintro ys σ H2 s2 hacc2 hl2 ⟨es, rfl, hE, u, rfl⟩
  rw [List.length_map, lc, List.take_of_length_le (by rw [List.length_map]; omega)] at hE
  refine ⟨_, rfl, _, rfl, wd, p, c, rfl, s2 _ _ hp, sc, nw, fun t1 ht1 => ?_⟩
  have v1 := same_new ht1 (.tup [.int ((wd : Rat) * c).num, .int ((wd : Rat) * c).den])
  have f1' : FrR (upd H2 t1 (.tup [.int ((wd : Rat) * c).num, .int ((wd : Rat) * c).den])) t1 ((wd : Rat) * c) := upd_same
  generalize upd H2 t1 (.tup [.int ((wd : Rat) * c).num, .int ((wd : Rat) * c).den]) = H3 at v1 f1'
  refine ⟨_, rfl, _, rfl, hg, p, c, rfl, (s2.trans v1) _ _ hp, sc, nh, fun t2 ht2 => ?_⟩
  have v2 := same_new ht2 (.tup [.int ((hg : Rat) * c).num, .int ((hg : Rat) * c).den])
  have f2' : FrR (upd H3 t2 (.tup [.int ((hg : Rat) * c).num, .int ((hg : Rat) * c).den])) t2 ((hg : Rat) * c) := upd_same
  generalize upd H3 t2 (.tup [.int ((hg : Rat) * c).num, .int ((hg : Rat) * c).den]) = H4 at v2 f2'
  have v12 := v1.trans v2
  refine ⟨_, rfl, acc, _, rfl, .inl ⟨SqL.of (v12 _ _ hacc2), fun t3 ht3 => ?_⟩⟩
  have v3 := same_new ht3 (.tup (es.map V.ref))
  have f3' : TupR (TupR FrR) (upd H4 t3 (.tup (es.map V.ref))) t3 (rowsOf c bs) := ⟨es, upd_same, (hE.keep mo_tf (del_sub H2 acc)).keep mo_tf (v12.trans v3)⟩
  generalize upd H4 t3 (.tup (es.map V.ref)) = H5 at v3 f3'
  refine ⟨by show 3 ≤ sizeLine; decide, fun pp hpp => ?_⟩
  have v4 := same_new hpp (.tup [.ref t1, .ref t2, .ref t3])
  exact q pp _ (s2.trans (v12.trans (v3.trans v4))) ⟨t1, t2, t3, upd_same, (v2.trans (v3.trans v4)) _ _ f1', (v3.trans v4) _ _ f2', mo_tup (R := TupR FrR) (fun s h => mo_tf s h) v4 f3'⟩
end
end My
/-! k50: numbers, spoilt, shared, formed -/
namespace My
open PySem L2 Mth Wd
theorem box_upd {H : Hp} {a : Addr} {bs : List Addr} {xs : List Bx} {ys : List V} (h : At BoxR H bs xs) (e : H a = some (.lst ys)) (o : HO) : At BoxR (upd H a o) bs xs := ⟨h.1, fun i b x e1 e2 => mo_box (del_up H a o) ((h.2 i b x e1 e2).del e)⟩
section
variable {P : Program} {w : World} {K : PySem.W.Frag} {mg : Str → Option Value} {base : Heap} {f g h f1 f2 f3 : Addr} {fd gd hd d1 d2 d3 : FuncData}
theorem scLN : FnScope ["_law_floor", "_law_found", "_law_one"] ["_law_floor"] (defScope s_law_numbers) := ⟨rfl, rfl, rfl, by decide +kernel, rfl, by decide +kernel, by decide +kernel⟩
theorem ok_lnums (F : Fun K "_law_numbers" "_law_numbers" s_law_numbers f fd) (mli : mg "list" = none) : FnOk P w K mg base CX0 1 f fd ["_law_floor"] spNums := by
  refine F.ok scLN (fun vs H Q E h => ?_) (fun cdv A outer s H vs Q E hr h => ?_)
  · obtain ⟨a, W, U, rows, rfl, _⟩ := h
    rfl
  obtain ⟨a, W, U, rows, rfl, ⟨p, q0, r, ha, hW, hU, bs, hrr, hB⟩, hl, h4, q⟩ := h
  refine ⟨_, pss_cons (ps_set (i := 1) scLN.nd rfl (Or.inl rfl) (pe_lst (pa_cons (pe_ix ix_tup (pv 0) pe_int (fun _ _ => rfl)) (pa_cons (pe_ix ix_tup (pv 0) pe_int (fun _ _ => rfl)) pa_nil))))
    (pss_cons (ps_for PassesOwn.never rfl (pi_tup (pe_ix ix_tup (pv 0) pe_int (fun _ _ => rfl))) (pg_name (i := 2) scLN.nd rfl (Or.inl rfl))
      (pss_one (ps_expr (pe_bm PySem.F.plainAttrs_list PySem.F.slot_list_extend PySem.F.type_list_extend mt_extend (pv 1) (pa_cons (pe_callTy call_list_of (by rfl) mli bt_list (pa_cons (pv 2) pa_nil)) pa_nil)))))
    (pss_one (ps_ret (pv 1)))), ?_⟩
  refine ⟨_, rfl, a, _, _, _, rfl, rfl, SqT.of ha, t3_0 _ _ _, _, rfl, a, _, _, _, rfl, rfl, SqT.of ha, t3_1 _ _ _, by show 2 ≤ sizeLine; decide, fun L hL => ?_⟩
  have s1 := same_new hL (.lst [.ref p, .ref q0])
  have e1 : (upd H L (.lst [.ref p, .ref q0])) L = some (.lst ([p, q0].map V.ref)) := upd_same
  generalize upd H L (.lst [.ref p, .ref q0]) = H1 at s1 e1
  have lb : bs.length = rows.length := hB.1
  refine ⟨_, rfl, a, _, _, _, rfl, rfl, SqT.of (s1 _ _ ha), t3_2 _ _ _, r, rfl, ⟨_, SqT.of (s1 _ _ hrr)⟩, ?_⟩
  refine for_tup (xs := bs.map V.ref) (fun i σ H2 => Same H H2 ∧ ∃ (u : Option V) (cs : List Addr), σ = [some (.ref a), some (.ref L), u] ∧ H2 L = some (.lst (cs.map V.ref)) ∧ At FrR H2 cs (W :: U :: (rows.take i).flatten))
    ⟨s1, none, [p, q0], rfl, e1, (At.nil.snoc (R := FrR) (b := p) (x := W) (s1 _ _ hW)).snoc (b := q0) (x := U) (s1 _ _ hU)⟩ (fun i σ H2 _ ⟨s2, _⟩ => SqT.of (s2 _ _ hrr)) ?_ ?_
  · rintro i x σ H2 hx ⟨s2, u, cs, rfl, hcs, hC⟩
    obtain ⟨b, row, rfl, _, hrow, es, hes, hE⟩ := hB.ref hx
    have hi : i < rows.length := (List.getElem?_eq_some_iff.mp hrow).1
    have le : es.length = 4 := by rw [hE.1]; exact h4 row (List.mem_of_getElem? hrow)
    have lc : cs.length = 2 + 4 * i := by
      rw [hC.1, List.length_cons, List.length_cons, flat4 (fun x hx => h4 x (List.mem_of_mem_take hx)), List.length_take]; omega
    refine ⟨_, rfl, .inl ⟨rfl, _, SqL.of hcs⟩, _, rfl, b, _, rfl, .inr (SqT.of (s2 _ _ hes)), fun lf hlf => ?_⟩
    have s3 := same_new hlf (.lst (es.map V.ref))
    have e3 : (upd H2 lf (.lst (es.map V.ref))) lf = some (.lst (es.map V.ref)) := upd_same
    generalize upd H2 lf (.lst (es.map V.ref)) = H3 at s3 e3
    refine ⟨L, lf, _, _, rfl, rfl, s3 _ _ hcs, e3, by rw [List.length_map, List.length_map]; exact szle (by omega), ?_⟩
    refine ⟨same_up (s2.trans s3) hL _, _, cs ++ es, rfl, by rw [upd_same]; simp, ?_⟩
    have := (hC.keep mo_fr s3).app (hE.keep mo_fr (s2.trans s3))
    rw [take_succ_of hrow, List.flatten_append, List.flatten_cons, List.flatten_nil, List.append_nil]
    exact fr_upd this (s3 _ _ hcs) _
  · rintro σ H2 ⟨s2, u, cs, rfl, hcs, hC⟩
    rw [List.length_map, lb, List.take_length] at hC
    exact ⟨_, rfl, q L H2 s2 ⟨cs, hcs, hC⟩⟩
def spSpo (K : PySem.W.Frag) : Sp := fun vs H Q _ => ∃ (a pb : Addr) (ns : List Int) (bs : List Bx), vs = [.ref a, .ref pb] ∧ ScA K H a ns ∧ LstR BoxR H pb bs ∧ bs.length ≤ 12 ∧ (∀ b ∈ bs, BxK b) ∧ BxsQ H Q 0 12
theorem scSp : FnScope ["_law_script", "_law_boxes", "_law_found", "_law_k", "_law_box", "_law_cell"] ["_law_script", "_law_boxes"] (defScope s_law_spoilt) := ⟨rfl, rfl, rfl, by decide +kernel, rfl, by decide +kernel, by decide +kernel⟩
set_option maxHeartbeats 4000000 in
theorem ok_spoilt (F : Fun K "_law_spoilt" "_law_spoilt" s_law_spoilt f fd) (G1 : FnOk P w K mg base CX0 1 f1 d1 ["_law_script", "_law_k"] (spCell K)) (b1 : Binds K d1 ["_law_script", "_law_k"] []) (k1 : PySem.W.keepIn K (.ref f1) = true) (m1 : mg "_law_cell_at" = some (.ref f1)) (me : mg "enumerate" = none) :
    FnOk P w K mg base CX0 2 f fd ["_law_script", "_law_boxes"] (spSpo K) := by
  refine F.ok scSp (fun vs H Q E h => ?_) (fun cdv A outer s H vs Q E hr h => ?_)
  · obtain ⟨a, pb, ns, bs, rfl, _⟩ := h
    rfl
  obtain ⟨a, pb, ns, bs, rfl, hS, ⟨cs, hb, hC⟩, n12, kb, q⟩ := h
  refine ⟨_, pss_cons (ps_set (i := 2) scSp.nd rfl (Or.inl rfl) (pe_lst pa_nil))
    (pss_cons (ps_for PassesOwn.never rfl (pi_enumL (by rfl) me (pa_cons (pv 1) pa_nil)) (pg_tup rfl (pgs_cons (pg_name (i := 3) scSp.nd rfl (Or.inl rfl)) (pgs_cons (pg_name (i := 4) scSp.nd rfl (Or.inl rfl)) pgs_nil)))
      (pss_cons (ps_set (i := 5) scSp.nd rfl (Or.inl rfl) (pe_op op_mod (pe_call G1 hr (by rfl) m1 k1 b1 .nil pass0 (pa_cons (pv 0) (pa_cons (pe_op op_add pe_int (pv 3)) pa_nil))) pe_int))
      (pss_one (ps_if (pt_cmpR op_eq (pv 5) pe_int (nomark _))
        (pss_one (ps_expr (pe_bm PySem.F.plainAttrs_list PySem.F.slot_list_append PySem.F.type_list_append mt_append (pv 2) (pa_cons (pe_tup (pa_cons (pe_ix ix_tup (pv 4) pe_int (fun _ _ => rfl)) (pa_cons (pe_ix ix_tup (pv 4) pe_int (fun _ _ => rfl)) (pa_cons (pe_ix ix_tup (pv 4) pe_int (fun _ _ => rfl)) (pa_cons (pe_ix ix_tup (pv 4) pe_int (fun _ _ => rfl)) pa_nil))))) pa_nil))))
        (pss_one (ps_if (pt_cmpR op_lt (pv 5) pe_int (nomark _))
          (pss_one (ps_expr (pe_bm PySem.F.plainAttrs_list PySem.F.slot_list_append PySem.F.type_list_append mt_append (pv 2) (pa_cons (pv 4) pa_nil)))) pss_nil))))))
    (pss_one (ps_ret (pv 2)))), ?_⟩
  refine ⟨by show 0 ≤ sizeLine; decide, fun L hL => ?_⟩
  obtain ⟨H1, e1, s1, g1⟩ := new_lst hL []
  rw [e1]
  have lc : cs.length = bs.length := hC.1
  refine ⟨_, rfl, pb, _, rfl, s1 _ _ hb, ?_⟩
  refine for_enumL (xs := cs.map V.ref) (fun i σ H3 => Same H H3 ∧ ∃ (ds : List Addr) (fs : List Bx) (u3 u4 u5 : Option V), σ = [some (.ref a), some (.ref pb), some (.ref L), u3, u4, u5] ∧ H3 L = some (.lst (ds.map V.ref)) ∧ At BoxR H3 ds fs ∧ fs.length ≤ i ∧ ∀ b ∈ fs, BxK b)
    ⟨s1, [], [], none, none, none, rfl, g1, At.nil, Nat.le_refl _, by simp⟩ (fun i σ H3 _ ⟨s3, _⟩ => s3 _ _ hb) ?_ ?_
  · rintro i x σ H3 p hx ⟨s3, ds, fs, u3, u4, u5, rfl, hds, hD, nf, kf⟩ hp
    obtain ⟨c, b, rfl, _, hy, fb⟩ := hC.ref hx
    have bi : i < bs.length := (List.getElem?_eq_some_iff.mp hy).1
    have kbb := kb b (List.mem_of_getElem? hy)
    have ld : ds.length = fs.length := hD.1
    have s4 := same_new hp (.tup [.int ((i : Nat) : Int), .ref c])
    have g4 : (upd H3 p (.tup [.int ((i : Nat) : Int), .ref c])) p = some (.tup [.int ((i : Nat) : Int), .ref c]) := upd_same
    generalize upd H3 p (.tup [.int ((i : Nat) : Int), .ref c]) = H4 at s4 g4
    have s34 := s3.trans s4
    have fb4 : BoxR H4 c b := s34 _ _ fb
    have hds4 := s4 _ _ hds
    have hD4 := hD.keep mo_box s4
    refine ⟨p, _, rfl, SqT.of g4, rfl, _, _, rfl, _, _, rfl, rfl, ?_⟩
    refine ⟨_, rfl, _, rfl, _, _, rfl, rfl, a, ns, _, rfl, ⟨s34.seq hS.1, hS.2⟩, by omega, fun z hz => ⟨_, _, rfl, rfl, (show (0 : Int) < 5 by decide), ?_⟩⟩
    refine ⟨_, rfl, rfl, _, rfl, ?_⟩
    refine ite2 (fun _ => ?_) (fun _ => ?_)
    · refine ⟨_, rfl, .inl ⟨rfl, _, SqL.of hds4⟩, _, rfl, c, _, _, _, rfl, rfl, SqT.of fb4, t4_0 _ _ _ _, _, rfl, c, _, _, _, rfl, rfl, SqT.of fb4, t4_1 _ _ _ _, _, rfl, c, _, _, _, rfl, rfl, SqT.of fb4, t4_0 _ _ _ _, _, rfl, c, _, _, _, rfl, rfl, SqT.of fb4, t4_1 _ _ _ _, by show 4 ≤ sizeLine; decide, fun c2 hc2 => ?_⟩
      obtain ⟨H5, e5, s5, g5⟩ := new_box hc2 b.1 b.2.1 b.1 b.2.1
      rw [e5]
      refine ⟨L, _, _, rfl, rfl, s5 _ _ hds4, by rw [List.length_map]; exact szl (by omega), ?_⟩
      refine ⟨same_up (s34.trans s5) hL _, ds ++ [c2], fs ++ [(b.1, b.2.1, b.1, b.2.1)], _, _, _, rfl, by rw [upd_same]; simp, box_upd ((hD4.keep mo_box s5).snoc g5) (s5 _ _ hds4) _, by simp; omega, fun b' hb' => ?_⟩
      rcases List.mem_append.mp hb' with y | y
      · exact kf _ y
      · rw [List.mem_singleton.mp y]; exact ⟨kbb.1, kbb.2.1, kbb.1, kbb.2.1⟩
    · refine ⟨_, rfl, _, _, rfl, rfl, _, rfl, ?_⟩
      refine ite2 (fun _ => ?_) (fun _ => ?_)
      · refine ⟨_, rfl, .inl ⟨rfl, _, SqL.of hds4⟩, _, rfl, L, _, _, rfl, rfl, hds4, by rw [List.length_map]; exact szl (by omega), ?_⟩
        refine ⟨same_up s34 hL _, ds ++ [c], fs ++ [b], _, _, _, rfl, by rw [upd_same]; simp, box_upd (hD4.snoc fb4) hds4 _, by simp; omega, fun b' hb' => ?_⟩
        rcases List.mem_append.mp hb' with y | y
        · exact kf _ y
        · rw [List.mem_singleton.mp y]; exact kbb
      · exact ⟨s34, ds, fs, _, _, _, rfl, hds4, hD4, by omega, kf⟩
  · rintro σ H3 ⟨s3, ds, fs, u3, u4, u5, rfl, hds, hD, nf, kf⟩
    rw [List.length_map, lc] at nf
    exact ⟨_, rfl, q L H3 fs s3 ⟨ds, hds, hD⟩ (by omega) (by omega) kf⟩
def spShd : Sp := fun vs H Q _ => ∃ a b : Int, vs = [.int a, .int b] ∧ 0 ≤ a ∧ 0 ≤ b ∧ Q (.int (Int.gcd a b : Int)) H
theorem scSh : FnScope ["_law_one", "_law_other", "_law_rest"] ["_law_one", "_law_other"] (defScope s_law_shared) := ⟨rfl, rfl, rfl, by decide +kernel, rfl, by decide +kernel, by decide +kernel⟩
theorem ok_shared (F : Fun K "_law_shared" "_law_shared" s_law_shared f fd) : FnOk P w K mg base CX0 1 f fd ["_law_one", "_law_other"] spShd := by
  refine F.ok scSh (fun vs H Q E h => ?_) (fun cdv A outer s H vs Q E hr h => ?_)
  · obtain ⟨a, b, rfl, _⟩ := h
    rfl
  obtain ⟨a, b, rfl, a0, b0, q⟩ := h
  refine ⟨_, pss_cons (ps_while PassesOwn.never (pt_cmpR op_gt (pv 1) pe_int (nomark _))
      (pss_cons (ps_set (i := 2) scSh.nd rfl (Or.inl rfl) (pe_op op_mod (pv 0) (pv 1)))
      (pss_cons (ps_set (i := 0) scSh.nd rfl (Or.inl rfl) (pv 1))
      (pss_one (ps_set (i := 1) scSh.nd rfl (Or.inl rfl) (pv 2))))))
    (pss_one (ps_ret (pv 0))), ?_⟩
  refine while_by (fun σ H2 => ∃ x y r, σ = [some (.int x), some (.int y), r] ∧ H2 = H ∧ 0 ≤ x ∧ 0 ≤ y ∧ Int.gcd x y = Int.gcd a b) (fun σ _ => match σ with | [_, some (.int y), _] => y.natAbs | _ => 0) ⟨a, b, none, rfl, rfl, a0, b0, rfl⟩ ?_ ?_
  · rintro σ H2 ⟨x, y, r, rfl, rfl, x0, y0, gg⟩
    refine ⟨_, rfl, _, _, rfl, rfl, _, rfl, ?_⟩
    by_cases hy : (0 : Int) < y
    · refine iteDT hy ?_
      have m0 := Int.emod_nonneg x (Int.ne_of_gt hy)
      have m1 := Int.emod_lt_of_pos x hy
      refine ⟨_, rfl, _, rfl, _, _, rfl, rfl, hy, _, rfl, _, rfl, ⟨y, x % y, _, rfl, rfl, y0, m0, (emod_gcd hy).trans gg⟩, ?_⟩
      show (x % y).natAbs < y.natAbs
      omega
    · refine iteDF hy ?_
      have hy : y = 0 := by omega
      subst hy
      have gx : x = (Int.gcd a b : Int) := by
        have := abs_gcd gg
        rw [if_neg (by omega)] at this
        exact this
      refine ⟨_, rfl, ?_⟩
      rw [gx]
      exact q
  · rintro σ H2 Q1 Q2 hq ⟨v, e, i, j, e1, e2, b, eb, z⟩
    exact ⟨v, e, i, j, e1, e2, b, eb, hq _ _ z⟩
def rLenS (K : PySem.W.Frag) : List V → Hp → VK → Prop := fun xs H Q => ∃ p ys, xs = [.ref p] ∧ (SqL K H p ys ∨ SqT K H p ys) ∧ Q (.int ys.length) H
def spFmd : Sp := fun vs H Q _ => ∃ (a : Addr) (W U : Rat) (rows : List (List Rat)) (m : Int), vs = [.ref a, .int m] ∧ FloorR H a W U rows ∧ m = rows.length ∧ rows.length ≤ 40 ∧ (∀ r ∈ rows, r.length = 4) ∧ (∀ q ∈ nums W U rows, q.den = 1) ∧ 0 < W ∧ 0 < U ∧ ∀ H', Same H H' → Q (.bl true) H'
theorem scFm : FnScope ["_law_floor", "_law_many", "_law_a"] ["_law_floor", "_law_many"] (defScope s_law_formed) := ⟨rfl, rfl, rfl, by decide +kernel, rfl, by decide +kernel, by decide +kernel⟩
theorem ndOne : (["_law_one"] : List Str).Nodup := by decide +kernel
theorem num_pos {q : Rat} (h : 0 < q) : (0 : Int) < q.num := by
  rcases Int.lt_or_le 0 q.num with z | z
  · exact z
  · exfalso
    have h2 : (0 : Int) ≤ (-q).num := by rw [Rat.neg_num]; omega
    have h3 : 0 ≤ -q := Rat.num_nonneg.mp h2
    have : q ≤ 0 := by grind
    grind
set_option maxHeartbeats 4000000 in
theorem ok_formed (F : Fun K "_law_formed" "_law_formed" s_law_formed f fd) (G1 : FnOk P w K mg base CX0 1 f1 d1 ["_law_floor"] spNums) (b1 : Binds K d1 ["_law_floor"] []) (k1 : PySem.W.keepIn K (.ref f1) = true) (m1 : mg "_law_numbers" = some (.ref f1))
    (ms : mg "isinstance" = none) (mt : mg "tuple" = none) (mi : mg "int" = none) (mb : mg "bool" = none) (ml : mg "len" = none) (ma : mg "all" = none) : FnOk P w K mg base CX0 2 f fd ["_law_floor", "_law_many"] spFmd := by
  refine F.ok scFm (fun vs H Q E h => ?_) (fun cdv A outer s H vs Q E hr h => ?_)
  · obtain ⟨a, W, U, rows, m, rfl, _⟩ := h
    rfl
  obtain ⟨a, W, U, rows, m, rfl, hF, rfl, hl, h4, hd, w0, u0, q⟩ := h
  obtain ⟨p, q0, r, ha, hW, hU, bs, hrr, hB⟩ := id hF
  refine ⟨_, pss_cons (ps_if (PW.pt (pw_or (pt_not (pt_val (pe_callB (call_isi (c := .ty "tuple") (cv := .type "tuple") fun _ z => z) (by rfl) ms bt_isinstance (pa_cons (pv 0) (pa_cons (pe_bltn (v := .ty "tuple") (by rfl) mt bt_tuple rfl) pa_nil)))))
        (pw_or (pt_cmpR op_ne (pe_callB call_len_seq (by rfl) ml bt_len (pa_cons (pv 0) pa_nil)) pe_int (nomark _))
        (pw_or (pt_not (pt_val (pe_callB (call_isi (c := .ty "tuple") (cv := .type "tuple") fun _ z => z) (by rfl) ms bt_isinstance (pa_cons (pe_ix ix_tup (pv 0) pe_int (fun _ _ => rfl)) (pa_cons (pe_bltn (v := .ty "tuple") (by rfl) mt bt_tuple rfl) pa_nil)))))
        (pw_or1 (pt_cmpR op_ne (pe_callB call_len_seq (by rfl) ml bt_len (pa_cons (pe_ix ix_tup (pv 0) pe_int (fun _ _ => rfl)) pa_nil)) (pv 1) (nomark _))))))) (pss_one (ps_ret pe_bl)) pss_nil)
    (pss_cons (ps_if (pt_not (pt_val (pe_callB (call_allB rfl) (by rfl) ma bt_all (pa_cons (pe_comp (Nc := ["_law_one"]) (cap := []) (g := gName 0) (te := tAndV (tCB (rIsi K (.ty "tuple") (.type "tuple")) (tCons (tVar 0) (tCons (tC (.ty "tuple")) tNil))) (tOp rEq (tCB (rLenS K) (tCons (tVar 0) tNil)) (tC (.int 4)))) rfl (pi_tup (pe_ix ix_tup (pv 0) pe_int (fun _ _ => rfl)))
        (comp_mk rfl rfl (by decide +kernel) (by decide +kernel) (List.forall_mem_nil _) rfl (List.forall_mem_nil _)) (fun C fp pins s' H' => pg_name (i := 0) ndOne rfl (Or.inl rfl))
        (fun C fp pins s' H' => pe_and (pe_callB (call_isi (c := .ty "tuple") (cv := .type "tuple") fun _ z => z) (by rfl) ms bt_isinstance (pa_cons (pv 0) (pa_cons (pe_bltn (v := .ty "tuple") (by rfl) mt bt_tuple rfl) pa_nil))) (pe_one (pe_cmpR op_eq (pe_callB call_len_seq (by rfl) ml bt_len (pa_cons (pv 0) pa_nil)) pe_int (nomark _))))) pa_nil)))) (pss_one (ps_ret pe_bl)) pss_nil)
    (pss_cons (ps_for PassesOwn.never rfl (pi_list (pe_call G1 hr (by rfl) m1 k1 b1 .nil pass0 (pa_cons (pv 0) pa_nil))) (pg_name (i := 2) scFm.nd rfl (Or.inl rfl))
      (pss_one (ps_if (PW.pt (pw_or (pt_not (pt_val (pe_callB (call_isi (c := .ty "tuple") (cv := .type "tuple") fun _ z => z) (by rfl) ms bt_isinstance (pa_cons (pv 2) (pa_cons (pe_bltn (v := .ty "tuple") (by rfl) mt bt_tuple rfl) pa_nil)))))
        (pw_or (pt_cmpR op_ne (pe_callB call_len_seq (by rfl) ml bt_len (pa_cons (pv 2) pa_nil)) pe_int (nomark _))
        (pw_or (pt_cmpR op_ne (pe_ix ix_tup (pv 2) pe_int (fun _ _ => rfl)) pe_int (nomark _))
        (pw_or (pt_not (pt_val (pe_callB (call_isi (c := .ty "int") (cv := .type "int") fun _ z => z) (by rfl) ms bt_isinstance (pa_cons (pe_ix ix_tup (pv 2) pe_int (fun _ _ => rfl)) (pa_cons (pe_bltn (v := .ty "int") (by rfl) mi bt_int rfl) pa_nil)))))
        (pw_or1 (pt_val (pe_callB (call_isi (c := .ty "bool") (cv := .type "bool") fun _ z => z) (by rfl) ms bt_isinstance (pa_cons (pe_ix ix_tup (pv 2) pe_int (fun _ _ => rfl)) (pa_cons (pe_bltn (v := .ty "bool") (by rfl) mb bt_bool rfl) pa_nil)))))))))) (pss_one (ps_ret pe_bl)) pss_nil)))
    (pss_one (ps_ret (pe_and (pe_cmpR op_gt (pe_ix ix_tup (pe_ix ix_tup (pv 0) pe_int (fun _ _ => rfl)) pe_int (fun _ _ => rfl)) pe_int (nomark _)) (pe_one (pe_cmpR op_gt (pe_ix ix_tup (pe_ix ix_tup (pv 0) pe_int (fun _ _ => rfl)) pe_int (fun _ _ => rfl)) pe_int (nomark _)))))))), ?_⟩
  have lb : bs.length = rows.length := hB.1
  refine ⟨_, rfl, _, _, _, rfl, TyOf.tup ha, kit_self K _, _, rfl, iteF ?_⟩
  refine ⟨_, rfl, a, _, rfl, .inr (SqT.of ha), rfl, _, rfl, iteF ?_⟩
  refine ⟨_, rfl, a, _, _, _, rfl, rfl, SqT.of ha, t3_2 _ _ _, _, _, _, rfl, TyOf.tup hrr, kit_self K _, _, rfl, iteF ?_⟩
  refine ⟨_, rfl, a, _, _, _, rfl, rfl, SqT.of ha, t3_2 _ _ _, r, _, rfl, .inr (SqT.of hrr), _, rfl, rfl, _, rfl, ?_⟩
  refine iteNS (by rw [List.length_map, lb]) ?_
  -- all are of four
  refine ⟨_, rfl, a, _, _, _, rfl, rfl, SqT.of ha, t3_2 _ _ _, r, rfl, ⟨_, SqT.of hrr⟩, fun acc hacc => ?_⟩
  refine comp_run (run_tup hrr) (by rw [List.length_map, lb]; omega) hacc (fun i ys σ _ => ys = (List.replicate i true).map V.bl ∧ ∃ u, σ = [u]) ⟨rfl, none, rfl⟩ ?_ ?_
  · rintro i ys σ H2 x H3 hi sm hacc2 ⟨hys, u, rfl⟩ ⟨rfl, hx⟩ Cc hC
    obtain ⟨c, row, rfl, _, hy, es, hes, hE⟩ := hB.ref hx
    have le : (es.map V.ref).length = 4 := by rw [List.length_map, hE.1]; exact h4 row (List.mem_of_getElem? hy)
    have hes2 := sm _ _ hes
    refine ⟨_, rfl, _, _, _, rfl, TyOf.tup hes2, kit_self K _, _, rfl, iteT ?_⟩
    refine ⟨_, rfl, c, _, rfl, .inr (SqT.of hes2), rfl, ?_⟩
    rw [le]
    refine hC _ _ _ (Same.refl _) ⟨?_, _, rfl⟩
    rw [hys, List.replicate_succ', List.map_append]; rfl
  rintro ys σ H2 s2 ha2 hl2 ⟨hys, _⟩
  refine ⟨acc, List.replicate (bs.map V.ref).length true, rfl, SqL.of (by rw [ha2, hys]), ?_⟩
  rw [show (List.replicate (bs.map V.ref).length true).all id = true by simp]
  refine ⟨_, rfl, iteF ?_⟩
  refine ⟨_, rfl, a, W, U, rows, rfl, mo_floor s2 hF, hl, h4, fun pn H3 s3 ⟨cs, hpn, hC⟩ => ⟨pn, rfl, ⟨_, SqL.of hpn⟩, ?_⟩⟩
  have s23 := s2.trans s3
  refine for_list (xs := cs.map V.ref) (fun i σ H4 => H4 = H3 ∧ ∃ u, σ = [some (.ref a), some (.int rows.length), u]) ⟨rfl, none, rfl⟩ (fun i σ H4 _ ⟨e, _⟩ => by rw [e]; exact SqL.of hpn) ?_ ?_
  · rintro i x σ H4 hx ⟨rfl, u, rfl⟩
    obtain ⟨c, y, rfl, _, hy, fc⟩ := hC.ref hx
    have yd : y.den = 1 := hd y (List.mem_of_getElem? hy)
    have fc' : H4 c = some (.tup [.int y.num, .int y.den]) := fc
    refine ⟨_, rfl, _, _, _, rfl, TyOf.tup fc', kit_self K _, _, rfl, iteF ?_⟩
    refine ⟨_, rfl, c, _, rfl, .inr (SqT.of fc'), rfl, _, rfl, iteF ?_⟩
    refine ⟨_, rfl, c, _, _, _, rfl, rfl, SqT.of fc', at1, rfl, _, rfl, iteNS (iv (by rw [yd]; rfl)) ?_⟩
    refine ⟨_, rfl, c, _, _, _, rfl, rfl, SqT.of fc', at0, _, _, _, rfl, TyOf.int _, kit_self K _, _, rfl, iteF ?_⟩
    refine ⟨_, rfl, c, _, _, _, rfl, rfl, SqT.of fc', at0, _, _, _, rfl, TyOf.int _, kit_int_bool K, _, rfl, iteF ?_⟩
    exact ⟨rfl, _, rfl⟩
  rintro σ H4 ⟨rfl, u, rfl⟩
  have ha4 := s23 _ _ ha
  have hW4 : H4 p = some (.tup [.int W.num, .int W.den]) := s23 _ _ hW
  have hU4 : H4 q0 = some (.tup [.int U.num, .int U.den]) := s23 _ _ hU
  refine ⟨_, rfl, a, _, _, _, rfl, rfl, SqT.of ha4, t3_0 _ _ _, p, _, _, _, rfl, rfl, SqT.of hW4, at0, _, _, rfl, rfl, _, rfl, iteDT (num_pos w0) ?_⟩
  refine ⟨_, rfl, a, _, _, _, rfl, rfl, SqT.of ha4, t3_1 _ _ _, q0, _, _, _, rfl, rfl, SqT.of hU4, at0, _, _, rfl, rfl, ?_⟩
  show Q (.bl (decide ((0 : Int) < U.num))) H4
  rw [decide_eq_true (num_pos u0)]
  exact q _ s23
end
end My
/-! k50: the law -/
namespace My
open PySem L2 Mth Wd
theorem int_rat_pos {n : Int} {c : Rat} (h : 0 < n) (g : 0 < c) : (0 : Rat) < (n : Rat) * c := Rat.mul_pos (int_pos h) g
theorem sb_scaled {n : Int} {c : Rat} (h : n.natAbs ≤ 2 ^ 15) (g : Sb 7 13 c) : Sb 30 16 ((n : Rat) * c) := by
  have : Sb 15 0 ((n : Int) : Rat) := ⟨by rw [Rat.num_intCast]; exact h, by rw [Rat.den_intCast]; decide⟩
  exact (this.mul g).mono (by omega) (by omega)
theorem rows_four (c : Rat) (bs : List Bx) : ∀ r ∈ rowsOf c bs, r.length = 4 := fun r hr => by
  obtain ⟨b, _, rfl⟩ := List.mem_map.mp hr
  rfl
theorem rows_sb {c : Rat} {bs : List Bx} (sc : Sb 7 13 c) (bw : ∀ b ∈ bs, BxW b) : ∀ q ∈ (rowsOf c bs).flatten, Sb 30 16 q := fun q hq => by
  obtain ⟨r, hr, hq⟩ := List.mem_flatten.mp hq
  obtain ⟨b, hb, rfl⟩ := List.mem_map.mp hr
  obtain ⟨x, hx, rfl⟩ := List.mem_map.mp hq
  exact sb_scaled (bw b hb x hx) sc
theorem div_pos' {t b : Int} (h : 0 < t) (g : 0 < b) : (0 : Rat) < (t : Rat) / (b : Rat) := by
  rw [Rat.div_def]
  exact Rat.mul_pos (int_pos h) (Rat.inv_pos.mpr (int_pos g))
theorem sb_low {t b : Int} {n d : Nat} (hb : 0 < b) (h1 : t.natAbs ≤ 2 ^ n) (h2 : b.natAbs ≤ 2 ^ d) : Sb n d ((t : Rat) / (b : Rat)) := sb_of (by omega) h1 h2 (frac_rat t b (by omega))
section
variable {P : Program} {w : World} {K : PySem.W.Frag} {mg : Str → Option Value} {base : Heap} {f f1 f2 f3 f4 f5 f6 f7 f8 f9 f10 : Addr} {fd d1 d2 d3 d4 d5 d6 d7 d8 d9 d10 : FuncData}
def spLaw (K : PySem.W.Frag) : Sp := fun vs H Q _ => ∃ (a : Addr) (ns : List Int), vs = [.ref a] ∧ SqL K H a (ns.map V.int) ∧ ns.length ≤ 63 ∧ ∀ H', Q (.bl true) H'
theorem scLw : FnScope ["_law_script", "_law_wide", "_law_high", "_law_boxes", "_law_away", "_law_scale", "_law_floor", "_law_found", "_law_shared_here", "_law_a", "_law_b"] ["_law_script"] (defScope sLaw) := ⟨rfl, rfl, rfl, by decide +kernel, rfl, by decide +kernel, by decide +kernel⟩
theorem ndBA : (["_law_box", "_law_away"] : List Str).Nodup := by decide +kernel
abbrev tIx (K : PySem.W.Frag) (i : Nat) (j : Int) : TE := tOp (rIxT K) (tVar i) (tC (.int j))
abbrev tSub (a b : TE) : TE := tOp (rI0 fun i j => .int (i - j)) a b
abbrev tMulI (a b : TE) : TE := tOp (rI CMul fun i j => .int (i * j)) a b
set_option maxHeartbeats 8000000 in
seal L2.PSs L2.PS L2.PE L2.PA in
theorem ok_law (F : Fun K "law" "law" sLaw f fd) (G1 : FnOk P w K mg base CX0 1 f1 d1 ["_law_script", "_law_k"] (spCell K)) (b1 : Binds K d1 ["_law_script", "_law_k"] []) (k1 : PySem.W.keepIn K (.ref f1) = true) (m1 : mg "_law_cell_at" = some (.ref f1))
    (G2 : FnOk P w K mg base CX0 1 f2 d2 ["_law_cell"] spSide) (b2 : Binds K d2 ["_law_cell"] []) (k2 : PySem.W.keepIn K (.ref f2) = true) (m2 : mg "_law_side" = some (.ref f2))
    (G3 : FnOk P w K mg base CX0 2 f3 d3 ["_law_script", "_law_boxes"] (spSpo K)) (b3 : Binds K d3 ["_law_script", "_law_boxes"] []) (k3 : PySem.W.keepIn K (.ref f3) = true) (m3 : mg "_law_spoilt" = some (.ref f3))
    (G4 : FnOk P w K mg base CX0 3 f4 d4 ["_law_script", "_law_first", "_law_last", "_law_wide", "_law_high", "_law_most"] (spBuilt K)) (b4 : Binds K d4 ["_law_script", "_law_first", "_law_last", "_law_wide", "_law_high", "_law_most"] []) (k4 : PySem.W.keepIn K (.ref f4) = true) (m4 : mg "_law_built" = some (.ref f4))
    (G5 : FnOk P w K mg base CX0 1 f5 d5 ["_law_top", "_law_bottom"] spLow) (b5 : Binds K d5 ["_law_top", "_law_bottom"] []) (k5 : PySem.W.keepIn K (.ref f5) = true) (m5 : mg "_law_lowest" = some (.ref f5))
    (G6 : FnOk P w K mg base CX0 4 f6 d6 ["_law_boxes", "_law_wide", "_law_high", "_law_scale"] spFlo) (b6 : Binds K d6 ["_law_boxes", "_law_wide", "_law_high", "_law_scale"] []) (k6 : PySem.W.keepIn K (.ref f6) = true) (m6 : mg "_law_floor_of" = some (.ref f6))
    (G7 : FnOk P w K mg base CX0 3 f7 d7 ["floor"] spBrt) (b7 : Binds K d7 ["floor"] []) (k7 : PySem.W.keepIn K (.ref f7) = true) (m7 : mg "brought" = some (.ref f7))
    (G8 : FnOk P w K mg base CX0 2 f8 d8 ["_law_floor", "_law_many"] spFmd) (b8 : Binds K d8 ["_law_floor", "_law_many"] []) (k8 : PySem.W.keepIn K (.ref f8) = true) (m8 : mg "_law_formed" = some (.ref f8))
    (G9 : FnOk P w K mg base CX0 1 f9 d9 ["_law_floor"] spNums) (b9 : Binds K d9 ["_law_floor"] []) (k9 : PySem.W.keepIn K (.ref f9) = true) (m9 : mg "_law_numbers" = some (.ref f9))
    (G10 : FnOk P w K mg base CX0 1 f10 d10 ["_law_one", "_law_other"] spShd) (b10 : Binds K d10 ["_law_one", "_law_other"] []) (k10 : PySem.W.keepIn K (.ref f10) = true) (m10 : mg "_law_shared" = some (.ref f10))
    (ml : mg "len" = none) (mz : mg "zip" = none) (ma : mg "abs" = none) : FnOk P w K mg base CX0 5 f fd ["_law_script"] (spLaw K) := by
  refine F.ok scLw (fun vs H Q E h => ?_) (fun cdv A outer s H vs Q E hr h => ?_)
  · obtain ⟨a, ns, rfl, _⟩ := h
    rfl
  obtain ⟨a, ns, rfl, hS0, hS1, q⟩ := h
  have h1r := hr.mono (show 1 ≤ 4 by decide)
  have h2r := hr.mono (show 2 ≤ 4 by decide)
  have h3r := hr.mono (show 3 ≤ 4 by decide)
  refine ⟨_, pss_cons (ps_set (i := 1) scLw.nd rfl (Or.inl rfl) (pe_call G2 h1r (by rfl) m2 k2 b2 .nil pass0 (pa_cons (pe_call G1 h1r (by rfl) m1 k1 b1 .nil pass0 (pa_cons (pv 0) (pa_cons pe_int pa_nil))) pa_nil)))
    (pss_cons (ps_set (i := 2) scLw.nd rfl (Or.inl rfl) (pe_call G2 h1r (by rfl) m2 k2 b2 .nil pass0 (pa_cons (pe_call G1 h1r (by rfl) m1 k1 b1 .nil pass0 (pa_cons (pv 0) (pa_cons pe_int pa_nil))) pa_nil)))
    (pss_cons (ps_set (i := 3) scLw.nd rfl (Or.inl rfl) (pe_call G3 h2r (by rfl) m3 k3 b3 .nil pass0 (pa_cons (pv 0) (pa_cons (pe_call G4 h3r (by rfl) m4 k4 b4 .nil pass0 (pa_cons (pv 0) (pa_cons pe_int (pa_cons pe_int (pa_cons (pv 1) (pa_cons (pv 2) (pa_cons pe_int pa_nil))))))) pa_nil))))
    (pss_cons (ps_if (pt_cmpR op_eq (pe_op op_mod (pe_op op_fdiv (pe_call G1 h1r (by rfl) m1 k1 b1 .nil pass0 (pa_cons (pv 0) (pa_cons pe_int pa_nil))) pe_int) pe_int) pe_int (nomark _))
      (pss_cons (ps_set (i := 4) scLw.nd rfl (Or.inr rfl) (pe_op op_mod (pe_call G1 h1r (by rfl) m1 k1 b1 .nil pass0 (pa_cons (pv 0) (pa_cons pe_int pa_nil))) pe_int))
      (pss_one (ps_setComp (i := 3) scLw.nd rfl (Or.inl rfl) (Nc := ["_law_box", "_law_away"]) (cap := [(1, 4)]) (g := gName 0) (te := tTup (tCons (tSub (tIx K 0 0) (tVar 1)) (tCons (tSub (tIx K 0 1) (tMulI (tC (.int 2)) (tVar 1))) (tCons (tSub (tIx K 0 2) (tVar 1)) (tCons (tSub (tIx K 0 3) (tMulI (tC (.int 2)) (tVar 1))) tNil))))) rfl (pi_list (pv 3))
        (comp_mk rfl rfl (by decide +kernel) (by decide +kernel) (List.forall_mem_cons.mpr ⟨⟨rfl, rfl⟩, List.forall_mem_nil _⟩) rfl (List.forall_mem_cons.mpr ⟨⟨_, _, rfl, rfl, rfl, rfl, rfl⟩, List.forall_mem_nil _⟩))
        (fun C fp pins s' H' => pg_name (i := 0) ndBA rfl (Or.inl rfl))
        (fun C fp pins s' H' => pe_tup (pa_cons (pe_op op_sub (pe_ix ix_tup (pv 0) pe_int (fun _ _ => rfl)) (pv 1)) (pa_cons (pe_op op_sub (pe_ix ix_tup (pv 0) pe_int (fun _ _ => rfl)) (pe_op op_mul pe_int (pv 1))) (pa_cons (pe_op op_sub (pe_ix ix_tup (pv 0) pe_int (fun _ _ => rfl)) (pv 1)) (pa_cons (pe_op op_sub (pe_ix ix_tup (pv 0) pe_int (fun _ _ => rfl)) (pe_op op_mul pe_int (pv 1))) pa_nil)))))))) pss_nil)
    (pss_cons (ps_if (pt_cmpR op_eq (pe_op op_mod (pe_op op_fdiv (pe_call G1 h1r (by rfl) m1 k1 b1 .nil pass0 (pa_cons (pv 0) (pa_cons pe_int pa_nil))) pe_int) pe_int) pe_int (nomark _)) (pss_one (ps_set (i := 3) scLw.nd rfl (Or.inl rfl) (pe_lst pa_nil))) pss_nil)
    (pss_cons (ps_set (i := 5) scLw.nd rfl (Or.inl rfl) (pe_call G5 h1r (by rfl) m5 k5 b5 .nil pass0 (pa_cons (pe_op op_add pe_int (pe_op op_mod (pe_call G1 h1r (by rfl) m1 k1 b1 .nil pass0 (pa_cons (pv 0) (pa_cons pe_int pa_nil))) pe_int)) (pa_cons (pe_op op_add pe_int (pe_op op_mod (pe_call G1 h1r (by rfl) m1 k1 b1 .nil pass0 (pa_cons (pv 0) (pa_cons pe_int pa_nil))) pe_int)) pa_nil))))
    (pss_cons (ps_set (i := 6) scLw.nd rfl (Or.inl rfl) (pe_call G6 hr (by rfl) m6 k6 b6 .nil pass0 (pa_cons (pv 3) (pa_cons (pv 1) (pa_cons (pv 2) (pa_cons (pv 5) pa_nil))))))
    (pss_cons (ps_if (pt_cmpR op_eq (pe_op op_mod (pe_op op_fdiv (pe_call G1 h1r (by rfl) m1 k1 b1 .nil pass0 (pa_cons (pv 0) (pa_cons pe_int pa_nil))) pe_int) pe_int) pe_int (nomark _))
      (pss_one (ps_set (i := 6) scLw.nd rfl (Or.inl rfl) (pe_tup (pa_cons (pe_call G5 h1r (by rfl) m5 k5 b5 .nil pass0 (pa_cons (pe_op op_add pe_int (pe_op op_mod (pe_call G1 h1r (by rfl) m1 k1 b1 .nil pass0 (pa_cons (pv 0) (pa_cons pe_int pa_nil))) pe_int)) (pa_cons (pe_op op_add pe_int (pe_op op_mod (pe_call G1 h1r (by rfl) m1 k1 b1 .nil pass0 (pa_cons (pv 0) (pa_cons pe_int pa_nil))) pe_int)) pa_nil)))
        (pa_cons (pe_ix ix_tup (pv 6) pe_int (fun _ _ => rfl)) (pa_cons (pe_ix ix_tup (pv 6) pe_int (fun _ _ => rfl)) pa_nil)))))) pss_nil)
    (pss_cons (ps_set (i := 7) scLw.nd rfl (Or.inl rfl) (pe_call G7 h3r (by rfl) m7 k7 b7 .nil pass0 (pa_cons (pv 6) pa_nil)))
    (pss_cons (ps_if (pt_not (pt_val (pe_call G8 h2r (by rfl) m8 k8 b8 .nil pass0 (pa_cons (pv 7) (pa_cons (pe_callB call_len_seq (by rfl) ml bt_len (pa_cons (pv 3) pa_nil)) pa_nil))))) (pss_one (ps_ret pe_bl)) pss_nil)
    (pss_cons (ps_set (i := 8) scLw.nd rfl (Or.inl rfl) pe_int)
    (pss_cons (ps_for PassesOwn.never rfl (pi_zipK (t1 := false) (t2 := false) (by rfl) mz (pa_cons (pe_call G9 h1r (by rfl) m9 k9 b9 .nil pass0 (pa_cons (pv 6) pa_nil)) (pa_cons (pe_call G9 h1r (by rfl) m9 k9 b9 .nil pass0 (pa_cons (pv 7) pa_nil)) pa_nil))) (pg_tup rfl (pgs_cons (pg_name (i := 9) scLw.nd rfl (Or.inl rfl)) (pgs_cons (pg_name (i := 10) scLw.nd rfl (Or.inl rfl)) pgs_nil)))
      (pss_cons (ps_if (pt_cmpR op_ne (pe_op op_mulB (pe_op op_mulB (pe_ix ix_tup (pv 10) pe_int (fun _ _ => rfl)) (pe_ix ix_tup (pe_ix ix_tup (pv 6) pe_int (fun _ _ => rfl)) pe_int (fun _ _ => rfl))) (pe_ix ix_tup (pv 9) pe_int (fun _ _ => rfl))) (pe_op op_mulB (pe_op op_mulB (pe_ix ix_tup (pv 9) pe_int (fun _ _ => rfl)) (pe_ix ix_tup (pe_ix ix_tup (pv 6) pe_int (fun _ _ => rfl)) pe_int (fun _ _ => rfl))) (pe_ix ix_tup (pe_ix ix_tup (pv 7) pe_int (fun _ _ => rfl)) pe_int (fun _ _ => rfl))) (nomark _)) (pss_one (ps_ret pe_bl)) pss_nil)
      (pss_one (ps_set (i := 8) scLw.nd rfl (Or.inl rfl) (pe_call G10 h1r (by rfl) m10 k10 b10 .nil pass0 (pa_cons (pv 8) (pa_cons (pe_callB call_abs (by rfl) ma bt_abs (pa_cons (pe_ix ix_tup (pv 10) pe_int (fun _ _ => rfl)) pa_nil)) pa_nil)))))))
    (pss_one (ps_ret (pe_cmpR op_eq (pv 8) pe_int (nomark _))))))))))))))), ?_⟩
  have hS : ∀ {H'}, Same H H' → ScA K H' a ns := fun s => ⟨s.seq hS0, hS1⟩
  refine ⟨_, rfl, a, ns, 0, rfl, hS (Same.refl _), by decide, fun z0 hz0 => ⟨z0, rfl, fun wd w4 w9 => ?_⟩⟩
  refine ⟨_, rfl, a, ns, 1, rfl, hS (Same.refl _), by decide, fun z1 hz1 => ⟨z1, rfl, fun hg g4 g9 => ?_⟩⟩
  refine ⟨_, rfl, _, rfl, _, rfl, _, rfl, a, ns, wd, hg, rfl, hS (Same.refl _), ⟨by omega, by omega⟩, ⟨by omega, by omega⟩, fun pb0 H1 bs0 s1 hb0 _ nb0 kb0 => ?_⟩
  refine ⟨a, pb0, ns, bs0, rfl, hS s1, hb0, nb0, kb0, fun pb H2 bs s2 hb _ nb kb => ?_⟩
  have s12 := s1.trans s2
  have wdN : wd.natAbs ≤ 2 ^ 15 := by omega
  have hgN : hg.natAbs ≤ 2 ^ 15 := by omega
  -- moved
  refine name_go (nx_go ?_)
  refine seq_join (t := tIfS _ _ _) (G := fun σ H1 => Same H H1 ∧ ∃ (pb : Addr) (bs : List Bx) (u4 : Option V), σ = [some (.ref a), some (.int wd), some (.int hg), some (.ref pb), u4, none, none, none, none, none, none] ∧ LstR BoxR H1 pb bs ∧ bs.length ≤ 12 ∧ ∀ b ∈ bs, BxW b) ?m ?r
  case m =>
    intro fin
    refine ⟨_, rfl, a, ns, 3, rfl, hS s12, by decide, fun z3 hz3 => ⟨_, _, rfl, rfl, ⟨by decide, by decide⟩, _, _, rfl, rfl, (show (0 : Int) < 3 by decide), rfl, _, rfl, ?_⟩⟩
    refine ite2 (fun _ => ?_) (fun _ => ?_)
    · refine ⟨_, rfl, a, ns, 45, rfl, hS s12, by decide, fun z4 hz4 => ⟨_, _, rfl, rfl, (show (0 : Int) < 9999 by decide), ?_⟩⟩
      have aw0 := Int.emod_nonneg z4 (show (9999 : Int) ≠ 0 by decide)
      have aw1 := Int.emod_lt_of_pos z4 (show (0 : Int) < 9999 by decide)
      obtain ⟨cs, hcs, hC⟩ := hb
      have lc : cs.length = bs.length := hC.1
      refine ⟨_, rfl, pb, rfl, ⟨_, SqL.of hcs⟩, fun acc hacc => ?_⟩
      refine comp_run (run_list hcs) (by rw [List.length_map]; omega) hacc (fun i ys σ hp => ∃ es : List Addr, ys = es.map V.ref ∧ At BoxR hp es ((bs.map fun b => (b.1 - z4 % 9999, b.2.1 - 2 * (z4 % 9999), b.2.2.1 - z4 % 9999, b.2.2.2 - 2 * (z4 % 9999))).take i) ∧ ∃ u, σ = [u, some (.int (z4 % 9999))]) ⟨[], rfl, At.nil, none, rfl⟩ ?_ ?_
      · rintro i ys σ H3 x H4 hi sm hacc2 ⟨es, rfl, hE, u, rfl⟩ ⟨rfl, hx⟩ Cc hCc
        obtain ⟨d, b, rfl, _, hy, fb⟩ := hC.ref hx
        have fb4 : BoxR H4 d b := sm _ _ fb
        refine ⟨_, rfl, d, _, _, _, rfl, rfl, SqT.of fb4, t4_0 _ _ _ _, _, rfl, _, _, rfl, rfl, _, rfl, d, _, _, _, rfl, rfl, SqT.of fb4, t4_1 _ _ _ _, _, rfl, _, _, rfl, rfl, .inl ⟨by decide, by decide⟩, _, _, rfl, rfl, _, rfl, d, _, _, _, rfl, rfl, SqT.of fb4, t4_2 _ _ _ _, _, rfl, _, _, rfl, rfl, _, rfl, d, _, _, _, rfl, rfl, SqT.of fb4, t4_3 _ _ _ _, _, rfl, _, _, rfl, rfl, .inl ⟨by decide, by decide⟩, _, _, rfl, rfl, by show 4 ≤ sizeLine; decide, fun p hp => ?_⟩
        obtain ⟨H5, e5, s5, g5⟩ := new_box hp (b.1 - z4 % 9999) (b.2.1 - 2 * (z4 % 9999)) (b.2.2.1 - z4 % 9999) (b.2.2.2 - 2 * (z4 % 9999))
        rw [e5]
        refine hCc _ _ _ s5 ⟨es ++ [p], by simp, ?_, _, rfl⟩
        have ec : (bs.map fun b => (b.1 - z4 % 9999, b.2.1 - 2 * (z4 % 9999), b.2.2.1 - z4 % 9999, b.2.2.2 - 2 * (z4 % 9999)))[i]? = some (b.1 - z4 % 9999, b.2.1 - 2 * (z4 % 9999), b.2.2.1 - z4 % 9999, b.2.2.2 - 2 * (z4 % 9999)) := by rw [List.getElem?_map, hy]; rfl
        rw [take_succ_of ec]
        exact (hE.keep mo_box (del_mono acc s5)).snoc (g5.del (s5 _ _ hacc2))
      rintro ys σ H3 s3 hacc3 hl3 ⟨es, rfl, hE, u, rfl⟩
      rw [List.length_map, lc, List.take_of_length_le (by rw [List.length_map]; omega)] at hE
      refine fin _ _ ⟨s12.trans s3, acc, _, _, rfl, ⟨es, hacc3, hE.keep mo_box (del_sub H3 acc)⟩, by rw [List.length_map]; exact nb, fun b hb => ?_⟩
      obtain ⟨b0, hb0, rfl⟩ := List.mem_map.mp hb
      obtain ⟨⟨x1, x2⟩, ⟨x3, x4⟩, ⟨x5, x6⟩, ⟨x7, x8⟩⟩ := kb b0 hb0
      intro x hx
      simp only [List.mem_cons, List.not_mem_nil, or_false] at hx
      rcases hx with rfl | rfl | rfl | rfl <;> omega
    · exact fin _ _ ⟨s12, pb, bs, _, rfl, hb, nb, fun b hb => bxk_w (kb b hb)⟩
  case r =>
  clear hb0 nb0 kb0 hb nb kb s12 s2 s1
  rintro σ H1 ⟨s1, pb, bs, u4, rfl, hb, nb, kb⟩
  -- none
  refine seq_join (t := tIfS _ _ _) (G := fun σ H1 => Same H H1 ∧ ∃ (pb : Addr) (bs : List Bx) (u4 : Option V), σ = [some (.ref a), some (.int wd), some (.int hg), some (.ref pb), u4, none, none, none, none, none, none] ∧ LstR BoxR H1 pb bs ∧ bs.length ≤ 12 ∧ ∀ b ∈ bs, BxW b) ?m ?r
  case m =>
    intro fin
    refine ⟨_, rfl, a, ns, 3, rfl, hS s1, by decide, fun z3 hz3 => ⟨_, _, rfl, rfl, ⟨by decide, by decide⟩, _, _, rfl, rfl, (show (0 : Int) < 12 by decide), rfl, _, rfl, ?_⟩⟩
    refine ite2 (fun _ => ?_) (fun _ => ?_)
    · refine ⟨by show 0 ≤ sizeLine; decide, fun l hl => ?_⟩
      obtain ⟨H2, e2, s2, g2⟩ := new_lst hl []
      rw [e2]
      exact fin _ _ ⟨s1.trans s2, l, [], _, rfl, ⟨[], g2, At.nil⟩, by simp, by simp⟩
    · exact fin _ _ ⟨s1, pb, bs, _, rfl, hb, nb, kb⟩
  case r =>
  clear hb nb kb s1
  rintro σ H1 ⟨s1, pb, bs, u4, rfl, hb, nb, kb⟩
  -- the scale
  refine ⟨_, rfl, a, ns, 2, rfl, hS s1, by decide, fun z5 hz5 => ⟨_, _, rfl, rfl, (show (0 : Int) < 99 by decide), _, _, rfl, rfl, _, rfl, a, ns, 3, rfl, hS s1, by decide, fun z6 hz6 => ⟨_, _, rfl, rfl, (show (0 : Int) < 5999 by decide), _, _, rfl, rfl, ?_⟩⟩⟩
  have t0 := Int.emod_nonneg z5 (show (99 : Int) ≠ 0 by decide)
  have t1 := Int.emod_lt_of_pos z5 (show (0 : Int) < 99 by decide)
  have t2 := Int.emod_nonneg z6 (show (5999 : Int) ≠ 0 by decide)
  have t3 := Int.emod_lt_of_pos z6 (show (0 : Int) < 5999 by decide)
  refine ⟨_, _, rfl, by omega, big2 (n := 13) (by omega) (by decide), fun ps hps => ?_⟩
  have sc : Sb 7 13 (((1 + z5 % 99 : Int) : Rat) / ((1 + z6 % 5999 : Int) : Rat)) := sb_low (by omega) (by omega) (by omega)
  have c0 : 0 < (((1 + z5 % 99 : Int) : Rat) / ((1 + z6 % 5999 : Int) : Rat)) := div_pos' (by omega) (by omega)
  generalize (((1 + z5 % 99 : Int) : Rat) / ((1 + z6 % 5999 : Int) : Rat)) = c at sc c0
  have s2 := same_new hps (.tup [.int c.num, .int c.den])
  have fc : FrR (upd H1 ps (.tup [.int c.num, .int c.den])) ps c := upd_same
  generalize upd H1 ps (.tup [.int c.num, .int c.den]) = H2 at s2 fc
  refine ⟨_, rfl, _, rfl, _, rfl, _, rfl, pb, ps, bs, wd, hg, c, rfl, mo_lst (R := BoxR) (fun s h => mo_box s h) s2 hb, by omega, fc, sc, wdN, hgN, kb, fun pf H3 s3 hF => ?_⟩
  have s13 := s1.trans (s2.trans s3)
  have hb3 : LstR BoxR H3 pb bs := mo_lst (R := BoxR) (fun s h => mo_box s h) (s2.trans s3) hb
  have rs := rows_sb sc kb
  have r4 := rows_four c bs
  have rl : (rowsOf c bs).length = bs.length := by rw [List.length_map]
  have kF : FlK ((wd : Rat) * c) ((hg : Rat) * c) (rowsOf c bs) := ⟨by omega, r4, fun q hq => by
    rcases List.mem_cons.mp hq with rfl | hq
    · exact sb_scaled wdN sc
    rcases List.mem_cons.mp hq with rfl | hq
    · exact sb_scaled hgN sc
    · exact rs q hq, int_rat_pos (by omega) c0⟩
  have u0 : 0 < (hg : Rat) * c := int_rat_pos (by omega) c0
  generalize (wd : Rat) * c = W at hF kF
  generalize (hg : Rat) * c = U at hF kF u0
  generalize rowsOf c bs = rows at hF kF r4 rl rs
  -- another width
  refine name_go (nx_go ?_)
  refine seq_join (t := tIfS _ _ _) (G := fun σ H1 => Same H H1 ∧ ∃ (pf : Addr) (W : Rat), σ = [some (.ref a), some (.int wd), some (.int hg), some (.ref pb), u4, some (.ref ps), some (.ref pf), none, none, none, none] ∧ LstR BoxR H1 pb bs ∧ FloorR H1 pf W U rows ∧ FlK W U rows) ?m ?r
  case m =>
    intro fin
    refine ⟨_, rfl, a, ns, 2, rfl, hS s13, by decide, fun z3 hz3 => ⟨_, _, rfl, rfl, ⟨by decide, by decide⟩, _, _, rfl, rfl, (show (0 : Int) < 3 by decide), rfl, _, rfl, ?_⟩⟩
    refine ite2 (fun _ => ?_) (fun _ => ?_)
    · refine ⟨_, rfl, a, ns, 0, rfl, hS s13, by decide, fun z7 hz7 => ⟨_, _, rfl, rfl, (show (0 : Int) < 5000 by decide), _, _, rfl, rfl, _, rfl, a, ns, 1, rfl, hS s13, by decide, fun z8 hz8 => ⟨_, _, rfl, rfl, (show (0 : Int) < 700 by decide), _, _, rfl, rfl, ?_⟩⟩⟩
      have t0 := Int.emod_nonneg z7 (show (5000 : Int) ≠ 0 by decide)
      have t1 := Int.emod_lt_of_pos z7 (show (0 : Int) < 5000 by decide)
      have t2 := Int.emod_nonneg z8 (show (700 : Int) ≠ 0 by decide)
      have t3 := Int.emod_lt_of_pos z8 (show (0 : Int) < 700 by decide)
      refine ⟨_, _, rfl, by omega, big2 (n := 13) (by omega) (by decide), fun pw hpw => ?_⟩
      have sw : Sb 30 16 (((1 + z7 % 5000 : Int) : Rat) / ((1 + z8 % 700 : Int) : Rat)) := sb_low (by omega) (by omega) (by omega)
      have w0 : 0 < (((1 + z7 % 5000 : Int) : Rat) / ((1 + z8 % 700 : Int) : Rat)) := div_pos' (by omega) (by omega)
      generalize (((1 + z7 % 5000 : Int) : Rat) / ((1 + z8 % 700 : Int) : Rat)) = W2 at sw w0
      have v1 := same_new hpw (.tup [.int W2.num, .int W2.den])
      have fw : FrR (upd H3 pw (.tup [.int W2.num, .int W2.den])) pw W2 := upd_same
      generalize upd H3 pw (.tup [.int W2.num, .int W2.den]) = H4 at v1 fw
      obtain ⟨p, q0, r, ha, hW, hU, hR⟩ := mo_floor v1 hF
      refine ⟨_, rfl, pf, _, _, _, rfl, rfl, SqT.of ha, t3_1 _ _ _, _, rfl, pf, _, _, _, rfl, rfl, SqT.of ha, t3_2 _ _ _, by show 3 ≤ sizeLine; decide, fun pf2 hpf2 => ?_⟩
      have v2 := same_new hpf2 (.tup [.ref pw, .ref q0, .ref r])
      have ff : FloorR (upd H4 pf2 (.tup [.ref pw, .ref q0, .ref r])) pf2 W2 U rows := ⟨pw, q0, r, upd_same, v2 _ _ fw, v2 _ _ hU, mo_tup (R := TupR FrR) (fun s h => mo_tf s h) v2 hR⟩
      try dsimp only
      generalize upd H4 pf2 (.tup [.ref pw, .ref q0, .ref r]) = H5 at v2 ff
      refine fin _ _ ⟨s13.trans (v1.trans v2), pf2, W2, rfl, mo_lst (R := BoxR) (fun s h => mo_box s h) (v1.trans v2) hb3, ff, ⟨kF.len, kF.four, fun q hq => ?_, w0⟩⟩
      rcases List.mem_cons.mp hq with rfl | hq
      · exact sw
      · exact kF.sb q (by simp only [List.mem_cons] at hq ⊢; exact .inr hq)
    · exact fin _ _ ⟨s13, pf, W, rfl, hb3, hF, kF⟩
  case r =>
  clear hF kF s13 hb3 s2 s3 fc hb s1
  rintro σ H1 ⟨s1, pf, W, rfl, hb, hF, kF⟩
  have wm : W ∈ nums W U rows := by simp
  have um : U ∈ nums W U rows := by simp
  have wn : W ≠ 0 := fun z => by have := kF.pos; rw [z] at this; exact absurd this Rat.lt_irrefl
  have cp := scl_pos wm wn
  have sden : ∀ {q}, q ∈ nums W U rows → (scl (nums W U rows) * q).den = 1 := fun hq => scl_den wm wn hq
  have snum : ∀ {q}, q ∈ nums W U rows → (((scl (nums W U rows) * q).num : Int) : Rat) = scl (nums W U rows) * q := fun hq => scl_num wm wn hq
  have sone := scl_one wm wn
  have sbig : ∀ {q}, q ∈ nums W U rows → (scl (nums W U rows) * q).num.natAbs ≤ 2 ^ 2622 := fun hq => Nat.le_trans (scl_le wm wn hq) (kF.wh hq)
  refine ⟨_, rfl, pf, W, U, rows, rfl, hF, kF, fun pg H2 s2 hG => ?_⟩
  generalize scl (nums W U rows) = c at *
  obtain ⟨cs, hcs, hC⟩ := id hb
  have eN : nums (c * W) (c * U) (rows.map fun r => r.map fun q => c * q) = (nums W U rows).map fun q => c * q := by
    show _ :: _ :: _ = _
    rw [← List.map_flatten]; rfl
  have lrow : (rows.map fun r => r.map fun q => c * q).length ≤ 40 := by rw [List.length_map]; exact kF.len
  have frow : ∀ r ∈ (rows.map fun r => r.map fun q => c * q), r.length = 4 := fun r hr => by
    obtain ⟨r0, h0, rfl⟩ := List.mem_map.mp hr
    rw [List.length_map]; exact kF.four r0 h0
  refine ⟨_, rfl, _, rfl, pb, _, rfl, .inl (SqL.of (s2 _ _ hcs)), pg, c * W, c * U, _, _, rfl, hG, by rw [List.length_map, List.length_map, hC.1, rl], lrow, frow, fun q hq => ?_, Rat.mul_pos cp kF.pos, Rat.mul_pos cp u0, fun H3 s3 => ⟨_, rfl, iteF ?_⟩⟩
  · rw [eN] at hq
    obtain ⟨y, hy, rfl⟩ := List.mem_map.mp hq
    exact sden hy
  have s23 := s2.trans s3
  refine ⟨_, rfl, pf, W, U, rows, rfl, mo_floor s23 hF, kF.len, kF.four, fun pn H4 s4 hN => ?_⟩
  have hG4 := mo_floor (s3.trans s4) hG
  refine ⟨_, rfl, pg, _, _, _, rfl, hG4, lrow, frow, fun pm H5 s5 hM => ?_⟩
  rw [eN] at hM
  have hF5 := mo_floor (s23.trans (s4.trans s5)) hF
  have hG5 := mo_floor s5 hG4
  obtain ⟨p, q0, r, ha, hW, hU, _⟩ := id hF5
  obtain ⟨p', q0', r', ha', hW', hU', _⟩ := id hG5
  obtain ⟨es, hes, hE⟩ := hN
  obtain ⟨gs, hgs, hGs⟩ := hM
  have hes5 := s5 _ _ hes
  have cnt := kF.cnt
  have le : es.length = (nums W U rows).length := hE.1
  have lg : gs.length = (nums W U rows).length := by rw [hGs.1, List.length_map]
  have ksb := kF.sb
  generalize nums W U rows = qs at *
  refine ⟨pn, pm, rfl, ⟨_, SqS.l hes5⟩, ⟨_, SqS.l hgs⟩, ?_⟩
  refine for_zipK (xs := es.map V.ref) (ys := gs.map V.ref) qs.length (by rw [List.length_map, List.length_map]; omega) (fun i σ H6 => Same H5 H6 ∧ ∃ u v, σ = [some (.ref a), some (.int wd), some (.int hg), some (.ref pb), u4, some (.ref ps), some (.ref pf), some (.ref pg), some (.int (gl 0 ((qs.map fun q => (c * q).num).take i))), u, v])
    ⟨Same.refl _, none, none, rfl⟩ (fun i σ H6 _ ⟨s6, _⟩ => ⟨SqS.l (s6 _ _ hes5), SqS.l (s6 _ _ hgs)⟩) ?_ ?_
  · rintro i x y σ H6 t hx hy ⟨s6, u, v, rfl⟩ ht
    obtain ⟨e, qa, rfl, _, hqa, fe⟩ := hE.ref hx
    obtain ⟨g1, qb, rfl, _, hqb, fg⟩ := hGs.ref hy
    have ebb : qb = c * qa := by rw [List.getElem?_map, hqa] at hqb; exact (Option.some.inj hqb).symm
    subst ebb
    have qm := List.mem_of_getElem? hqa
    have s7 := same_new ht (.tup [.ref e, .ref g1])
    have g7 : (upd H6 t (.tup [.ref e, .ref g1])) t = some (.tup [.ref e, .ref g1]) := upd_same
    generalize upd H6 t (.tup [.ref e, .ref g1]) = H7 at s7 g7
    have s67 := s6.trans s7
    have fe7 : H7 e = some (.tup [.int qa.num, .int qa.den]) := (s5.trans s67) _ _ fe
    have fg7 : H7 g1 = some (.tup [.int (c * qa).num, .int (c * qa).den]) := s67 _ _ fg
    have ha7 := s67 _ _ ha
    have hW7 : H7 p = some (.tup [.int W.num, .int W.den]) := s67 _ _ hW
    have ha7' := s67 _ _ ha'
    have hW7' : H7 p' = some (.tup [.int (c * W).num, .int (c * W).den]) := s67 _ _ hW'
    have sqa := ksb qa qm
    have sqw := ksb W wm
    have b1 : (c * qa).num.natAbs ≤ 2 ^ 2622 := sbig qm
    have b2 : (c * W).num.natAbs ≤ 2 ^ 2622 := sbig wm
    have B1 : Big (c * qa).num := big2 b1 (by decide)
    have B2 : Big (c * W).num := big2 b2 (by decide)
    have B3 : Big W.num := big2 sqw.1 (by decide)
    have B4 : Big (W.den : Int) := big2 (n := 16) (by rw [Int.natAbs_natCast]; exact sqw.2) (by decide)
    have B5 : Big qa.num := big2 sqa.1 (by decide)
    have B6 : Big (qa.den : Int) := big2 (n := 16) (by rw [Int.natAbs_natCast]; exact sqa.2) (by decide)
    have B7 : Big ((c * qa).num * W.num) := big2 (n := 2622 + 30) (by rw [Int.natAbs_mul]; exact pmul b1 sqw.1) (by decide)
    have B8 : Big (qa.num * (W.den : Int)) := big2 (n := 30 + 16) (by rw [Int.natAbs_mul, Int.natAbs_natCast]; exact pmul sqa.1 sqw.2) (by decide)
    refine ⟨t, _, rfl, SqT.of g7, rfl, _, _, rfl, _, _, rfl, rfl, ?_⟩
    refine ⟨_, rfl, g1, _, _, _, rfl, rfl, SqT.of fg7, at0, _, rfl, pf, _, _, _, rfl, rfl, SqT.of ha7, t3_0 _ _ _, p, _, _, _, rfl, rfl, SqT.of hW7, at0, _, _, rfl, rfl, ⟨B1, B3⟩, _, rfl, e, _, _, _, rfl, rfl, SqT.of fe7, at1, _, _, rfl, rfl, ⟨B7, B6⟩,
      _, rfl, e, _, _, _, rfl, rfl, SqT.of fe7, at0, _, rfl, pf, _, _, _, rfl, rfl, SqT.of ha7, t3_0 _ _ _, p, _, _, _, rfl, rfl, SqT.of hW7, at1, _, _, rfl, rfl, ⟨B5, B4⟩, _, rfl, pg, _, _, _, rfl, rfl, SqT.of ha7', t3_0 _ _ _, p', _, _, _, rfl, rfl, SqT.of hW7', at0, _, _, rfl, rfl, ⟨B8, B2⟩, rfl, _, rfl, ?_⟩
    refine iteNS (iv (scl_cross (snum qm).symm (snum wm).symm)) ?_
    refine ⟨_, rfl, _, rfl, g1, _, _, _, rfl, rfl, SqT.of fg7, at0, _, rfl, ?_⟩
    rw [abs_eq]
    refine ⟨_, _, rfl, gl_nn _ 0 (Int.le_refl _), by omega, s67, some (.ref e), some (.ref g1), ?_⟩
    have ec : (qs.map fun q => (c * q).num)[i]? = some (c * qa).num := by rw [List.getElem?_map, hqa]; rfl
    rw [take_succ_of ec, gl_app]
    show _ = [_, _, _, _, _, _, _, _, some (V.int (Int.gcd (gl 0 ((qs.map fun q => (c * q).num).take i)) (c * qa).num : Int)), _, _]
    rw [show Int.gcd (gl 0 ((qs.map fun q => (c * q).num).take i)) (((c * qa).num.natAbs : Nat) : Int) = Int.gcd (gl 0 ((qs.map fun q => (c * q).num).take i)) (c * qa).num by unfold Int.gcd; simp]
    rfl
  · rintro σ H6 ⟨s6, u, v, rfl⟩
    refine ⟨_, rfl, rfl, ?_⟩
    rw [List.take_of_length_le (by rw [List.length_map]; omega), sone]
    exact q H6
end
end My
namespace My
open PySem L2 Mth
set_option maxHeartbeats 4000000 in
theorem all_mk {l : PySem.W.OpenLaw} {w : World} {K : PySem.W.Frag} {h : Heap} {mg : Str → Option Value} {fa C f1 f2 f3 f4 f5 f6 f7 f8 f9 f10 f11 f12 f13 f14 f15 f16 f17 f18 f19 f20 f21 f22 : Addr} (X : K.In h) (G : h.Ns mainGlobals mg) (hfa : mg "law" = some (.ref fa))
    {od1 an1 od2 an2 od3 an3 od4 an4 od5 an5 od6 an6 od7 an7 od8 an8 od9 an9 od10 an10 od11 an11 od12 an12 od13 an13 od14 an14 od15 an15 od16 an16 od17 an17 od18 an18 od19 an19 od20 an20 od21 an21 od22 an22 : Option Addr}
    {sl1 sl2 sl3 sl4 sl5 sl6 sl7 sl8 sl9 sl10 sl11 sl12 sl13 sl14 sl15 sl16 sl17 sl18 sl19 sl20 sl21 sl22 : Array (Option Value)}
    {oc1 kV1 dc1 pm1 cd1 ct1 oc2 kV2 dc2 pm2 cd2 ct2 oc3 kV3 dc3 pm3 cd3 ct3 oc4 kV4 dc4 pm4 cd4 ct4 oc5 kV5 dc5 pm5 cd5 ct5 oc6 kV6 dc6 pm6 cd6 ct6 oc7 kV7 dc7 pm7 cd7 ct7 oc8 kV8 dc8 pm8 cd8 ct8 oc9 kV9 dc9 pm9 cd9 ct9 oc10 kV10 dc10 pm10 cd10 ct10 oc11 kV11 dc11 pm11 cd11 ct11 oc12 kV12 dc12 pm12 cd12 ct12 oc13 kV13 dc13 pm13 cd13 ct13 oc14 kV14 dc14 pm14 cd14 ct14 oc15 kV15 dc15 pm15 cd15 ct15 oc16 kV16 dc16 pm16 cd16 ct16 oc17 kV17 dc17 pm17 cd17 ct17 oc18 kV18 dc18 pm18 cd18 ct18 oc19 kV19 dc19 pm19 cd19 ct19 oc20 kV20 dc20 pm20 cd20 ct20 oc21 kV21 dc21 pm21 cd21 ct21 oc22 kV22 dc22 pm22 cd22 ct22 : Value}
    (a1 : PySem.W.nsIn K mainGlobals "common_part" = some (some (.ref f1))) (l1 : K.lookup f1 = some ⟨oc1, od1, .func (PySem.W.fnOf "common_part" "common_part" (defArgs sCommon) (defBody sCommon) (defScope sCommon) .none kV1 dc1 pm1 an1 cd1 ct1), sl1⟩) (c1 : PySem.W.codeIn K cd1 "common_part" = true) (k1 : PySem.W.keepIn K (.ref f1) = true)
    (a2 : PySem.W.nsIn K mainGlobals "fraction" = some (some (.ref f2))) (l2 : K.lookup f2 = some ⟨oc2, od2, .func (PySem.W.fnOf "fraction" "fraction" (defArgs sFraction) (defBody sFraction) (defScope sFraction) .none kV2 dc2 pm2 an2 cd2 ct2), sl2⟩) (c2 : PySem.W.codeIn K cd2 "fraction" = true) (k2 : PySem.W.keepIn K (.ref f2) = true)
    (a3 : PySem.W.nsIn K mainGlobals "common_bottom" = some (some (.ref f3))) (l3 : K.lookup f3 = some ⟨oc3, od3, .func (PySem.W.fnOf "common_bottom" "common_bottom" (defArgs sCBot) (defBody sCBot) (defScope sCBot) .none kV3 dc3 pm3 an3 cd3 ct3), sl3⟩) (c3 : PySem.W.codeIn K cd3 "common_bottom" = true) (k3 : PySem.W.keepIn K (.ref f3) = true)
    (a4 : PySem.W.nsIn K mainGlobals "wholes" = some (some (.ref f4))) (l4 : K.lookup f4 = some ⟨oc4, od4, .func (PySem.W.fnOf "wholes" "wholes" (defArgs sWholes) (defBody sWholes) (defScope sWholes) .none kV4 dc4 pm4 an4 cd4 ct4), sl4⟩) (c4 : PySem.W.codeIn K cd4 "wholes" = true) (k4 : PySem.W.keepIn K (.ref f4) = true)
    (a5 : PySem.W.nsIn K mainGlobals "numbers_of" = some (some (.ref f5))) (l5 : K.lookup f5 = some ⟨oc5, od5, .func (PySem.W.fnOf "numbers_of" "numbers_of" (defArgs s_numbers_of) (defBody s_numbers_of) (defScope s_numbers_of) .none kV5 dc5 pm5 an5 cd5 ct5), sl5⟩) (c5 : PySem.W.codeIn K cd5 "numbers_of" = true) (k5 : PySem.W.keepIn K (.ref f5) = true)
    (a6 : PySem.W.nsIn K mainGlobals "whole_floor" = some (some (.ref f6))) (l6 : K.lookup f6 = some ⟨oc6, od6, .func (PySem.W.fnOf "whole_floor" "whole_floor" (defArgs s_whole_floor) (defBody s_whole_floor) (defScope s_whole_floor) .none kV6 dc6 pm6 an6 cd6 ct6), sl6⟩) (c6 : PySem.W.codeIn K cd6 "whole_floor" = true) (k6 : PySem.W.keepIn K (.ref f6) = true)
    (a7 : PySem.W.nsIn K mainGlobals "brought" = some (some (.ref f7))) (l7 : K.lookup f7 = some ⟨oc7, od7, .func (PySem.W.fnOf "brought" "brought" (defArgs s_brought) (defBody s_brought) (defScope s_brought) .none kV7 dc7 pm7 an7 cd7 ct7), sl7⟩) (c7 : PySem.W.codeIn K cd7 "brought" = true) (k7 : PySem.W.keepIn K (.ref f7) = true)
    (a8 : PySem.W.nsIn K mainGlobals "_law_cell_at" = some (some (.ref f8))) (l8 : K.lookup f8 = some ⟨oc8, od8, .func (PySem.W.fnOf "_law_cell_at" "_law_cell_at" (defArgs s_law_cell_at) (defBody s_law_cell_at) (defScope s_law_cell_at) .none kV8 dc8 pm8 an8 cd8 ct8), sl8⟩) (c8 : PySem.W.codeIn K cd8 "_law_cell_at" = true) (k8 : PySem.W.keepIn K (.ref f8) = true)
    (a9 : PySem.W.nsIn K mainGlobals "_law_lowest" = some (some (.ref f9))) (l9 : K.lookup f9 = some ⟨oc9, od9, .func (PySem.W.fnOf "_law_lowest" "_law_lowest" (defArgs s_law_lowest) (defBody s_law_lowest) (defScope s_law_lowest) .none kV9 dc9 pm9 an9 cd9 ct9), sl9⟩) (c9 : PySem.W.codeIn K cd9 "_law_lowest" = true) (k9 : PySem.W.keepIn K (.ref f9) = true)
    (a10 : PySem.W.nsIn K mainGlobals "_law_wheel" = some (some (.ref f10))) (l10 : K.lookup f10 = some ⟨oc10, od10, .func (PySem.W.fnOf "_law_wheel" "_law_wheel" (defArgs s_law_wheel) (defBody s_law_wheel) (defScope s_law_wheel) .none kV10 dc10 pm10 an10 cd10 ct10), sl10⟩) (c10 : PySem.W.codeIn K cd10 "_law_wheel" = true) (k10 : PySem.W.keepIn K (.ref f10) = true)
    (a11 : PySem.W.nsIn K mainGlobals "_law_two" = some (some (.ref f11))) (l11 : K.lookup f11 = some ⟨oc11, od11, .func (PySem.W.fnOf "_law_two" "_law_two" (defArgs s_law_two) (defBody s_law_two) (defScope s_law_two) .none kV11 dc11 pm11 an11 cd11 ct11), sl11⟩) (c11 : PySem.W.codeIn K cd11 "_law_two" = true) (k11 : PySem.W.keepIn K (.ref f11) = true)
    (a12 : PySem.W.nsIn K mainGlobals "_law_broken" = some (some (.ref f12))) (l12 : K.lookup f12 = some ⟨oc12, od12, .func (PySem.W.fnOf "_law_broken" "_law_broken" (defArgs s_law_broken) (defBody s_law_broken) (defScope s_law_broken) .none kV12 dc12 pm12 an12 cd12 ct12), sl12⟩) (c12 : PySem.W.codeIn K cd12 "_law_broken" = true) (k12 : PySem.W.keepIn K (.ref f12) = true)
    (a13 : PySem.W.nsIn K mainGlobals "_law_built" = some (some (.ref f13))) (l13 : K.lookup f13 = some ⟨oc13, od13, .func (PySem.W.fnOf "_law_built" "_law_built" (defArgs s_law_built) (defBody s_law_built) (defScope s_law_built) .none kV13 dc13 pm13 an13 cd13 ct13), sl13⟩) (c13 : PySem.W.codeIn K cd13 "_law_built" = true) (k13 : PySem.W.keepIn K (.ref f13) = true)
    (a14 : PySem.W.nsIn K mainGlobals "_law_scaled_one" = some (some (.ref f14))) (l14 : K.lookup f14 = some ⟨oc14, od14, .func (PySem.W.fnOf "_law_scaled_one" "_law_scaled_one" (defArgs s_law_scaled_one) (defBody s_law_scaled_one) (defScope s_law_scaled_one) .none kV14 dc14 pm14 an14 cd14 ct14), sl14⟩) (c14 : PySem.W.codeIn K cd14 "_law_scaled_one" = true) (k14 : PySem.W.keepIn K (.ref f14) = true)
    (a15 : PySem.W.nsIn K mainGlobals "_law_scaled" = some (some (.ref f15))) (l15 : K.lookup f15 = some ⟨oc15, od15, .func (PySem.W.fnOf "_law_scaled" "_law_scaled" (defArgs s_law_scaled) (defBody s_law_scaled) (defScope s_law_scaled) .none kV15 dc15 pm15 an15 cd15 ct15), sl15⟩) (c15 : PySem.W.codeIn K cd15 "_law_scaled" = true) (k15 : PySem.W.keepIn K (.ref f15) = true)
    (a16 : PySem.W.nsIn K mainGlobals "_law_floor_of" = some (some (.ref f16))) (l16 : K.lookup f16 = some ⟨oc16, od16, .func (PySem.W.fnOf "_law_floor_of" "_law_floor_of" (defArgs s_law_floor_of) (defBody s_law_floor_of) (defScope s_law_floor_of) .none kV16 dc16 pm16 an16 cd16 ct16), sl16⟩) (c16 : PySem.W.codeIn K cd16 "_law_floor_of" = true) (k16 : PySem.W.keepIn K (.ref f16) = true)
    (a17 : PySem.W.nsIn K mainGlobals "_law_side" = some (some (.ref f17))) (l17 : K.lookup f17 = some ⟨oc17, od17, .func (PySem.W.fnOf "_law_side" "_law_side" (defArgs s_law_side) (defBody s_law_side) (defScope s_law_side) .none kV17 dc17 pm17 an17 cd17 ct17), sl17⟩) (c17 : PySem.W.codeIn K cd17 "_law_side" = true) (k17 : PySem.W.keepIn K (.ref f17) = true)
    (a18 : PySem.W.nsIn K mainGlobals "_law_numbers" = some (some (.ref f18))) (l18 : K.lookup f18 = some ⟨oc18, od18, .func (PySem.W.fnOf "_law_numbers" "_law_numbers" (defArgs s_law_numbers) (defBody s_law_numbers) (defScope s_law_numbers) .none kV18 dc18 pm18 an18 cd18 ct18), sl18⟩) (c18 : PySem.W.codeIn K cd18 "_law_numbers" = true) (k18 : PySem.W.keepIn K (.ref f18) = true)
    (a19 : PySem.W.nsIn K mainGlobals "_law_spoilt" = some (some (.ref f19))) (l19 : K.lookup f19 = some ⟨oc19, od19, .func (PySem.W.fnOf "_law_spoilt" "_law_spoilt" (defArgs s_law_spoilt) (defBody s_law_spoilt) (defScope s_law_spoilt) .none kV19 dc19 pm19 an19 cd19 ct19), sl19⟩) (c19 : PySem.W.codeIn K cd19 "_law_spoilt" = true) (k19 : PySem.W.keepIn K (.ref f19) = true)
    (a20 : PySem.W.nsIn K mainGlobals "_law_shared" = some (some (.ref f20))) (l20 : K.lookup f20 = some ⟨oc20, od20, .func (PySem.W.fnOf "_law_shared" "_law_shared" (defArgs s_law_shared) (defBody s_law_shared) (defScope s_law_shared) .none kV20 dc20 pm20 an20 cd20 ct20), sl20⟩) (c20 : PySem.W.codeIn K cd20 "_law_shared" = true) (k20 : PySem.W.keepIn K (.ref f20) = true)
    (a21 : PySem.W.nsIn K mainGlobals "_law_formed" = some (some (.ref f21))) (l21 : K.lookup f21 = some ⟨oc21, od21, .func (PySem.W.fnOf "_law_formed" "_law_formed" (defArgs s_law_formed) (defBody s_law_formed) (defScope s_law_formed) .none kV21 dc21 pm21 an21 cd21 ct21), sl21⟩) (c21 : PySem.W.codeIn K cd21 "_law_formed" = true) (k21 : PySem.W.keepIn K (.ref f21) = true)
    (a22 : PySem.W.nsIn K mainGlobals "law" = some (some (.ref f22))) (l22 : K.lookup f22 = some ⟨oc22, od22, .func (PySem.W.fnOf "law" "law" (defArgs sLaw) (defBody sLaw) (defScope sLaw) .none kV22 dc22 pm22 an22 cd22 ct22), sl22⟩) (c22 : PySem.W.codeIn K cd22 "law" = true) (k22 : PySem.W.keepIn K (.ref f22) = true)
    (aC : PySem.W.nsIn K mainGlobals "NoNumber" = some (some (.ref C)))
    (xC : PySem.W.excIn K C [.type "ValueError", .type "Exception", .type "BaseException", .type "object"] "ValueError.__new__" = true)
    (z_abs : PySem.W.nsIn K mainGlobals "abs" = some none)
    (z_len : PySem.W.nsIn K mainGlobals "len" = some none)
    (z_range : PySem.W.nsIn K mainGlobals "range" = some none)
    (z_list : PySem.W.nsIn K mainGlobals "list" = some none)
    (z_zip : PySem.W.nsIn K mainGlobals "zip" = some none)
    (z_tuple : PySem.W.nsIn K mainGlobals "tuple" = some none)
    (z_isinstance : PySem.W.nsIn K mainGlobals "isinstance" = some none)
    (z_int : PySem.W.nsIn K mainGlobals "int" = some none)
    (z_bool : PySem.W.nsIn K mainGlobals "bool" = some none)
    (z_all : PySem.W.nsIn K mainGlobals "all" = some none)
    (z_min : PySem.W.nsIn K mainGlobals "min" = some none)
    (z_enumerate : PySem.W.nsIn K mainGlobals "enumerate" = some none)
    : ∃ fd : FuncData, (∀ (s : Shared) (v : Value), BindsTo s fd ⟨[v], []⟩ [("_law_script", v)]) ∧ ∀ base : Heap, K.In base → base.Ns mainGlobals mg → FnOk l.prog w K mg base CX0 5 fa fd ["_law_script"] (spLaw K) := by
  have e := hfa.symm.trans (PySem.W.mg_of X G a22)
  cases e
  have F1 := fun_mk (st := sCommon) l1 c1 k1
  have b1 := F1.binds (ps := ["one", "other"]) fun _ _ _ _ _ _ us hl => match us, hl with | [_, _], _ => rfl
  have m1 := PySem.W.mg_of X G a1
  have F2 := fun_mk (st := sFraction) l2 c2 k2
  have b2 := F2.binds (ps := ["top", "bottom"]) fun _ _ _ _ _ _ us hl => match us, hl with | [_, _], _ => rfl
  have m2 := PySem.W.mg_of X G a2
  have F3 := fun_mk (st := sCBot) l3 c3 k3
  have b3 := F3.binds (ps := ["row"]) fun _ _ _ _ _ _ us hl => match us, hl with | [_], _ => rfl
  have m3 := PySem.W.mg_of X G a3
  have F4 := fun_mk (st := sWholes) l4 c4 k4
  have b4 := F4.binds (ps := ["row", "bottom"]) fun _ _ _ _ _ _ us hl => match us, hl with | [_, _], _ => rfl
  have m4 := PySem.W.mg_of X G a4
  have F5 := fun_mk (st := s_numbers_of) l5 c5 k5
  have b5 := F5.binds (ps := ["floor"]) fun _ _ _ _ _ _ us hl => match us, hl with | [_], _ => rfl
  have m5 := PySem.W.mg_of X G a5
  have F6 := fun_mk (st := s_whole_floor) l6 c6 k6
  have b6 := F6.binds (ps := ["floor", "bottom"]) fun _ _ _ _ _ _ us hl => match us, hl with | [_, _], _ => rfl
  have m6 := PySem.W.mg_of X G a6
  have F7 := fun_mk (st := s_brought) l7 c7 k7
  have b7 := F7.binds (ps := ["floor"]) fun _ _ _ _ _ _ us hl => match us, hl with | [_], _ => rfl
  have m7 := PySem.W.mg_of X G a7
  have F8 := fun_mk (st := s_law_cell_at) l8 c8 k8
  have b8 := F8.binds (ps := ["_law_script", "_law_k"]) fun _ _ _ _ _ _ us hl => match us, hl with | [_, _], _ => rfl
  have m8 := PySem.W.mg_of X G a8
  have F9 := fun_mk (st := s_law_lowest) l9 c9 k9
  have b9 := F9.binds (ps := ["_law_top", "_law_bottom"]) fun _ _ _ _ _ _ us hl => match us, hl with | [_, _], _ => rfl
  have m9 := PySem.W.mg_of X G a9
  have F10 := fun_mk (st := s_law_wheel) l10 c10 k10
  have b10 := F10.binds (ps := ["_law_box", "_law_x", "_law_y", "_law_way"]) fun _ _ _ _ _ _ us hl => match us, hl with | [_, _, _, _], _ => rfl
  have m10 := PySem.W.mg_of X G a10
  have F11 := fun_mk (st := s_law_two) l11 c11 k11
  have b11 := F11.binds (ps := ["_law_low", "_law_high", "_law_cell"]) fun _ _ _ _ _ _ us hl => match us, hl with | [_, _, _], _ => rfl
  have m11 := PySem.W.mg_of X G a11
  have F12 := fun_mk (st := s_law_broken) l12 c12 k12
  have b12 := F12.binds (ps := ["_law_box", "_law_cell"]) fun _ _ _ _ _ _ us hl => match us, hl with | [_, _], _ => rfl
  have m12 := PySem.W.mg_of X G a12
  have F13 := fun_mk (st := s_law_built) l13 c13 k13
  have b13 := F13.binds (ps := ["_law_script", "_law_first", "_law_last", "_law_wide", "_law_high", "_law_most"]) fun _ _ _ _ _ _ us hl => match us, hl with | [_, _, _, _, _, _], _ => rfl
  have m13 := PySem.W.mg_of X G a13
  have F14 := fun_mk (st := s_law_scaled_one) l14 c14 k14
  have b14 := F14.binds (ps := ["_law_number", "_law_scale"]) fun _ _ _ _ _ _ us hl => match us, hl with | [_, _], _ => rfl
  have m14 := PySem.W.mg_of X G a14
  have F15 := fun_mk (st := s_law_scaled) l15 c15 k15
  have b15 := F15.binds (ps := ["_law_box", "_law_scale"]) fun _ _ _ _ _ _ us hl => match us, hl with | [_, _], _ => rfl
  have m15 := PySem.W.mg_of X G a15
  have F16 := fun_mk (st := s_law_floor_of) l16 c16 k16
  have b16 := F16.binds (ps := ["_law_boxes", "_law_wide", "_law_high", "_law_scale"]) fun _ _ _ _ _ _ us hl => match us, hl with | [_, _, _, _], _ => rfl
  have m16 := PySem.W.mg_of X G a16
  have F17 := fun_mk (st := s_law_side) l17 c17 k17
  have b17 := F17.binds (ps := ["_law_cell"]) fun _ _ _ _ _ _ us hl => match us, hl with | [_], _ => rfl
  have m17 := PySem.W.mg_of X G a17
  have F18 := fun_mk (st := s_law_numbers) l18 c18 k18
  have b18 := F18.binds (ps := ["_law_floor"]) fun _ _ _ _ _ _ us hl => match us, hl with | [_], _ => rfl
  have m18 := PySem.W.mg_of X G a18
  have F19 := fun_mk (st := s_law_spoilt) l19 c19 k19
  have b19 := F19.binds (ps := ["_law_script", "_law_boxes"]) fun _ _ _ _ _ _ us hl => match us, hl with | [_, _], _ => rfl
  have m19 := PySem.W.mg_of X G a19
  have F20 := fun_mk (st := s_law_shared) l20 c20 k20
  have b20 := F20.binds (ps := ["_law_one", "_law_other"]) fun _ _ _ _ _ _ us hl => match us, hl with | [_, _], _ => rfl
  have m20 := PySem.W.mg_of X G a20
  have F21 := fun_mk (st := s_law_formed) l21 c21 k21
  have b21 := F21.binds (ps := ["_law_floor", "_law_many"]) fun _ _ _ _ _ _ us hl => match us, hl with | [_, _], _ => rfl
  have m21 := PySem.W.mg_of X G a21
  have F22 := fun_mk (st := sLaw) l22 c22 k22
  have mC := PySem.W.mg_of X G aC
  have m_abs := PySem.W.mg_none_of X G z_abs
  have m_len := PySem.W.mg_none_of X G z_len
  have m_range := PySem.W.mg_none_of X G z_range
  have m_list := PySem.W.mg_none_of X G z_list
  have m_zip := PySem.W.mg_none_of X G z_zip
  have m_tuple := PySem.W.mg_none_of X G z_tuple
  have m_isinstance := PySem.W.mg_none_of X G z_isinstance
  have m_int := PySem.W.mg_none_of X G z_int
  have m_bool := PySem.W.mg_none_of X G z_bool
  have m_all := PySem.W.mg_none_of X G z_all
  have m_min := PySem.W.mg_none_of X G z_min
  have m_enumerate := PySem.W.mg_none_of X G z_enumerate
  refine ⟨PySem.W.fnOf "law" "law" (defArgs sLaw) (defBody sLaw) (defScope sLaw) .none kV22 dc22 pm22 an22 cd22 ct22, fun s v => .of_eq rfl, fun base _ _ => ?_⟩
  have O1 : FnOk l.prog w K mg base CX0 1 f1 _ ["one", "other"] spGcd := ok_common F1 m_abs
  have O2 : FnOk l.prog w K mg base (CXr l.prog w) 2 f2 _ ["top", "bottom"] (spFrac C) := ok_fraction (bm := []) F2 O1 b1 k1 m1 mC xC
  have O3 : FnOk l.prog w K mg base CX0 2 f3 _ ["row"] spCBL := ok_cbotL F3 O1 b1 k1 m1
  have O4 : FnOk l.prog w K mg base CX0 1 f4 _ ["row", "bottom"] spWholes := ok_wholes F4
  have O5 : FnOk l.prog w K mg base CX0 1 f5 _ ["floor"] spNums := ok_nums F5 m_list
  have O6 : FnOk l.prog w K mg base CX0 2 f6 _ ["floor", "bottom"] spWF := ok_wf F6 O4 b4 k4 m4
  have O7 : FnOk l.prog w K mg base CX0 3 f7 _ ["floor"] spBrt := ok_brought F7 O1 b1 k1 m1 O2 b2 k2 m2 O3 b3 k3 m3 O5 b5 k5 m5 O6 b6 k6 m6 m_tuple
  have O8 : FnOk l.prog w K mg base CX0 1 f8 _ ["_law_script", "_law_k"] (spCell K) := ok_cell F8 m_len
  have O9 : FnOk l.prog w K mg base CX0 1 f9 _ ["_law_top", "_law_bottom"] spLow := ok_low F9 m_abs
  have O10 : FnOk l.prog w K mg base CX0 1 f10 _ ["_law_box", "_law_x", "_law_y", "_law_way"] spWheel := ok_wheel F10
  have O11 : FnOk l.prog w K mg base CX0 1 f11 _ ["_law_low", "_law_high", "_law_cell"] spTwo := ok_two F11
  have O12 : FnOk l.prog w K mg base CX0 2 f12 _ ["_law_box", "_law_cell"] spBroken := ok_broken F12 O11 b11 k11 m11 O10 b10 k10 m10
  have O13 : FnOk l.prog w K mg base CX0 3 f13 _ ["_law_script", "_law_first", "_law_last", "_law_wide", "_law_high", "_law_most"] (spBuilt K) := ok_built F13 O8 b8 k8 m8 O12 b12 k12 m12 m_len m_min m_range
  have O14 : FnOk l.prog w K mg base CX0 2 f14 _ ["_law_number", "_law_scale"] spScO := ok_scO F14 O9 b9 k9 m9
  have O15 : FnOk l.prog w K mg base CX0 3 f15 _ ["_law_box", "_law_scale"] spScd := ok_scd F15 O14 b14 k14 m14 m_tuple
  have O16 : FnOk l.prog w K mg base CX0 4 f16 _ ["_law_boxes", "_law_wide", "_law_high", "_law_scale"] spFlo := ok_flo F16 O14 b14 k14 m14 O15 b15 k15 m15 m_tuple
  have O17 : FnOk l.prog w K mg base CX0 1 f17 _ ["_law_cell"] spSide := ok_side F17
  have O18 : FnOk l.prog w K mg base CX0 1 f18 _ ["_law_floor"] spNums := ok_lnums F18 m_list
  have O19 : FnOk l.prog w K mg base CX0 2 f19 _ ["_law_script", "_law_boxes"] (spSpo K) := ok_spoilt F19 O8 b8 k8 m8 m_enumerate
  have O20 : FnOk l.prog w K mg base CX0 1 f20 _ ["_law_one", "_law_other"] spShd := ok_shared F20
  have O21 : FnOk l.prog w K mg base CX0 2 f21 _ ["_law_floor", "_law_many"] spFmd := ok_formed F21 O18 b18 k18 m18 m_isinstance m_tuple m_int m_bool m_len m_all
  exact ok_law F22 O8 b8 k8 m8 O17 b17 k17 m17 O19 b19 k19 m19 O13 b13 k13 m13 O9 b9 k9 m9 O16 b16 k16 m16 O7 b7 k7 m7 O21 b21 k21 m21 O18 b18 k18 m18 O20 b20 k20 m20 m_len m_zip m_abs
theorem walk {l : PySem.W.OpenLaw} {q : Program} {loose : List Str} {XP : (Str → Option Value) → Heap → Prop} {YP : World → Heap → Prop} {d : DefRec} {K : Params → PySem.W.Frag} (hn : l.most = some 63) (hdf : d.params.defaults = [])
    (hY : ∀ (w : World) (h : Heap), YP w h → (K w.params).In h)
    (F : ∀ (w : World) (mg : Str → Option Value) (fa : Addr) (h : Heap), (K w.params).In h → h.Ns mainGlobals mg → mg d.name = some (.ref fa) →
      ∃ fd : FuncData, (∀ (s : Shared) (u : Value), BindsTo s fd ⟨[u], []⟩ [("_law_script", u)]) ∧ ∀ base : Heap, (K w.params).In base → base.Ns mainGlobals mg → FnOk l.prog w (K w.params) mg base CX0 5 fa fd ["_law_script"] (spLaw (K w.params))) :
    PySem.W.WalkO q loose XP YP l.row.toRowW d [] (fun f vs => PySem.call f vs) :=
  L2.walk_of (n := 63) (k := 5) (x := "_law_script") (CX := fun _ => CX0) (sp := fun w => spLaw (K w.params)) hn (by decide) hdf ⟨rfl, by decide, by decide⟩ hY F (fun _ _ a ns hl _ hS => ⟨a, ns, rfl, hS, hl, fun _ => rfl⟩) fun _ _ _ _ _ z => z
end My
open PySem PySem.W PyProof.Rows
set_option maxRecDepth 100000 in
set_option maxHeartbeats 0 in
theorem PySem.Challenge.cw_currentfloor_k50_brought_holds : PySem.Challenge.rw_currentfloor_k50_brought.Holds := by
  w_on; o_law; k_head; (case hw => w_witness2)
  k_fill
  refine My.walk (l := PySem.Challenge.rw_currentfloor_k50_brought) rfl rfl (fun w h Y => PySem.W.kIn_of Y) ?F
  case F =>
    intro w mg fa h KX G hmg
    refine' My.all_mk KX G hmg ?a1 ?l1 ?c1 ?k1 ?a2 ?l2 ?c2 ?k2 ?a3 ?l3 ?c3 ?k3 ?a4 ?l4 ?c4 ?k4 ?a5 ?l5 ?c5 ?k5 ?a6 ?l6 ?c6 ?k6 ?a7 ?l7 ?c7 ?k7 ?a8 ?l8 ?c8 ?k8 ?a9 ?l9 ?c9 ?k9 ?a10 ?l10 ?c10 ?k10 ?a11 ?l11 ?c11 ?k11 ?a12 ?l12 ?c12 ?k12 ?a13 ?l13 ?c13 ?k13 ?a14 ?l14 ?c14 ?k14 ?a15 ?l15 ?c15 ?k15 ?a16 ?l16 ?c16 ?k16 ?a17 ?l17 ?c17 ?k17 ?a18 ?l18 ?c18 ?k18 ?a19 ?l19 ?c19 ?k19 ?a20 ?l20 ?c20 ?k20 ?a21 ?l21 ?c21 ?k21 ?a22 ?l22 ?c22 ?k22 ?aC ?xC ?z_abs ?z_len ?z_range ?z_list ?z_zip ?z_tuple ?z_isinstance ?z_int ?z_bool ?z_all ?z_min ?z_enumerate
    (case a1 => k_is)
    (case l1 => k_is)
    (case c1 => k_is)
    (case k1 => k_is)
    (case a2 => k_is)
    (case l2 => k_is)
    (case c2 => k_is)
    (case k2 => k_is)
    (case a3 => k_is)
    (case l3 => k_is)
    (case c3 => k_is)
    (case k3 => k_is)
    (case a4 => k_is)
    (case l4 => k_is)
    (case c4 => k_is)
    (case k4 => k_is)
    (case a5 => k_is)
    (case l5 => k_is)
    (case c5 => k_is)
    (case k5 => k_is)
    (case a6 => k_is)
    (case l6 => k_is)
    (case c6 => k_is)
    (case k6 => k_is)
    (case a7 => k_is)
    (case l7 => k_is)
    (case c7 => k_is)
    (case k7 => k_is)
    (case a8 => k_is)
    (case l8 => k_is)
    (case c8 => k_is)
    (case k8 => k_is)
    (case a9 => k_is)
    (case l9 => k_is)
    (case c9 => k_is)
    (case k9 => k_is)
    (case a10 => k_is)
    (case l10 => k_is)
    (case c10 => k_is)
    (case k10 => k_is)
    (case a11 => k_is)
    (case l11 => k_is)
    (case c11 => k_is)
    (case k11 => k_is)
    (case a12 => k_is)
    (case l12 => k_is)
    (case c12 => k_is)
    (case k12 => k_is)
    (case a13 => k_is)
    (case l13 => k_is)
    (case c13 => k_is)
    (case k13 => k_is)
    (case a14 => k_is)
    (case l14 => k_is)
    (case c14 => k_is)
    (case k14 => k_is)
    (case a15 => k_is)
    (case l15 => k_is)
    (case c15 => k_is)
    (case k15 => k_is)
    (case a16 => k_is)
    (case l16 => k_is)
    (case c16 => k_is)
    (case k16 => k_is)
    (case a17 => k_is)
    (case l17 => k_is)
    (case c17 => k_is)
    (case k17 => k_is)
    (case a18 => k_is)
    (case l18 => k_is)
    (case c18 => k_is)
    (case k18 => k_is)
    (case a19 => k_is)
    (case l19 => k_is)
    (case c19 => k_is)
    (case k19 => k_is)
    (case a20 => k_is)
    (case l20 => k_is)
    (case c20 => k_is)
    (case k20 => k_is)
    (case a21 => k_is)
    (case l21 => k_is)
    (case c21 => k_is)
    (case k21 => k_is)
    (case a22 => k_is)
    (case l22 => k_is)
    (case c22 => k_is)
    (case k22 => k_is)
    (case aC => k_is)
    (case xC => k_exc)
    (case z_abs => k_is)
    (case z_len => k_is)
    (case z_range => k_is)
    (case z_list => k_is)
    (case z_zip => k_is)
    (case z_tuple => k_is)
    (case z_isinstance => k_is)
    (case z_int => k_is)
    (case z_bool => k_is)
    (case z_all => k_is)
    (case z_min => k_is)
    (case z_enumerate => k_is)
