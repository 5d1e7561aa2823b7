import PyProof.Rows.All
import Wide.All
import OpenK.AllK
import Wide.FinOn
import Lean
import PyProof.EqAt
import PyProof.EqKinds
import PyProof.TupleCall
import PySem.Challenge.RW_currentfloor_k20_trees_told
set_option Elab.async false
set_option linter.all false
set_option maxRecDepth 100000
/-! THE HAND LAYER, for ints, bools, texts, own classes, LISTS and tuples (index, slices, in, append, pop ..), calls, loops. Paste it whole ahead of your own text; what your proof does not reach may be deleted. -/
namespace L2
open PySem PySem.Spec PyProof.Rows

/-- a key: an int or a str -/
abbrev Key := Sum Int Str
def keyIs : Key → Value → Bool
  | .inl k, v => Value.isInt k v
  | .inr x, v => Value.isStrOf x v
def keyH (w : World) : Key → Int
  | .inl k => hashInt k
  | .inr x => hashStr w x
theorem keyIs_shape : ∀ {k : Key} {v : Value}, keyIs k v = true → (∃ i t, k = Sum.inl i ∧ v = Value.int i t) ∨ (∃ x t, k = Sum.inr x ∧ v = Value.str x t)
  | .inl i, v, h => by
    obtain ⟨t, e⟩ := Value.isInt_shape (k := i) (v := v) h
    exact .inl ⟨i, t, rfl, e⟩
  | .inr x, v, h => by
    obtain ⟨t, e⟩ := Value.isStrOf_shape (x := x) (v := v) h
    exact .inr ⟨x, t, rfl, e⟩
theorem keyIs_int (i : Int) (t : Tok) : keyIs (.inl i) (.int i t) = true := by simp [keyIs, Value.isInt]
theorem keyIs_str (x : Str) (t : Tok) : keyIs (.inr x) (.str x t) = true := by simp [keyIs, Value.isStrOf]
theorem key_ll (a b : Int) : decide ((Sum.inl a : Key) = Sum.inl b) = (a == b) := by
  by_cases e : a = b
  · subst e; simp
  · have h : ¬ (Sum.inl a : Key) = Sum.inl b := fun q => e (Sum.inl.inj q)
    rw [decide_eq_false h]
    exact (beq_eq_false_iff_ne.mpr e).symm
theorem key_rr (a b : Str) : decide ((Sum.inr a : Key) = Sum.inr b) = decide (a = b) := by
  by_cases e : a = b
  · subst e; simp
  · have h : ¬ (Sum.inr a : Key) = Sum.inr b := fun q => e (Sum.inr.inj q)
    rw [decide_eq_false h, decide_eq_false e]
theorem key_lr (a : Int) (b : Str) : decide ((Sum.inl a : Key) = Sum.inr b) = false := decide_eq_false (fun q => nomatch q)
theorem key_rl (a : Str) (b : Int) : decide ((Sum.inr a : Key) = Sum.inl b) = false := decide_eq_false (fun q => nomatch q)

def mixKind (prog : Program) (w : World) : PySem.KeyKind prog w Key where
  is := keyIs
  hash := keyH w
  inj := fun v a b ha hb => by
    rcases keyIs_shape ha with ⟨i, t, rfl, rfl⟩ | ⟨x, t, rfl, rfl⟩
    · rcases keyIs_shape hb with ⟨j, u, rfl, e⟩ | ⟨y, u, rfl, e⟩
      · injection e with e1 _; rw [e1]
      · exact nomatch e
    · rcases keyIs_shape hb with ⟨j, u, rfl, e⟩ | ⟨y, u, rfl, e⟩
      · exact nomatch e
      · injection e with e1 _; rw [e1]
  byValue := fun k v h => by
    rcases keyIs_shape h with ⟨i, t, rfl, rfl⟩ | ⟨x, t, rfl, rfl⟩ <;> rfl
  pyHash := fun hv h => by
    rcases keyIs_shape hv with ⟨i, t, rfl, rfl⟩ | ⟨x, t, rfl, rfl⟩
    · exact wpAny_pyHash_int h
    · exact wpAny_pyHash_str h
  eqBool := fun hu hv h => by
    rcases keyIs_shape hu with ⟨i, t, rfl, rfl⟩ | ⟨x, t, rfl, rfl⟩
    · rcases keyIs_shape hv with ⟨j, u, rfl, rfl⟩ | ⟨y, u, rfl, rfl⟩
      · rw [key_ll] at h; exact wpAny_eqBool_int h
      · rw [key_lr] at h; exact SeqAt.EqAt.int_str i t y u _ _ _ _ h
    · rcases keyIs_shape hv with ⟨j, u, rfl, rfl⟩ | ⟨y, u, rfl, rfl⟩
      · rw [key_rl] at h; exact SeqAt.EqAt.str_int x t j u _ _ _ _ h
      · rw [key_rr] at h; exact wpAny_eqBool_str h
  «strs» := fun k x t v h => by
    rcases keyIs_shape h with ⟨i, u, rfl, e⟩ | ⟨y, u, rfl, e⟩
    · exact nomatch e
    · injection e with e1 _
      subst e1
      cases v <;> rfl

theorem mixKind_int (prog : Program) (w : World) (i : Int) (t : Tok) : (mixKind prog w).is (.inl i) (.int i t) = true := keyIs_int i t
theorem mixKind_str (prog : Program) (w : World) (x : Str) (t : Tok) : (mixKind prog w).is (.inr x) (.str x t) = true := keyIs_str x t
end L2

namespace L2
open PySem PySem.Spec PyProof.Rows

/-- a value, without the heap -/
inductive V where
  | non | bl (b : Bool) | int (i : Int) | str (x : Str) | byt (b : Array UInt8) | flt (b : UInt64) | ref (a : Addr) | ty (n : String)
  deriving DecidableEq

def RelV : V → Value → Prop
  | .non, u => u = Value.none
  | .bl b, u => u = Value.bool b
  | .int i, u => ∃ t, u = Value.int i t
  | .str x, u => ∃ t, u = Value.str x t
  | .byt b, u => ∃ t, u = Value.bytes b t
  | .flt b, u => ∃ t, u = Value.float b t
  | .ref a, u => u = Value.ref a
  | .ty n, u => u = Value.type n

abbrev Vals : List V → List Value → Prop := Paired RelV
theorem Vals.length {xs : List V} {us : List Value} (r : Vals xs us) : xs.length = us.length := Paired.length r
theorem Vals.get : ∀ {xs : List V} {us : List Value} {i : Nat} {x : V}, Vals xs us → xs[i]? = some x → ∃ u, us[i]? = some u ∧ RelV x u
  | _, _, _, _, .nil, e => by simp at e
  | _, _, 0, _, .cons r _, e => by simp at e; subst e; exact ⟨_, rfl, r⟩
  | _, _, i + 1, x, .cons _ t, e => by
    obtain ⟨u, h1, h2⟩ := Vals.get (i := i) (x := x) t (by simpa using e)
    exact ⟨u, by simpa using h1, h2⟩
theorem Vals.set {x : V} {u : Value} (r : RelV x u) : ∀ {xs : List V} {us : List Value} (i : Nat), Vals xs us → Vals (xs.set i x) (us.set i u)
  | _, _, _, .nil => .nil
  | _, _, 0, .cons _ t => .cons r t
  | _, _, i + 1, .cons q t => .cons q (Vals.set r i t)
theorem Vals.append : ∀ {xs ys : List V} {us ws : List Value}, Vals xs us → Vals ys ws → Vals (xs ++ ys) (us ++ ws)
  | _, _, _, _, .nil, s => s
  | _, _, _, _, .cons r t, s => .cons r (Vals.append t s)
theorem Vals.take : ∀ {xs : List V} {us : List Value} (n : Nat), Vals xs us → Vals (xs.take n) (us.take n)
  | _, _, 0, _ => .nil
  | _, _, _ + 1, .nil => .nil
  | _, _, n + 1, .cons r t => .cons r (Vals.take n t)
theorem Vals.drop : ∀ {xs : List V} {us : List Value} (n : Nat), Vals xs us → Vals (xs.drop n) (us.drop n)
  | _, _, 0, r => r
  | _, _, _ + 1, .nil => .nil
  | _, _, n + 1, .cons _ t => Vals.drop n t
theorem Vals.none_of : ∀ {xs : List V} {us : List Value} {i : Nat}, Vals xs us → xs[i]? = none → us[i]? = none := fun {xs us i} r e => by
  have h1 := r.length
  have h2 : xs.length ≤ i := List.getElem?_eq_none_iff.mp e
  exact List.getElem?_eq_none_iff.mpr (by omega)

def RelO : Option V → Option Value → Prop
  | some v, some u => RelV v u
  | none, none => True
  | _, _ => False
def KV {κ : Type} : List (κ × V) → List (κ × Value) → Prop := Paired fun (p : κ × V) (q : κ × Value) => p.1 = q.1 ∧ RelV p.2 q.2

/-- a key of a dict (00_mix): an int or a text -/
def kV : Key → V
  | .inl i => .int i
  | .inr x => .str x

/-- what stands at a tracked address -/
inductive HO where
  /-- a list -/
  | lst (xs : List V)
  /-- a tuple (never changes) -/
  | tup (xs : List V)
  /-- a dict whose keys are ints and texts; one whose keys are tuples of ints and texts (the empty one is both) -/
  | dK (kvs : List (Key × V)) | dT (kvs : List (List Key × V))
  /-- a set of ints: its members, its size -/
  | set (S : Int → Bool) (n : Nat)
  /-- an instance of the class at C, its dict at dx, its attributes -/
  | ins (C dx : Addr) (fs : List (Str × V))
  /-- the dict of the instance at x -/
  | own (x : Addr)
  /-- the dict of an exception -/
  | xd (fs : List (Str × V))
  /-- a bound method, f of x -/
  | met (f x : Addr)
  /-- a range object lo, lo + 1, .. below hi -/
  | rng (lo hi : Int)
  /-- a thing that is known to the object (the script; a dict while a loop walks it): read, never written while it is so -/
  | frz (o : Obj) (u : HO)
  /-- a code object's table -/
  | tbl (ps : Array Value)
  /-- any other thing, by what is true of its one object (a def of one's own: SetO a S n := HO.ext fun h => ..) -/
  | ext (φ : Heap → Prop)

abbrev Hp := Addr → Option HO
def upd (H : Hp) (a : Addr) (o : HO) : Hp := fun b => if b = a then some o else H b
theorem upd_same {H : Hp} {a : Addr} {o : HO} : upd H a o a = some o := by unfold upd; rw [if_pos rfl]
theorem upd_ne {H : Hp} {a b : Addr} {o : HO} (h : b ≠ a) : upd H a o b = H b := by unfold upd; rw [if_neg h]
/-- two objects of different content stand apart -/
theorem ne_of {H : Hp} {a b : Addr} {o u : HO} (h : H a = some o) (h' : H b = some u) (d : o ≠ u) : a ≠ b := by
  intro e; subst e; rw [h] at h'; exact d (Option.some.inj h')
theorem ne_of_none {H : Hp} {a b : Addr} {o : HO} (h : H a = some o) (h' : H b = none) : a ≠ b := by
  intro e; subst e; rw [h] at h'; cases h'

section
variable (P : Program) (w : World)
def ObjOk (H : Hp) (h : Heap) (a : Addr) : HO → Prop
  | .lst xs => xs.length ≤ sizeLine ∧ ∃ (its : List Value) (n : Nat), Vals xs its ∧ h.get? a = some { cls := .type "list", data := .seq its.toArray n }
  | .tup xs => xs.length ≤ sizeLine ∧ ∃ its : List Value, Vals xs its ∧ IsTup h a its.toArray ∧ ∃ o, h.get? a = some o ∧ o.dict = none
  | .dK kvs => kvs.length ≤ sizeLine ∧ (a == sysModules) = false ∧ ∃ vs, KV kvs vs ∧ h.DictOf (mixKind P w) a vs
  | .dT kvs => kvs.length ≤ sizeLine ∧ (a == sysModules) = false ∧ ∃ xs : List (List Key × Addr × Value),
      Paired (fun (p : List Key × V) (q : List Key × Addr × Value) => p.1 = q.1 ∧ H q.2.1 = some (.tup (p.1.map kV)) ∧ RelV p.2 q.2.2) kvs xs ∧
      ∃ o es ep, h.get? a = some o ∧ o.ExactDict ∧ o.data = .dict es ep ∧ es.toList = xs.map (entryOfKey (tupleKind (mixKind P w))) ∧ (xs.map (·.1)).Nodup
  | .set S n => h.SetOf (intKind P w) a S n
  | .ins C dx fs => H dx = some (.own a) ∧ fs.length ≤ 1000 ∧ dx ≠ a ∧ h.get? a = some (PySem.W.instObj C dx) ∧
      ∃ mA, h.Ns1 dx mA ∧ (∀ f, RelO (fs.lookup f) (mA f)) ∧ PySem.Within mA (fs.map (·.1))
  | .own _ => ∃ o, h.get? a = some o
  | .xd fs => ∃ mA, h.Ns1 a mA ∧ ∀ f, RelO (fs.lookup f) (mA f)
  | .rng lo hi => ∃ t u v, h.get? a = some { cls := .type "range", data := .fields #[.int lo t, .int hi u, .int 1 v] }
  | .frz o u => h.get? a = some o ∧ ObjOk H h a u
  | .tbl ps => h.get? a = some { cls := .none, data := .fields ps }
  | .met f x => h.get? a = some (PySem.W.methodObj (.ref f) (.ref x))
  | .ext φ => φ h ∧ (∃ o, h.get? a = some o) ∧ ∀ h1 h2 : Heap, φ h1 → (∀ o, h1.get? a = some o → h2.get? a = some o) → φ h2
/-- the abstract heap is held -/
def HOk (H : Hp) (h : Heap) : Prop := ∀ a o, H a = some o → ObjOk P w H h a o
end

section
variable {P : Program} {w : World} {H H' : Hp} {h h' : Heap} {a : Addr} {o : HO}
theorem ObjOk.lt (x : ObjOk P w H h a o) : a < h.objs.size := by
  cases o with
  | lst xs => obtain ⟨_, _, _, _, e⟩ := x; exact Heap.lt_size e
  | tup xs => obtain ⟨_, _, _, p, _⟩ := x; exact p.lt
  | dK kvs => obtain ⟨_, _, _, _, o, _, _, e, _⟩ := x; exact Heap.lt_size e
  | dT kvs => obtain ⟨_, _, _, _, o, _, _, e, _⟩ := x; exact Heap.lt_size e
  | set S n => obtain ⟨o, _, _, _, e, _⟩ := x; exact Heap.lt_size e
  | ins C dx fs => obtain ⟨_, _, _, e, _⟩ := x; exact Heap.lt_size e
  | own y => obtain ⟨_, e⟩ := x; exact Heap.lt_size e
  | xd fs => obtain ⟨_, ⟨_, _, _, e, _⟩, _⟩ := x; exact Heap.lt_size e
  | rng lo hi => obtain ⟨_, _, _, e⟩ := x; exact Heap.lt_size e
  | frz ob u => obtain ⟨e, _⟩ := x; exact Heap.lt_size e
  | tbl ps => exact Heap.lt_size (show h.get? a = some _ from x)
  | met f y => exact Heap.lt_size (show h.get? a = some _ from x)
  | ext φ => obtain ⟨_, ⟨_, e⟩, _⟩ := x; exact Heap.lt_size e
theorem Paired.mapP {α β : Type} {F G : α → β → Prop} : ∀ {l₁ : List α} {l₂ : List β}, Paired F l₁ l₂ → (∀ a b, F a b → G a b) → Paired G l₁ l₂
  | _, _, .nil, _ => .nil
  | _, _, .cons r t, f => .cons (f _ _ r) (Paired.mapP t f)
/-- what an object's description leans on: its own object, its own dict, the tuples -/
theorem ObjOk.stay (x : ObjOk P w H h a o) (k : ∀ b u, (b = a ∨ H b = some (.own a)) → h.get? b = some u → h'.get? b = some u)
    (ho : ∀ b, H b = some (.own a) → H' b = some (.own a)) (ht : ∀ b xs, H b = some (.tup xs) → H' b = some (.tup xs)) : ObjOk P w H' h' a o := by
  induction o with
  | lst xs => obtain ⟨z, its, n, r, e⟩ := x; exact ⟨z, its, n, r, k _ _ (.inl rfl) e⟩
  | tup xs => obtain ⟨z, its, r, ⟨ob, e, c⟩, ob2, e2, c2⟩ := x; exact ⟨z, its, r, ⟨ob, k _ _ (.inl rfl) e, c⟩, ob2, k _ _ (.inl rfl) e2, c2⟩
  | dK kvs => obtain ⟨z, y, vs, r, ob, es, ep, e, c⟩ := x; exact ⟨z, y, vs, r, ob, es, ep, k _ _ (.inl rfl) e, c⟩
  | dT kvs =>
    obtain ⟨z, y, xs, r, ob, es, ep, e, c⟩ := x
    exact ⟨z, y, xs, Paired.mapP r fun p q z => ⟨z.1, ht _ _ z.2.1, z.2.2⟩, ob, es, ep, k _ _ (.inl rfl) e, c⟩
  | set S n => obtain ⟨ob, es, ep, t, e, c⟩ := x; exact ⟨ob, es, ep, t, k _ _ (.inl rfl) e, c⟩
  | ins C dx fs =>
    obtain ⟨d, z, ne, e, mA, ⟨od, es, ep, e2, c⟩, r⟩ := x
    exact ⟨ho _ d, z, ne, k _ _ (.inl rfl) e, mA, ⟨od, es, ep, k _ _ (.inr d) e2, c⟩, r⟩
  | own y => obtain ⟨ob, e⟩ := x; exact ⟨ob, k _ _ (.inl rfl) e⟩
  | xd fs => obtain ⟨mA, ⟨od, es, ep, e, c⟩, r⟩ := x; exact ⟨mA, ⟨od, es, ep, k _ _ (.inl rfl) e, c⟩, r⟩
  | rng lo hi => obtain ⟨t, u, v, e⟩ := x; exact ⟨t, u, v, k _ _ (.inl rfl) e⟩
  | frz ob u ih => obtain ⟨e, q⟩ := x; exact ⟨k _ _ (.inl rfl) e, ih q⟩
  | tbl ps =>
    have e : h.get? a = some { cls := .none, data := .fields ps } := x
    show h'.get? a = some { cls := .none, data := .fields ps }
    exact k a _ (.inl rfl) e
  | met f y =>
    have e : h.get? a = some (PySem.W.methodObj (.ref f) (.ref y)) := x
    show h'.get? a = some (PySem.W.methodObj (.ref f) (.ref y))
    exact k a _ (.inl rfl) e
  | ext φ => obtain ⟨p, ⟨o, e⟩, st⟩ := x; exact ⟨st _ _ p fun o q => k _ _ (.inl rfl) q, ⟨o, k _ _ (.inl rfl) e⟩, st⟩
theorem HOk.lt (x : HOk P w H h) (e : H a = some o) : a < h.objs.size := (x a o e).lt
theorem HOk.fresh (x : HOk P w H h) (e : h.objs.size ≤ a) : H a = none := by
  cases q : H a with
  | none => rfl
  | some u => exact absurd (Nat.lt_of_lt_of_le (x.lt q) e) (Nat.lt_irrefl _)
/-- every object of the heap is kept -/
theorem HOk.kept (x : HOk P w H h) (k : ∀ b u, h.get? b = some u → h'.get? b = some u) : HOk P w H h' := fun a o e =>
  (x a o e).stay (fun b u _ q => k b u q) (fun _ q => q) fun _ _ q => q
/-- a new object is laid and tracked -/
theorem HOk.laid (x : HOk P w H h) (k : ∀ b u, h.get? b = some u → h'.get? b = some u) (hp : h.objs.size ≤ a) (new : ObjOk P w (upd H a o) h' a o) : HOk P w (upd H a o) h' := fun b u e => by
  have hn := x.fresh hp
  by_cases hb : b = a
  · subst hb; rw [upd_same] at e; cases e; exact new
  · rw [upd_ne hb] at e
    exact (x b u e).stay (fun c v _ q => k c v q) (fun c q => by rw [upd_ne (ne_of_none q hn)]; exact q) fun c xs q => by rw [upd_ne (ne_of_none q hn)]; exact q
end

/-- what may be read as u: it is u, or a known u -/
def Rd (H : Hp) (a : Addr) (u : HO) : Prop := H a = some u ∨ ∃ o, H a = some (.frz o u)
theorem Rd.of {H : Hp} {a : Addr} {u : HO} (h : H a = some u) : Rd H a u := .inl h
theorem Rd.ok {P : Program} {w : World} {H : Hp} {h : Heap} {a : Addr} {u : HO} (r : Rd H a u) (x : HOk P w H h) : ObjOk P w H h a u := by
  rcases r with r | ⟨o, r⟩
  · exact x a u r
  · obtain ⟨_, q⟩ := x a _ r
    exact q
/-- what may be written -/
def Mut : Option HO → Prop
  | some (.lst _) => True
  | some (.dK _) => True
  | some (.dT _) => True
  | some (.set _ _) => True
  | some (.ins _ _ _) => True
  | some (.ext _) => True
  | _ => False
section
variable {P : Program} {w : World} {H : Hp} {h h' : Heap} {x e : Addr} {o' : HO}
/-- the object at e is changed: x itself, or the dict of the instance x -/
theorem HOk.write (ok : HOk P w H h) (mu : Mut (H x)) (he : e = x ∨ H e = some (.own x)) (k : ∀ b u, b ≠ e → h.get? b = some u → h'.get? b = some u) (heo : ∃ u, h'.get? e = some u)
    (new : ObjOk P w (upd H x o') h' x o') : HOk P w (upd H x o') h' := fun b u q => by
  have nown : ∀ c y, H c = some (.own y) → c ≠ x := fun c y r z => by subst z; rw [r] at mu; exact mu
  have ntup : ∀ c xs, H c = some (.tup xs) → c ≠ x := fun c xs r z => by subst z; rw [r] at mu; exact mu
  by_cases hb : b = x
  · subst hb; rw [upd_same] at q; cases q; exact new
  · rw [upd_ne hb] at q
    by_cases hbe : b = e
    · have q' : H b = some (.own x) := by
        rcases he with z | z
        · exact absurd (hbe.trans z) hb
        · rw [hbe]; exact z
      rw [q] at q'; cases q'
      obtain ⟨v, hv⟩ := heo
      exact ⟨v, by rw [hbe]; exact hv⟩
    · refine (ok b u q).stay (fun c v hc r => k c v ?_ r) (fun c r => by rw [upd_ne (nown c b r)]; exact r) fun c xs r => by rw [upd_ne (ntup c xs r)]; exact r
      rcases hc with rfl | hc
      · exact hbe
      · rintro rfl
        rcases he with z | z
        · exact nown c b hc z
        · rw [hc] at z; cases z; exact hb rfl
end

/-! ### kept unless tracked; of the frames at fs (the callers') the slots may change (an exception that passes writes there); of the records at ex (iterators) nothing is said -/
structure Un (fs ex : List Addr) (H H' : Hp) (h h' : Heap) : Prop where
  keep : ∀ b o, h.get? b = some o → H b = none → b ∉ fs → b ∉ ex → h'.get? b = some o
  slot : ∀ b o, h.get? b = some o → H b = none → b ∈ fs → b ∉ ex → ∃ sl, h'.get? b = some { o with slots := sl }
  free : ∀ b o, h.get? b = some o → H b = none → b ∉ ex → H' b = none
  there : ∀ b o, h.get? b = some o → b ∉ ex → ∃ o', h'.get? b = some o'
  tups : ∀ b xs, H b = some (.tup xs) → H' b = some (.tup xs)
  frzs : ∀ b o u, H b = some (.frz o u) → H' b = some (.frz o u)
  tbls : ∀ b ps, H b = some (.tbl ps) → ∃ more, H' b = some (.tbl (ps ++ more))
section
variable {fs fs' ex ex' : List Addr} {H H1 H2 : Hp} {h h1 h2 h' : Heap} {a x e : Addr} {o : HO}
theorem Un.any (u : Un fs ex H H1 h h1) {b : Addr} {ob : Obj} (q : h.get? b = some ob) (n : H b = none) (hx : b ∉ ex) : ∃ sl, h1.get? b = some { ob with slots := sl } := by
  by_cases hb : b ∈ fs
  · exact u.slot b ob q n hb hx
  · exact ⟨ob.slots, u.keep b ob q n hb hx⟩
theorem Un.trans (a : Un fs ex H H1 h h1) (b : Un fs ex H1 H2 h1 h2) : Un fs ex H H2 h h2 where
  keep := fun c ob q n hc hx => b.keep c ob (a.keep c ob q n hc hx) (a.free c ob q n hx) hc hx
  slot := fun c ob q n hc hx => by
    obtain ⟨sl, e1⟩ := a.slot c ob q n hc hx
    obtain ⟨sl', e2⟩ := b.slot c _ e1 (a.free c ob q n hx) hc hx
    exact ⟨sl', e2⟩
  free := fun c ob q n hx => by
    obtain ⟨o', e1⟩ := a.there c ob q hx
    exact b.free c o' e1 (a.free c ob q n hx) hx
  there := fun c ob q hx => by
    obtain ⟨o', e1⟩ := a.there c ob q hx
    exact b.there c o' e1 hx
  tups := fun c xs q => b.tups c xs (a.tups c xs q)
  frzs := fun c ob xs q => b.frzs c ob xs (a.frzs c ob xs q)
  tbls := fun c ps q => by
    obtain ⟨m1, e1⟩ := a.tbls c ps q
    obtain ⟨m2, e2⟩ := b.tbls c _ e1
    exact ⟨m1 ++ m2, by rw [e2, Array.append_assoc]⟩
theorem Un.kept (k : ∀ b u, h.get? b = some u → h'.get? b = some u) : Un fs ex H H h h' :=
  ⟨fun b ob q _ _ _ => k b ob q, fun b ob q _ _ _ => ⟨ob.slots, k b ob q⟩, fun _ _ _ n _ => n, fun b ob q _ => ⟨ob, k b ob q⟩, fun _ _ q => q, fun _ _ _ q => q, fun _ ps q => ⟨#[], by rw [q]; simp⟩⟩
theorem Un.refl : Un fs ex H H h h := Un.kept fun _ _ q => q
theorem Un.laid (k : ∀ b u, h.get? b = some u → h'.get? b = some u) (hp : h.objs.size ≤ a) (hn : H a = none) : Un fs ex H (upd H a o) h h' where
  keep := fun b u q _ _ _ => k b u q
  slot := fun b u q _ _ _ => ⟨u.slots, k b u q⟩
  free := fun b u q n _ => by rw [upd_ne (Nat.ne_of_lt (Nat.lt_of_lt_of_le (Heap.lt_size q) hp))]; exact n
  there := fun b u q _ => ⟨u, k b u q⟩
  tups := fun b xs q => by rw [upd_ne (ne_of_none q hn)]; exact q
  frzs := fun b u xs q => by rw [upd_ne (ne_of_none q hn)]; exact q
  tbls := fun b ps q => ⟨#[], by rw [upd_ne (ne_of_none q hn), q]; simp⟩
theorem Un.write (mu : Mut (H x)) (he : e = x ∨ H e = some (.own x)) (k : ∀ b u, b ≠ e → h.get? b = some u → h'.get? b = some u) (heo : ∃ u, h'.get? e = some u) : Un fs ex H (upd H x o) h h' := by
  have hx : ∀ b, H b = none → b ≠ x := fun b n z => by subst z; rw [n] at mu; exact mu
  have hb : ∀ b, H b = none → b ≠ e := fun b n z => by
    subst z
    rcases he with r | r
    · exact hx b n r
    · rw [n] at r; cases r
  have hm : ∀ b u, H b = some u → ¬ Mut (some u) → b ≠ x := fun b u q nm z => by subst z; rw [q] at mu; exact nm mu
  refine ⟨fun b u q n _ _ => k b u (hb b n) q, fun b u q n _ _ => ⟨u.slots, k b u (hb b n) q⟩, fun b u q n _ => by rw [upd_ne (hx b n)]; exact n, fun b u q _ => ?_,
    fun b xs q => by rw [upd_ne (hm b _ q fun z => z)]; exact q, fun b u xs q => by rw [upd_ne (hm b _ q fun z => z)]; exact q, fun b ps q => ⟨#[], by rw [upd_ne (hm b _ q fun z => z), q]; simp⟩⟩
  by_cases hbe : b = e
  · subst hbe; exact heo
  · exact ⟨u, k b u hbe q⟩
theorem Un.mono (u : Un fs ex H H1 h h1) (hs : ∀ b ∈ fs, b ∈ fs') (hx : ∀ b ∈ ex, b ∈ ex') : Un fs' ex' H H1 h h1 :=
  ⟨fun b ob q n hb he => u.keep b ob q n (fun z => hb (hs b z)) fun z => he (hx b z), fun _ _ q n _ he => u.any q n fun z => he (hx _ z), fun b ob q n he => u.free b ob q n fun z => he (hx b z), fun b ob q he => u.there b ob q fun z => he (hx b z), u.tups, u.frzs, u.tbls⟩
end

/-! ### the heap without what is tracked -/
def trk (h : Heap) (H : Hp) : List Addr := (List.range h.objs.size).filter fun a => (H a).isSome
def hidT (h : Heap) (H : Hp) : Heap := PySem.W.hideAll h (trk h H)
theorem hidT_size (h : Heap) (H : Hp) : (hidT h H).objs.size = h.objs.size := PySem.W.hideAll_size _ _
theorem hidT_get {h : Heap} {H : Hp} {b : Addr} {o : Obj} (e : h.get? b = some o) (n : H b = none) : (hidT h H).get? b = some o :=
  PySem.W.hideAll_get _ e fun hm => by
    have q : (H b).isSome = true := (List.mem_filter.mp hm).2
    rw [n] at q; simp at q
theorem of_hidT {h : Heap} {H : Hp} {b : Addr} {o : Obj} (e : (hidT h H).get? b = some o) : h.get? b = some o ∧ H b = none := by
  have e' : h.get? b = some o := PySem.W.of_hideAll (trk h H) e
  refine ⟨e', ?_⟩
  cases q : H b with
  | none => rfl
  | some x =>
    have hm : b ∈ trk h H := List.mem_filter.mpr ⟨List.mem_range.mpr (Heap.lt_size e'), by simp [q]⟩
    have z : (hidT h H).get? b = none := PySem.W.hideAll_none (trk h H) hm
    rw [z] at e; cases e

/-! ### OpenK's ledger, filled with every new object but one -/
def allNews (g h : Heap) (L : Addr) : List (Addr × Obj) := (List.range h.objs.size).filterMap fun a => if a = L ∨ (g.get? a).isSome = true then none else (h.get? a).map fun o => (a, o)
def rest (g h : Heap) (L d : Addr) : List (Addr × Obj) := (allNews g h L).filter fun p => decide (p.1 ≠ d)
end L2

namespace L2
open PySem PySem.Spec PyProof.Rows

/-- the module's facts, over the base: the heap at the law's entry without what is tracked there -/
structure Mod (K : PySem.W.Frag) (mg : Str → Option Value) (base : Heap) : Prop where
  kin : K.In base
  glob : base.Ns mainGlobals mg
  blt : ∃ mb, base.Ns builtinsNs mb ∧ ∀ x : Str, x ≠ "__name__" → mb x = bootBuiltins x
  nolimit : base.NoLimit

/-- the context: a def's body (or a comprehension's block) running. base: fixed through the whole law; s₀, H₀: the entry; outer: the frames whose slots others may change (a def's callers); stack: all frames that run;
   ex: iterators that were made ahead of the entry and are walked here (a comprehension's); fn: the names whose cells were made at the entry (a def: all; a comprehension's block: its own); calm: not within an except suite; pn: pins that every state bears; xe: what is wanted of an exception that leaves the code -/
structure Cx where
  prog : Program
  w : World
  K : PySem.W.Frag
  mg : Str → Option Value
  base : Heap
  A : Around
  N : List Str
  s₀ : Shared
  H₀ : Hp
  env : Env
  outer : List Env
  stack : List Env
  ex : List Addr
  fn : Str → Bool
  calm : Bool
  pn : List (Addr × Obj)
  xe : Value → Shared → Prop
/-- the callers' frames -/
def frs (l : List Env) : List Addr := l.filterMap (·.frame)
abbrev Cx.fs (X : Cx) : List Addr := frs X.outer

def Vis (sc : Scope) (x : Str) : Prop := sc.names.lookup x = some .local ∨ sc.names.lookup x = some .cell ∨ sc.names.lookup x = some .free
def Loc (sc : Scope) (x : Str) : Prop := sc.names.lookup x = some .local ∨ sc.names.lookup x = some .cell
def Look (env : Env) (h : Heap) (m : Str → Option Value) (x : Str) (u : Value) : Prop :=
  (env.kindOf x = some .local ∧ m x = some u) ∨ ((env.kindOf x = some .cell ∨ env.kindOf x = some .free) ∧ ∃ c, env.cells.lookup x = some c ∧ h.IsCell c (some u))

structure Cx.Ok (X : Cx) : Prop where
  mod : Mod X.K X.mg X.base
  kind : X.env.scope.kind = .function
  glob : X.env.globals = mainGlobals
  blt : X.env.builtins = builtinsNs
  above : X.s₀.heap.objs.size ≤ X.env.locals
  inj : ∀ x y c, X.env.cells.lookup x = some c → X.env.cells.lookup y = some c → x = y
  has : ∀ x, (X.env.kindOf x = some .cell ∨ X.env.kindOf x = some .free) → ∃ c, X.env.cells.lookup x = some c
  cab : ∀ x c, X.fn x = true → X.env.cells.lookup x = some c → X.s₀.heap.objs.size ≤ c
  hd : X.calm = true → X.A.handled = none
  frames : X.A.frames = some X.stack
  stk : X.stack = X.outer ∨ (X.stack = X.env :: X.outer ∧ X.env.frame = some X.env.locals)
  exf : ∀ b ∈ X.ex, b ≠ X.env.locals ∧ ∀ x c, X.env.cells.lookup x = some c → c ≠ b
  bs : ∀ b o, X.base.get? b = some o → X.s₀.heap.get? b = some o ∧ X.H₀ b = none
  bsz : X.base.objs.size ≤ X.s₀.heap.objs.size
  noex : ∀ b o, X.base.get? b = some o → b ∉ X.ex
  exfs : ∀ b ∈ X.ex, b ∉ X.fs
  funs : X.s₀.heap.FunFrames X.base X.outer
  frf : ∀ b ∈ X.fs, X.H₀ b = none

structure Inv (X : Cx) (pins : List (Addr × Obj)) (σ : List (Option V)) (H : Hp) (s : Shared) : Prop where
  ok : X.Ok
  os : s.os = X.s₀.os
  bare : AllBare s.gens
  base : Un X.fs X.ex X.H₀ H X.s₀.heap s.heap
  loc : ∃ m, s.heap.Ns X.env.locals m ∧ ∀ (i : Nat) (x : Str) (v : V), X.N[i]? = some x → σ[i]? = some (some v) → Vis X.env.scope x → ∃ u, RelV v u ∧ Look X.env s.heap m x u
  cell : ∀ x c, X.env.cells.lookup x = some c → ∃ v, s.heap.IsCell c v
  free : H X.env.locals = none
  freeC : ∀ x c, X.env.cells.lookup x = some c → H c = none
  pin : ∀ p ∈ X.pn ++ pins, s.heap.get? p.1 = some p.2 ∧ H p.1 = none ∧ p.1 ≠ X.env.locals ∧ p.1 ∉ X.fs ∧ ∀ v, p.2.data ≠ .cell v
  hok : HOk X.prog X.w H s.heap
  len : σ.length = X.N.length

section
variable {X : Cx} {pins : List (Addr × Obj)} {σ : List (Option V)} {H H' : Hp} {s : Shared} {h' : Heap}

theorem Cx.Ok.nofr (ok : X.Ok) {b : Addr} {o : Obj} (e : X.base.get? b = some o) : b ∉ X.fs := fun hb => by
  have := (ok.funs.mem hb).1
  rw [e] at this; cases this
theorem Inv.bs (I : Inv X pins σ H s) : ∀ b o, X.base.get? b = some o → s.heap.get? b = some o ∧ H b = none := fun b o e =>
  ⟨I.base.keep b o (I.ok.bs b o e).1 (I.ok.bs b o e).2 (I.ok.nofr e) (I.ok.noex b o e), I.base.free b o (I.ok.bs b o e).1 (I.ok.bs b o e).2 (I.ok.noex b o e)⟩
theorem Inv.bk (I : Inv X pins σ H s) : ∀ b o, X.base.get? b = some o → s.heap.get? b = some o := fun b o e => (I.bs b o e).1
theorem Inv.mod (I : Inv X pins σ H s) : Mod X.K X.mg X.base := I.ok.mod
theorem Inv.kIn (I : Inv X pins σ H s) : X.K.In s.heap := I.ok.mod.kin.keeps I.bk
theorem Inv.nolimit (I : Inv X pins σ H s) : s.heap.NoLimit := I.ok.mod.nolimit.keeps I.bk
/-- the frame over the base: for OpenK's rules (K.In X.base is I.mod.kin) -/
theorem Inv.fr (I : Inv X pins σ H s) : ∃ m, Fr X.base X.env.locals s.heap m :=
  let ⟨m, hn, _⟩ := I.loc
  ⟨m, hn, I.bk, Nat.le_trans I.ok.bsz I.ok.above⟩
theorem Inv.lt (I : Inv X pins σ H s) : X.env.locals < s.heap.objs.size := let ⟨_, hn, _⟩ := I.loc; hn.lt
theorem Inv.sz (I : Inv X pins σ H s) : X.s₀.heap.objs.size ≤ s.heap.objs.size := Nat.le_trans I.ok.above (Nat.le_of_lt I.lt)
theorem Inv.nofs (I : Inv X pins σ H s) {a : Addr} (h : s.heap.objs.size ≤ a) : a ∉ X.fs := fun hb => by
  obtain ⟨_, o, ho, _⟩ := I.ok.funs.mem hb
  exact absurd (Nat.lt_of_lt_of_le (Heap.lt_size ho) (Nat.le_trans I.sz h)) (Nat.lt_irrefl _)
theorem Inv.cne (I : Inv X pins σ H s) : ∀ x c, X.env.cells.lookup x = some c → c ≠ X.env.locals := fun x c e z => by
  obtain ⟨v, o, ho, hd⟩ := I.cell x c e
  obtain ⟨m, ⟨o', es, ep, ho', hd', _⟩, _⟩ := I.loc
  rw [z, ho'] at ho; cases ho; rw [hd'] at hd; cases hd
theorem Inv.funs (I : Inv X pins σ H s) : s.heap.FunFrames X.base X.outer := by
  have all : ∀ (l : List Env), (∀ b ∈ frs l, b ∈ X.fs) → X.s₀.heap.FunFrames X.base l → s.heap.FunFrames X.base l := by
    intro l
    induction l with
    | nil => intro _ _; trivial
    | cons env r ih =>
      intro hs hl
      obtain ⟨hk, ⟨L, o, hf, hn, ho, hd⟩, hr⟩ := hl
      have hL : L ∈ X.fs := hs L (by unfold frs; rw [List.filterMap_cons, hf]; exact List.mem_cons_self)
      obtain ⟨sl, e⟩ := I.base.slot L o ho (I.ok.frf L hL) hL fun z => I.ok.exfs L z hL
      exact ⟨hk, ⟨L, _, hf, hn, e, hd⟩, ih (fun b hb => hs b (by unfold frs; rw [List.filterMap_cons, hf]; exact List.mem_cons_of_mem _ hb)) hr⟩
  exact all X.outer (fun _ hb => hb) I.ok.funs

/-- the frames that run, for a call -/
theorem Inv.stack (I : Inv X pins σ H s) : s.heap.FunFrames X.base X.stack := by
  rcases I.ok.stk with e | ⟨e, hf⟩
  · rw [e]; exact I.funs
  · rw [e]
    obtain ⟨m, hn, _⟩ := I.loc
    refine .cons (by rw [I.ok.kind]; decide) hf hn ?_ I.funs
    exact Heap.get?_none_of_le (Nat.le_trans I.ok.bsz I.ok.above)
theorem Inv.stkSub (I : Inv X pins σ H s) : ∀ b ∈ frs X.stack, b ∈ X.env.locals :: X.fs := fun b hb => by
  rcases I.ok.stk with e | ⟨e, hf⟩
  · rw [e] at hb; exact List.mem_cons_of_mem _ hb
  · rw [e] at hb
    unfold frs at hb
    rw [List.filterMap_cons, hf] at hb
    exact hb
theorem Inv.stkFree (I : Inv X pins σ H s) : ∀ b ∈ frs X.stack, H b = none := fun b hb => by
  rcases List.mem_cons.mp (I.stkSub b hb) with e | hb
  · rw [e]; exact I.free
  · obtain ⟨_, o, ho, _⟩ := I.ok.funs.mem hb
    exact I.base.free b o ho (I.ok.frf b hb) fun z => I.ok.exfs b z hb

/-- THE STEP: the untracked objects but the frame and the records at ch are kept (the callers' frames up to slots), the frame's map is kept, the new abstract heap is held -/
theorem Inv.step {g' : Array GenState} {t' : Nat} {d' : Drawn} {ch : List Addr} (I : Inv X pins σ H s)
    (hch : ∀ b ∈ ch, (b ∈ X.ex ∨ X.s₀.heap.objs.size ≤ b) ∧ b ≠ X.env.locals ∧ (∀ x c, X.env.cells.lookup x = some c → c ≠ b) ∧ ∀ p ∈ X.pn ++ pins, p.1 ≠ b)
    (keep : ∀ b o, b ≠ X.env.locals → b ∉ X.fs → b ∉ ch → s.heap.get? b = some o → H b = none → h'.get? b = some o)
    (slot : ∀ b o, b ≠ X.env.locals → b ∈ X.fs → b ∉ ch → s.heap.get? b = some o → H b = none → ∃ sl, h'.get? b = some { o with slots := sl }) (free : ∀ b o, b ∉ ch → s.heap.get? b = some o → H b = none → H' b = none)
    (there : ∀ b o, b ∉ ch → s.heap.get? b = some o → ∃ o', h'.get? b = some o')
    (tups : ∀ b xs, H b = some (.tup xs) → H' b = some (.tup xs)) (frzs : ∀ b o u, H b = some (.frz o u) → H' b = some (.frz o u)) (tbls : ∀ b ps, H b = some (.tbl ps) → ∃ more, H' b = some (.tbl (ps ++ more)))
    (ns : ∀ m, s.heap.Ns X.env.locals m → h'.Ns X.env.locals m) (hok : HOk X.prog X.w H' h') (hg : AllBare g') :
    Inv X pins σ H' { s with heap := h', gens := g', drawn := d', toks := t' } := by
  have neL : ∀ b o, X.s₀.heap.get? b = some o → b ≠ X.env.locals := fun b o e => Nat.ne_of_lt (Nat.lt_of_lt_of_le (Heap.lt_size e) I.ok.above)
  have neC : ∀ b o, X.s₀.heap.get? b = some o → b ∉ X.ex → b ∉ ch := fun b o e hx hb => by
    rcases (hch b hb).1 with z | z
    · exact hx z
    · exact absurd (Nat.lt_of_lt_of_le (Heap.lt_size e) z) (Nat.lt_irrefl _)
  have cellK : ∀ x c, X.env.cells.lookup x = some c → ∀ v, s.heap.IsCell c v → h'.IsCell c v := fun x c e v ⟨o, ho, hd⟩ => by
    have nch : c ∉ ch := fun z => (hch c z).2.2.1 x c e rfl
    by_cases hc : c ∈ X.fs
    · obtain ⟨sl, q⟩ := slot c o (I.cne x c e) hc nch ho (I.freeC x c e)
      exact ⟨_, q, hd⟩
    · exact ⟨o, keep c o (I.cne x c e) hc nch ho (I.freeC x c e), hd⟩
  refine ⟨I.ok, I.os, hg, ⟨fun b o e n hb hx => ?_, fun b o e n hb hx => ?_, fun b o e n hx => ?_, fun b o e hx => ?_, fun b xs e => tups b xs (I.base.tups b xs e), fun b o xs e => frzs b o xs (I.base.frzs b o xs e), fun b ps e => ?_⟩, ?_, fun x c e => ?_, ?_, fun x c e => ?_, fun p hp => ?_, hok, I.len⟩
  · exact keep b o (neL b o e) hb (neC b o e hx) (I.base.keep b o e n hb hx) (I.base.free b o e n hx)
  · obtain ⟨sl, e1⟩ := I.base.slot b o e n hb hx
    obtain ⟨sl', e2⟩ := slot b _ (neL b o e) hb (neC b o e hx) e1 (I.base.free b o e n hx)
    exact ⟨sl', e2⟩
  · obtain ⟨o', e1⟩ := I.base.there b o e hx
    exact free b o' (neC b o e hx) e1 (I.base.free b o e n hx)
  · obtain ⟨o', e1⟩ := I.base.there b o e hx
    exact there b o' (neC b o e hx) e1
  · obtain ⟨m1, e1⟩ := I.base.tbls b ps e
    obtain ⟨m2, e2⟩ := tbls b _ e1
    exact ⟨m1 ++ m2, by rw [e2, Array.append_assoc]⟩
  · obtain ⟨m, hn, hl⟩ := I.loc
    refine ⟨m, ns m hn, fun i x v e1 e2 e3 => ?_⟩
    obtain ⟨u, r, l⟩ := hl i x v e1 e2 e3
    refine ⟨u, r, ?_⟩
    rcases l with l | ⟨k, c, e, z⟩
    · exact .inl l
    · exact .inr ⟨k, c, e, cellK x c e _ z⟩
  · obtain ⟨v, z⟩ := I.cell x c e
    exact ⟨v, cellK x c e v z⟩
  · obtain ⟨m, ⟨o, _, _, ho, _⟩, _⟩ := I.loc
    exact free _ o (fun z => (hch _ z).2.1 rfl) ho I.free
  · obtain ⟨v, o, ho, hd⟩ := I.cell x c e
    exact free c o (fun z => (hch c z).2.2.1 x c e rfl) ho (I.freeC x c e)
  · obtain ⟨e, n, ne, nf, d⟩ := I.pin p hp
    have nch : p.1 ∉ ch := fun z => (hch p.1 z).2.2.2 p hp rfl
    exact ⟨keep p.1 p.2 ne nf nch e n, free p.1 p.2 nch e n, ne, nf, d⟩
/-- .. where the frame's own object is kept too -/
theorem Inv.un {t' : Nat} (I : Inv X pins σ H s) (u : Un X.fs [] H H' s.heap h') (hok : HOk X.prog X.w H' h') : Inv X pins σ H' { s with heap := h', toks := t' } := by
  obtain ⟨m, ⟨o, es, ep, ho, r⟩, _⟩ := id I.loc
  obtain ⟨sl, hL⟩ := u.any ho I.free (by simp)
  exact I.step (g' := s.gens) (d' := s.drawn) (ch := []) (fun _ z => nomatch z) (fun b o _ hb _ e n => u.keep b o e n hb (by simp)) (fun b o _ hb _ e n => u.slot b o e n hb (by simp)) (fun b o _ e n => u.free b o e n (by simp)) (fun b o _ e => u.there b o e (by simp)) u.tups u.frzs u.tbls (fun m' hm => by
    obtain ⟨o', es', ep', ho', r'⟩ := hm
    rw [ho] at ho'; cases ho'
    exact ⟨_, es', ep', hL, r'⟩) hok I.bare
/-- behind a call (or a comprehension's block): the slots of this frame may have changed too, the records at ch may have turned -/
theorem Inv.call {g' : Array GenState} {t' : Nat} {d' : Drawn} {ch : List Addr} (I : Inv X pins σ H s) (u : Un (frs X.stack) ch H H' s.heap h') (hok : HOk X.prog X.w H' h') (hg : AllBare g')
    (hch : ∀ b ∈ ch, (b ∈ X.ex ∨ X.s₀.heap.objs.size ≤ b) ∧ b ≠ X.env.locals ∧ (∀ x c, X.env.cells.lookup x = some c → c ≠ b) ∧ ∀ p ∈ X.pn ++ pins, p.1 ≠ b) :
    Inv X pins σ H' { s with heap := h', gens := g', drawn := d', toks := t' } := by
  obtain ⟨m, ⟨o, es, ep, ho, r⟩, _⟩ := id I.loc
  obtain ⟨sl, hL⟩ := u.any ho I.free fun z => (hch _ z).2.1 rfl
  exact I.step (ch := ch) hch (fun b o hL hb hc e n => u.keep b o e n (fun z => (List.mem_cons.mp (I.stkSub b z)).elim hL hb) hc) (fun b o _ _ hc e n => u.any e n hc) (fun b o hc e n => u.free b o e n hc) (fun b o hc e => u.there b o e hc) u.tups u.frzs u.tbls (fun m' hm => by
    obtain ⟨o', es', ep', ho', r'⟩ := hm
    rw [ho] at ho'; cases ho'
    exact ⟨_, es', ep', hL, r'⟩) hok hg
/-- an untracked record of ours (an iterator) has turned -/
theorem Inv.turned {t' : Nat} {it : Addr} (I : Inv X pins σ H s) (k : ∀ b o, b ≠ it → s.heap.get? b = some o → h'.get? b = some o) (hn : H it = none) (hL : it ≠ X.env.locals)
    (h1 : it ∈ X.ex ∨ X.s₀.heap.objs.size ≤ it) (h2 : ∀ x c, X.env.cells.lookup x = some c → c ≠ it) (h3 : ∀ p ∈ X.pn ++ pins, p.1 ≠ it) : Inv X pins σ H { s with heap := h', toks := t' } := by
  have nit : ∀ b u, H b = some u → b ≠ it := fun b u e z => by rw [z, hn] at e; cases e
  refine I.step (g' := s.gens) (d' := s.drawn) (ch := [it]) (fun b hb => ?_) (fun b o _ _ hc e _ => k b o (fun z => hc (by simp [z])) e) (fun b o _ _ hc e _ => ⟨o.slots, k b o (fun z => hc (by simp [z])) e⟩) (fun _ _ _ _ n => n)
    (fun b o hc e => ⟨o, k b o (fun z => hc (by simp [z])) e⟩) (fun _ _ e => e) (fun _ _ _ e => e) (fun b ps e => ⟨#[], by rw [e]; simp⟩) (fun m hm => ?_) (fun b u e => ?_) I.bare
  · have e : b = it := by simpa using hb
    subst e
    exact ⟨h1, hL, h2, h3⟩
  · obtain ⟨o, es, ep, ho, r⟩ := hm
    exact ⟨o, es, ep, k _ o (Ne.symm hL) ho, r⟩
  · refine (I.hok b u e).stay (fun c v hc q => k c v ?_ q) (fun _ q => q) fun _ _ q => q
    rcases hc with z | z
    · rw [z]; exact nit b u e
    · exact nit c _ z
theorem Inv.tok (I : Inv X pins σ H s) (t : Nat) : Inv X pins σ H { s with toks := t } := I.un (h' := s.heap) (t' := t) Un.refl I.hok
/-- all objects kept -/
theorem Inv.kept {t' : Nat} (I : Inv X pins σ H s) (k : ∀ b u, s.heap.get? b = some u → h'.get? b = some u) : Inv X pins σ H { s with heap := h', toks := t' } := I.un (Un.kept k) (I.hok.kept k)
/-- a new object laid and tracked -/
theorem Inv.laid {a : Addr} {o : HO} {t' : Nat} (I : Inv X pins σ H s) (k : ∀ b u, s.heap.get? b = some u → h'.get? b = some u) (hp : s.heap.objs.size ≤ a) (new : ObjOk X.prog X.w (upd H a o) h' a o) :
    Inv X pins σ (upd H a o) { s with heap := h', toks := t' } := I.un (Un.laid k hp (I.hok.fresh hp)) (I.hok.laid k hp new)
/-- an object written -/
theorem Inv.write {x e : Addr} {o : HO} {t' : Nat} (I : Inv X pins σ H s) (mu : Mut (H x)) (he : e = x ∨ H e = some (.own x)) (k : ∀ b u, b ≠ e → s.heap.get? b = some u → h'.get? b = some u) (heo : ∃ u, h'.get? e = some u)
    (new : ObjOk X.prog X.w (upd H x o) h' x o) : Inv X pins σ (upd H x o) { s with heap := h', toks := t' } := I.un (Un.write mu he k heo) (I.hok.write mu he k heo new)
theorem Inv.pins_of {pins' : List (Addr × Obj)} (I : Inv X pins σ H s) (h : ∀ p ∈ pins', s.heap.get? p.1 = some p.2 ∧ H p.1 = none ∧ p.1 ≠ X.env.locals ∧ p.1 ∉ X.fs ∧ ∀ v, p.2.data ≠ .cell v) : Inv X pins' σ H s :=
  ⟨I.ok, I.os, I.bare, I.base, I.loc, I.cell, I.free, I.freeC, fun p hp => (List.mem_append.mp hp).elim (fun z => I.pin p (List.mem_append_left _ z)) (h p), I.hok, I.len⟩

theorem nodup_ix {N : List Str} (hN : N.Nodup) {i j : Nat} {x : Str} (a : N[i]? = some x) (b : N[j]? = some x) : i = j := by
  obtain ⟨h1, e1⟩ := List.getElem?_eq_some_iff.mp a
  obtain ⟨h2, e2⟩ := List.getElem?_eq_some_iff.mp b
  exact (List.getElem_inj hN).mp (e1.trans e2.symm)

/-- a name is stored; what changed -/
theorem store_ok2 {M : Model} {A : Around} {E : Value → Shared → Prop} {i : Nat} {x : Str} {v : V} {u : Value} {Q : Unit → Shared → Prop} (I : Inv X pins σ H s) (hN : X.N.Nodup) (hi : X.N[i]? = some x) (hx : Loc X.env.scope x) (r : RelV v u)
    (h : ∀ s', Inv X pins (σ.set i (some v)) H s' → (∃ a, Heap.SameBut a s.heap s'.heap ∧ (a = X.env.locals ∨ X.env.cells.lookup x = some a)) → Q () s') (hf : X.fn x = true ∨ X.env.scope.names.lookup x = some .local := by first | exact .inl rfl | exact .inr rfl | assumption) : wpAny M A (storeName X.env x u) Q E s := by
  obtain ⟨m, hn, hl⟩ := id I.loc
  have hcls : (X.env.scope.kind == .class || (X.env.scope.kind == .module && X.env.locals != X.env.globals)) = false := by rw [I.ok.kind]; rfl
  have hiσ : i < σ.length := by rw [I.len]; exact (List.getElem?_eq_some_iff.mp hi).1
  have cne := I.cne
  have tracked : ∀ {a : Addr} {h' : Heap}, (∃ o, s.heap.get? a = some o ∧ H a = none) → Heap.SameBut a s.heap h' → HOk X.prog X.w H h' := fun {a h'} ha hs b ob e => by
    obtain ⟨_, _, hfree⟩ := ha
    refine (I.hok b ob e).stay (fun c w' hc q => (hs.2 c ?_).trans q) (fun _ q => q) fun _ _ q => q
    rintro rfl
    rcases hc with rfl | hc
    · rw [hfree] at e; cases e
    · rw [hfree] at hc; cases hc
  rcases hx with hk | hk
  · refine wpAny_storeName_local hk hn (fun h' hn' hs => ?_) hcls
    obtain ⟨oL, _, _, hoL, _⟩ := id hn
    refine h _ ⟨I.ok, I.os, I.bare, ⟨fun b o e n hb hx => ?_, fun b o e n hb hx => ?_, I.base.free, fun b o e hx => ?_, I.base.tups, I.base.frzs, I.base.tbls⟩, ⟨_, hn', fun j y v' e1 e2 e3 => ?_⟩, fun y c e => ?_, I.free, I.freeC, fun p hp => ?_, tracked ⟨oL, hoL, I.free⟩ hs, by simpa using I.len⟩ ⟨_, hs, .inl rfl⟩
    · exact (hs.2 b (Nat.ne_of_lt (Nat.lt_of_lt_of_le (Heap.lt_size e) I.ok.above))).trans (I.base.keep b o e n hb hx)
    · obtain ⟨sl, e1⟩ := I.base.slot b o e n hb hx
      exact ⟨sl, (hs.2 b (Nat.ne_of_lt (Nat.lt_of_lt_of_le (Heap.lt_size e) I.ok.above))).trans e1⟩
    · obtain ⟨o', e1⟩ := I.base.there b o e hx
      exact ⟨o', (hs.2 b (Nat.ne_of_lt (Nat.lt_of_lt_of_le (Heap.lt_size e) I.ok.above))).trans e1⟩
    · by_cases hj : j = i
      · subst hj
        rw [hi] at e1; cases e1
        rw [List.getElem?_set_self hiσ] at e2
        cases e2
        exact ⟨u, r, .inl ⟨hk, by simp⟩⟩
      · rw [List.getElem?_set_ne (Ne.symm hj)] at e2
        obtain ⟨u', r', q⟩ := hl j y v' e1 e2 e3
        refine ⟨u', r', ?_⟩
        rcases q with ⟨k, e⟩ | ⟨k, c, e, z⟩
        · refine .inl ⟨k, ?_⟩
          have : y ≠ x := fun e => hj (nodup_ix hN e1 (e ▸ hi))
          simp [this, e]
        · exact .inr ⟨k, c, e, z.sameBut hs (cne y c e)⟩
    · obtain ⟨w', z⟩ := I.cell y c e
      exact ⟨w', z.sameBut hs (cne y c e)⟩
    · obtain ⟨e, n, ne, nf, d⟩ := I.pin p hp
      exact ⟨(hs.2 p.1 ne).trans e, n, ne, nf, d⟩
  · have hfn : X.fn x = true := by
      rcases hf with z | z
      · exact z
      · rw [z] at hk; cases hk
    obtain ⟨c, hc⟩ := I.ok.has x (.inl hk)
    obtain ⟨w', z⟩ := I.cell x c hc
    refine wpAny_storeName_cell I.ok.kind hk hc z (fun h' hc' hs => ?_)
    obtain ⟨oc, hoc, hocd⟩ := id z
    refine h { s with heap := h' } ⟨I.ok, I.os, I.bare, ⟨fun b o e n hb hx => ?_, fun b o e n hb hx => ?_, I.base.free, fun b o e hx => ?_, I.base.tups, I.base.frzs, I.base.tbls⟩, ⟨m, hn.sameBut hs (Ne.symm (cne x c hc)), fun j y v' e1 e2 e3 => ?_⟩, fun y c' e => ?_, I.free, I.freeC, fun p hp => ?_, tracked ⟨oc, hoc, I.freeC x c hc⟩ hs, by simpa using I.len⟩ ⟨c, hs, .inr hc⟩
    · exact (hs.2 b (Nat.ne_of_lt (Nat.lt_of_lt_of_le (Heap.lt_size e) (I.ok.cab x c hfn hc)))).trans (I.base.keep b o e n hb hx)
    · obtain ⟨sl, e1⟩ := I.base.slot b o e n hb hx
      exact ⟨sl, (hs.2 b (Nat.ne_of_lt (Nat.lt_of_lt_of_le (Heap.lt_size e) (I.ok.cab x c hfn hc)))).trans e1⟩
    · obtain ⟨o', e1⟩ := I.base.there b o e hx
      exact ⟨o', (hs.2 b (Nat.ne_of_lt (Nat.lt_of_lt_of_le (Heap.lt_size e) (I.ok.cab x c hfn hc)))).trans e1⟩
    · by_cases hj : j = i
      · subst hj
        rw [hi] at e1; cases e1
        rw [List.getElem?_set_self hiσ] at e2
        cases e2
        exact ⟨u, r, .inr ⟨.inl hk, c, hc, hc'⟩⟩
      · rw [List.getElem?_set_ne (Ne.symm hj)] at e2
        obtain ⟨u', r', q⟩ := hl j y v' e1 e2 e3
        refine ⟨u', r', ?_⟩
        rcases q with q | ⟨k, c', e, z'⟩
        · exact .inl q
        · refine .inr ⟨k, c', e, z'.sameBut hs ?_⟩
          rintro rfl
          exact hj (nodup_ix hN e1 (I.ok.inj _ _ _ e hc ▸ hi))
    · by_cases hcc : c' = c
      · subst hcc; exact ⟨_, hc'⟩
      · obtain ⟨w2, z2⟩ := I.cell y c' e
        exact ⟨w2, z2.sameBut hs hcc⟩
    · obtain ⟨e, n, ne, nf, d⟩ := I.pin p hp
      refine ⟨(hs.2 p.1 ?_).trans e, n, ne, nf, d⟩
      intro q
      rw [q, hoc] at e
      have q' : oc = p.2 := Option.some.inj e
      exact d w' (by rw [← q']; exact hocd)
theorem store_ok {M : Model} {A : Around} {E : Value → Shared → Prop} {i : Nat} {x : Str} {v : V} {u : Value} {Q : Unit → Shared → Prop} (I : Inv X pins σ H s) (hN : X.N.Nodup) (hi : X.N[i]? = some x) (hx : Loc X.env.scope x) (r : RelV v u)
    (h : ∀ s', Inv X pins (σ.set i (some v)) H s' → Q () s') (hf : X.fn x = true ∨ X.env.scope.names.lookup x = some .local := by first | exact .inl rfl | exact .inr rfl | assumption) : wpAny M A (storeName X.env x u) Q E s :=
  store_ok2 I hN hi hx r (fun s' I' _ => h s' I') hf
/-- behind a call or a block, the state as it is -/
theorem Inv.call' {s' : Shared} {ch : List Addr} (I : Inv X pins σ H s) (ho : s'.os = s.os) (u : Un (frs X.stack) ch H H' s.heap s'.heap) (hok : HOk X.prog X.w H' s'.heap) (hg : AllBare s'.gens)
    (hch : ∀ b ∈ ch, (b ∈ X.ex ∨ X.s₀.heap.objs.size ≤ b) ∧ b ≠ X.env.locals ∧ (∀ x c, X.env.cells.lookup x = some c → c ≠ b) ∧ ∀ p ∈ X.pn ++ pins, p.1 ≠ b) : Inv X pins σ H' s' := by
  obtain ⟨h', g', d', t', o'⟩ := s'
  have e : o' = s.os := ho
  subst e
  exact I.call (g' := g') (t' := t') (d' := d') u hok hg hch
end

/-! ### the judgements -/
/-- an exception: its class, its own dict's address (where it has one), the abstract heap behind it -/
abbrev XK := Value → Option Addr → Hp → Prop
abbrev St := List (Option V)
abbrev VK := V → Hp → Prop
/-- an expression's reading; a test's; an argument list's -/
abbrev TE := St → Hp → VK → Prop
abbrev TT := St → Hp → (Bool → Hp → Prop) → Prop
abbrev TA := St → Hp → (List V → Hp → Prop) → Prop
/-- what is wanted behind a statement -/
structure Ends where
  nx : St → Hp → Prop
  rt : VK
  bk : St → Hp → Prop := fun _ _ => False
  ct : St → Hp → Prop := fun _ _ => False
abbrev TS := Ends → St → Hp → Prop

def EP (X : Cx) (pins : List (Addr × Obj)) (σ : St) (Q : VK) (u : Value) (s' : Shared) : Prop := ∃ v H', Inv X pins σ H' s' ∧ RelV v u ∧ Q v H'
def TP (X : Cx) (pins : List (Addr × Obj)) (σ : St) (Q : Bool → Hp → Prop) (b : Bool) (s' : Shared) : Prop := ∃ H', Inv X pins σ H' s' ∧ Q b H'
def AP (X : Cx) (pins : List (Addr × Obj)) (σ : St) (Q : List V → Hp → Prop) (us : List Value) (s' : Shared) : Prop := ∃ vs H', Inv X pins σ H' s' ∧ Vals vs us ∧ Q vs H'
def SP (X : Cx) (pins : List (Addr × Obj)) (D : Ends) (f : Flow) (s' : Shared) : Prop :=
  match f with
  | .next => ∃ σ' H', Inv X pins σ' H' s' ∧ D.nx σ' H'
  | .brk => ∃ σ' H', Inv X pins σ' H' s' ∧ D.bk σ' H'
  | .cont => ∃ σ' H', Inv X pins σ' H' s' ∧ D.ct σ' H'
  | .ret u => ∃ v σ' H', Inv X pins σ' H' s' ∧ RelV v u ∧ D.rt v H'

def PE (X : Cx) (e : Expr) (t : TE) : Prop :=
  ∀ (pins : List (Addr × Obj)) (s : Shared) (σ : St) (H : Hp) (Q : VK), Inv X pins σ H s → t σ H Q → wpAny (model X.prog X.w) X.A (eval e X.env) (EP X pins σ Q) X.xe s
def PT (X : Cx) (e : Expr) (t : TT) : Prop :=
  ∀ (pins : List (Addr × Obj)) (s : Shared) (σ : St) (H : Hp) (Q : Bool → Hp → Prop), Inv X pins σ H s → t σ H Q → wpAny (model X.prog X.w) X.A (isTrue e X.env (eval e X.env)) (TP X pins σ Q) X.xe s
/-- a test whatever its 'whole' is (and, or) -/
def PW (X : Cx) (e : Expr) (t : TT) : Prop :=
  ∀ (whole : Sem Value) (pins : List (Addr × Obj)) (s : Shared) (σ : St) (H : Hp) (Q : Bool → Hp → Prop), Inv X pins σ H s → t σ H Q → wpAny (model X.prog X.w) X.A (isTrue e X.env whole) (TP X pins σ Q) X.xe s
theorem PW.pt {X : Cx} {e : Expr} {t : TT} (h : PW X e t) : PT X e t := h _
/-- an argument list (no star), from the left -/
def PA (X : Cx) (es : List Expr) (t : TA) : Prop :=
  ∀ (pos : Pos) (pins : List (Addr × Obj)) (s : Shared) (σ : St) (H : Hp) (Q : List V → Hp → Prop), Inv X pins σ H s → t σ H Q → wpAny (model X.prog X.w) X.A (spliced (backTo pos (starEach es X.env))) (AP X pins σ Q) X.xe s
def PS (X : Cx) (st : Stmt) (t : TS) : Prop :=
  ∀ (pins : List (Addr × Obj)) (s : Shared) (σ : St) (H : Hp) (D : Ends), Inv X pins σ H s → t D σ H → wpAny (model X.prog X.w) X.A (exec st X.env) (SP X pins D) X.xe s
def PSs (X : Cx) (st : List Stmt) (t : TS) : Prop :=
  ∀ (pins : List (Addr × Obj)) (s : Shared) (σ : St) (H : Hp) (D : Ends), Inv X pins σ H s → t D σ H → wpAny (model X.prog X.w) X.A (execs st X.env) (SP X pins D) X.xe s
/-- weaken the end -/
theorem thn {α : Type} {t : Sem α} {Q Q' : α → Shared → Prop} {M : Model} {A : Around} {E : Value → Shared → Prop} {s : Shared} (h : wpAny M A t Q E s) (hQ : ∀ a s, Q a s → Q' a s) : wpAny M A t Q' E s := wpAny_mono h hQ fun _ _ x => x
end L2

namespace L2
open PySem PySem.Spec PyProof.Rows
section
variable {X : Cx}

/-! ### names and constants -/
def tVar (i : Nat) : TE := fun σ H Q => ∃ v, σ[i]? = some (some v) ∧ Q v H
def tC (v : V) : TE := fun _ H Q => Q v H
theorem pe_var {i : Nat} {x : Str} {pos : Pos} (hN : X.N[i]? = some x) (hv : Vis X.env.scope x) (hd : (x == ("__debug__" : Str)) = false := by decide) (hcd : (x == ("__classdict__" : Str)) = false := by decide) : PE X (.Name x pos) (tVar i) := by
  intro pins s σ H Q I h
  obtain ⟨v, e, h⟩ := h
  obtain ⟨m, hn, hl⟩ := I.loc
  obtain ⟨u, r, l⟩ := hl i x v hN e hv
  have fin : EP X pins σ Q u s := ⟨v, H, I, r, h⟩
  rcases l with ⟨hk, hm⟩ | ⟨hk, c, hc, hcell⟩
  · exact wpAny_Name (wpAny_loadName_local I.ok.kind hk hn hm fin) hd
  · rcases hk with hk | hk
    · exact wpAny_Name (wpAny_loadName_cell I.ok.kind hk hc hcell fin) hd
    · exact wpAny_Name (wpAny_loadName_free I.ok.kind hk hc hcell fin hcd) hd
theorem pe_int {i j pos} : PE X (.Constant (.int i) j pos) (tC (.int i)) := fun _ _ _ H _ I h => wpAny_Constant_int ⟨.int i, H, I.tok _, ⟨_, rfl⟩, h⟩
theorem pe_bl {b j pos} : PE X (.Constant (.bool b) j pos) (tC (.bl b)) := fun _ _ _ H _ I h => Constant_bool ⟨.bl b, H, I, rfl, h⟩
theorem pe_non {j pos} : PE X (.Constant .none j pos) (tC .non) := fun _ _ _ H _ I h => Constant_none ⟨.non, H, I, rfl, h⟩
theorem pe_str {x j pos} : PE X (.Constant (.str x) j pos) (tC (.str x)) := fun _ _ _ H _ I h => Calls.Constant_str ⟨.str x, H, I.tok _, ⟨_, rfl⟩, h⟩

/-- a global name of the def -/
def Gl (X : Cx) (x : Str) : Prop := X.env.kindOf x = some .globalImplicit
theorem ld_glob {E : Value → Shared → Prop} {pins : List (Addr × Obj)} {s : Shared} {σ : St} {H : Hp} {x : Str} {u : Value} {pos : Pos} {Q : Value → Shared → Prop} (I : Inv X pins σ H s) (hg : Gl X x) (hm : X.mg x = some u) (h : Q u s)
    (hd : (x == ("__debug__" : Str)) = false := by decide) : wpAny (model X.prog X.w) X.A (eval (.Name x pos) X.env) Q E s :=
  Calls.Name_function_global I.ok.kind hg (Calls.loadGlobal_global (by rw [I.ok.glob]; exact I.mod.glob.keeps I.bk) hm h) hd
theorem ld_blt {E : Value → Shared → Prop} {pins : List (Addr × Obj)} {s : Shared} {σ : St} {H : Hp} {x : Str} {u : Value} {pos : Pos} {Q : Value → Shared → Prop} (I : Inv X pins σ H s) (hg : Gl X x) (hm : X.mg x = none) (hv : bootBuiltins x = some u) (h : Q u s)
    (hn : x ≠ "__name__" := by decide) (hd : (x == ("__debug__" : Str)) = false := by decide) : wpAny (model X.prog X.w) X.A (eval (.Name x pos) X.env) Q E s := by
  obtain ⟨mb, h1, h2⟩ := I.mod.blt
  exact Calls.Name_function_global I.ok.kind hg (Calls.loadGlobal_builtin (by rw [I.ok.glob]; exact I.mod.glob.keeps I.bk) hm (by rw [I.ok.blt]; exact h1.keeps I.bk) ((h2 x hn).trans hv) h) hd
/-- a module's constant, a class, a function, as a value -/
theorem pe_glob {x : Str} {v : V} {u : Value} {pos : Pos} (hg : Gl X x) (hm : X.mg x = some u) (r : RelV v u) (hd : (x == ("__debug__" : Str)) = false := by decide) : PE X (.Name x pos) (tC v) :=
  fun _ _ _ H _ I h => ld_glob I hg hm ⟨v, H, I, r, h⟩ hd
theorem pe_bltn {x : Str} {v : V} {u : Value} {pos : Pos} (hg : Gl X x) (hm : X.mg x = none) (hv : bootBuiltins x = some u) (r : RelV v u) (hn : x ≠ "__name__" := by decide) (hd : (x == ("__debug__" : Str)) = false := by decide) : PE X (.Name x pos) (tC v) :=
  fun _ _ _ H _ I h => ld_blt I hg hm hv ⟨v, H, I, r, h⟩ hn hd

/-! ### arithmetic -/
/-- two ints -/
def t2I (ta tb : TE) (k : Int → Int → Hp → Prop) : St → Hp → Prop := fun σ H => ta σ H fun x H1 => tb σ H1 fun y H2 => ∃ i j, x = .int i ∧ y = .int j ∧ k i j H2
def tAdd (ta tb : TE) : TE := fun σ H Q => t2I ta tb (fun i j H2 => Q (.int (i + j)) H2) σ H
def tSub (ta tb : TE) : TE := fun σ H Q => t2I ta tb (fun i j H2 => Q (.int (i - j)) H2) σ H
/-- the left factor below 2^64 -/
def tMul (ta tb : TE) : TE := fun σ H Q => t2I ta tb (fun i j H2 => (-(2 ^ 64) < i ∧ i < 2 ^ 64) ∧ Q (.int (i * j)) H2) σ H
variable {a b : Expr} {ta tb : TE} {pos : Pos}
/-! ### comparisons -/
def PC (X : Cx) (op : CmpOp) (a b : Expr) (t : TE) : Prop :=
  ∀ (pins : List (Addr × Obj)) (s : Shared) (σ : St) (H : Hp) (Q : VK), Inv X pins σ H s → t σ H Q →
    wpAny (model X.prog X.w) X.A (eval a X.env) (fun v s₁ => wpAny (model X.prog X.w) X.A (eval b X.env) (fun u s₂ => wpAny (model X.prog X.w) X.A (compareOp op v u) (EP X pins σ Q) X.xe s₂) X.xe s₁) X.xe s
theorem nobehind (b : Expr) {op : CmpOp} (h : op ≠ .In) (h2 : op ≠ .NotIn) : behindInMarks op b = false := by
  have e1 : (op == CmpOp.In) = false := by cases op <;> first | rfl | exact absurd rfl h
  have e2 : (op == CmpOp.NotIn) = false := by cases op <;> first | rfl | exact absurd rfl h2
  cases b <;> simp [behindInMarks, e1, e2]
def tCmp (p : Int → Int → Bool) (ta tb : TE) : TE := fun σ H Q => t2I ta tb (fun i j H2 => Q (.bl (p i j)) H2) σ H
abbrev tLt : TE → TE → TE := tCmp fun i j => decide (i < j)
abbrev tLe : TE → TE → TE := tCmp fun i j => decide (i ≤ j)
abbrev tGt : TE → TE → TE := tCmp fun i j => decide (j < i)
abbrev tGe : TE → TE → TE := tCmp fun i j => decide (j ≤ i)
abbrev tEqI : TE → TE → TE := tCmp fun i j => decide (i = j)
abbrev tNeI : TE → TE → TE := tCmp fun i j => !decide (i = j)
/-- is None -/
def tIsN (ta : TE) : TE := fun σ H Q => ta σ H fun x H1 => Q (.bl (decide (x = .non))) H1
def tNotN (ta : TE) : TE := fun σ H Q => ta σ H fun x H1 => Q (.bl (!decide (x = .non))) H1
/-- a comparison as a value, as a test -/
def tB (t : TE) : TT := fun σ H Q => t σ H fun x H1 => ∃ c, x = .bl c ∧ Q c H1
theorem pe_cmp {op : CmpOp} {t : TE} (h : PC X op a b t) (h1 : behindInMarks op b = false := by first | exact nobehind _ (by decide) (by decide) | rfl) : PE X (.Compare a [op] [b] pos) t := fun pins s σ H Q I hw => wpAny_Compare1 (h pins s σ H Q I hw) h1
theorem pt_cmp {op : CmpOp} {t : TE} (h : PC X op a b t) (h1 : behindInMarks op b = false := by first | exact nobehind _ (by decide) (by decide) | rfl) : PT X (.Compare a [op] [b] pos) (tB t) := by
  intro pins s σ H Q I hw
  refine wpAny_isTrue_Compare1 (thn (h pins s σ H _ I hw) fun v s1 h1 => thn h1 fun u s2 h2 => thn h2 fun c s3 ⟨x, H1, I1, r1, q1⟩ => ?_) h1
  obtain ⟨d, rfl, q⟩ := q1
  cases r1
  exact wpAny_truthy_bool ⟨H1, I1, q⟩
/-- an expression whose value is a bool, as a test -/
theorem pt_val {e : Expr} {t : TE} (h : PE X e t) (he : ∀ whole, isTrue e X.env whole = (do let v ← whole; standAt e.pos; holding [v] (truthy v)) := by intro _; rfl) : PT X e (tB t) := by
  intro pins s σ H Q I hw
  refine isTrue_plain (thn (h pins s σ H _ I hw) fun v s1 ⟨x, H1, I1, r1, q1⟩ => ?_) (he _)
  obtain ⟨d, rfl, q⟩ := q1
  cases r1
  exact wpAny_truthy_bool ⟨H1, I1, q⟩

/-! ### and, or, not -/
variable {tA tB' : TT} {rest : List Expr}
def tAnd (t u : TT) : TT := fun σ H Q => t σ H fun c H1 => if c = true then u σ H1 Q else Q false H1
def tOr (t u : TT) : TT := fun σ H Q => t σ H fun c H1 => if c = true then Q true H1 else u σ H1 Q
def tNot (t : TT) : TT := fun σ H Q => t σ H fun c H1 => Q (!c) H1
theorem pw_and1 (ha : PT X a tA) : PW X (.BoolOp .And [a] pos) tA := by
  intro wh pins s σ H Q I h
  refine isTrue_and (thn (ha pins s σ H Q I h) fun c s1 e => ?_)
  cases c with
  | true => exact isTrue_and_nil e
  | false => exact e
theorem pw_or1 (ha : PT X a tA) : PW X (.BoolOp .Or [a] pos) tA := by
  intro wh pins s σ H Q I h
  refine isTrue_or (thn (ha pins s σ H Q I h) fun c s1 e => ?_)
  cases c with
  | false => exact isTrue_or_nil e
  | true => exact e
theorem pw_and (ha : PT X a tA) (hb : PW X (.BoolOp .And (b :: rest) pos) tB') : PW X (.BoolOp .And (a :: b :: rest) pos) (tAnd tA tB') := by
  intro wh pins s σ H Q I h
  refine isTrue_and (thn (ha pins s σ H _ I h) fun c s1 ⟨H1, I1, q1⟩ => ?_)
  cases c with
  | true => exact hb wh pins s1 σ H1 Q I1 q1
  | false => exact ⟨H1, I1, q1⟩
theorem pw_or (ha : PT X a tA) (hb : PW X (.BoolOp .Or (b :: rest) pos) tB') : PW X (.BoolOp .Or (a :: b :: rest) pos) (tOr tA tB') := by
  intro wh pins s σ H Q I h
  refine isTrue_or (thn (ha pins s σ H _ I h) fun c s1 ⟨H1, I1, q1⟩ => ?_)
  cases c with
  | true => exact ⟨H1, I1, q1⟩
  | false => exact hb wh pins s1 σ H1 Q I1 q1
theorem pt_not (ha : PT X a tA) : PT X (.UnaryOp .Not a pos) (tNot tA) := by
  intro pins s σ H Q I h
  exact isTrue_not (ha pins s σ H (fun c H1 => Q (!c) H1) I h)
/-- .. as values (bools) -/
def tAndV (ta tb : TE) : TE := fun σ H Q => ta σ H fun x H1 => ∃ c, x = .bl c ∧ if c = true then tb σ H1 Q else Q (.bl false) H1
def tOrV (ta tb : TE) : TE := fun σ H Q => ta σ H fun x H1 => ∃ c, x = .bl c ∧ if c = true then Q (.bl true) H1 else tb σ H1 Q
def tNotV (ta : TE) : TE := fun σ H Q => ta σ H fun x H1 => ∃ c, x = .bl c ∧ Q (.bl (!c)) H1
theorem pe_one {op} {t : TE} (h : PE X a t) : PE X (.BoolOp op [a] pos) t := fun pins s σ H Q I hw => BoolOp_one (h pins s σ H Q I hw)
theorem pe_and (ha : PE X a ta) (hb : PE X (.BoolOp .And (b :: rest) pos) tb) : PE X (.BoolOp .And (a :: b :: rest) pos) (tAndV ta tb) := by
  intro pins s σ H Q I h
  refine BoolOp_and (thn (ha pins s σ H _ I h) fun v s1 ⟨x, H1, I1, r1, q1⟩ => ?_)
  obtain ⟨c, rfl, q1⟩ := q1
  cases r1
  refine wpAny_truthy_bool ?_
  cases c with
  | true => exact hb pins s1 σ H1 Q I1 q1
  | false => exact ⟨.bl false, H1, I1, rfl, q1⟩
theorem pe_or (ha : PE X a ta) (hb : PE X (.BoolOp .Or (b :: rest) pos) tb) : PE X (.BoolOp .Or (a :: b :: rest) pos) (tOrV ta tb) := by
  intro pins s σ H Q I h
  refine BoolOp_or (thn (ha pins s σ H _ I h) fun v s1 ⟨x, H1, I1, r1, q1⟩ => ?_)
  obtain ⟨c, rfl, q1⟩ := q1
  cases r1
  refine wpAny_truthy_bool ?_
  cases c with
  | false => exact hb pins s1 σ H1 Q I1 q1
  | true => exact ⟨.bl true, H1, I1, rfl, q1⟩
theorem pe_not (ha : PE X a ta) : PE X (.UnaryOp .Not a pos) (tNotV ta) := by
  intro pins s σ H Q I h
  refine UnaryOp_ (thn (ha pins s σ H _ I h) fun v s1 ⟨x, H1, I1, r1, q1⟩ => ?_)
  obtain ⟨c, rfl, q1⟩ := q1
  cases r1
  exact not_of (wpAny_truthy_bool ⟨.bl (!c), H1, I1, rfl, q1⟩)
/-- a if t else b -/
def tIf (t : TT) (ta tb : TE) : TE := fun σ H Q => t σ H fun c H1 => if c = true then ta σ H1 Q else tb σ H1 Q
theorem pe_ifExp {c : Expr} (hc : PT X c tA) (ha : PE X a ta) (hb : PE X b tb) : PE X (.IfExp c a b pos) (tIf tA ta tb) := by
  intro pins s σ H Q I h
  refine wpAny_IfExp (thn (hc pins s σ H _ I h) fun d s1 ⟨H1, I1, q1⟩ => ?_)
  cases d with
  | true => exact ha pins s1 σ H1 Q I1 q1
  | false => exact hb pins s1 σ H1 Q I1 q1
end
end L2

namespace L2
open PySem PySem.Spec PyProof.Rows

/-! ### a list, a tuple that is read: tracked, frozen, or an object of the module -/
def SqL (K : PySem.W.Frag) (H : Hp) (a : Addr) (xs : List V) : Prop :=
  Rd H a (.lst xs) ∨
    ∃ (o : Obj) (its : Array Value) (n : Nat), K.lookup a = some o ∧ o.cls = .type "list" ∧ o.dict = none ∧ o.data = .seq its n ∧ its.size ≤ sizeLine ∧ Vals xs its.toList
def SqT (K : PySem.W.Frag) (H : Hp) (a : Addr) (xs : List V) : Prop :=
  Rd H a (.tup xs) ∨
    ∃ (o : Obj) (its : Array Value) (n : Nat), K.lookup a = some o ∧ o.cls = .type "tuple" ∧ o.data = .seq its n ∧ its.size ≤ sizeLine ∧ Vals xs its.toList
def absV : Value → Option V
  | .none => some .non
  | .bool b => some (.bl b)
  | .int i _ => some (.int i)
  | .str x _ => some (.str x)
  | .bytes b _ => some (.byt b)
  | .float b _ => some (.flt b)
  | .ref a => some (.ref a)
  | .type n => some (.ty n)
  | _ => none
theorem RelV.abs {x : V} {u : Value} (r : RelV x u) : absV u = some x := by
  cases x with
  | non => cases r; rfl
  | bl _ => cases r; rfl
  | int _ => obtain ⟨t, rfl⟩ := r; rfl
  | str _ => obtain ⟨t, rfl⟩ := r; rfl
  | byt _ => obtain ⟨t, rfl⟩ := r; rfl
  | flt _ => obtain ⟨t, rfl⟩ := r; rfl
  | ref _ => cases r; rfl
  | ty _ => cases r; rfl
theorem RelV.inj {x y : V} {u : Value} (r : RelV x u) (q : RelV y u) : x = y := Option.some.inj (r.abs.symm.trans q.abs)
theorem Vals.inj : ∀ {xs ys : List V} {us : List Value}, Vals xs us → Vals ys us → xs = ys
  | _, _, _, .nil, .nil => rfl
  | _, _, _, .cons r t, .cons r' t' => by rw [r.inj r', Vals.inj t t']
section
variable {X : Cx} {pins : List (Addr × Obj)} {σ : St} {H : Hp} {s : Shared} {a : Addr} {xs ys : List V}
theorem SqL.of {K : PySem.W.Frag} (h : H a = some (.lst xs)) : SqL K H a xs := .inl (.inl h)
theorem SqT.of {K : PySem.W.Frag} (h : H a = some (.tup xs)) : SqT K H a xs := .inl (.inl h)
theorem Inv.list (I : Inv X pins σ H s) (h : SqL X.K H a xs) : ∃ its : List Value, Vals xs its ∧ PlainL s.heap a its.toArray ∧ xs.length ≤ sizeLine := by
  rcases h with h | ⟨o, its, n, hk, hc, hd, hs, hz, r⟩
  · obtain ⟨z, its, n, r, e⟩ := h.ok I.hok
    exact ⟨its, r, ⟨_, n, e, rfl, rfl, rfl⟩, z⟩
  · refine ⟨its.toList, r, ⟨o, n, I.kIn a o hk, hc, hd, by simpa using hs⟩, ?_⟩
    have e := r.length
    simp only [Array.length_toList] at e
    omega
theorem Inv.tuple (I : Inv X pins σ H s) (h : SqT X.K H a xs) : ∃ its : List Value, Vals xs its ∧ IsTup s.heap a its.toArray ∧ xs.length ≤ sizeLine := by
  rcases h with h | ⟨o, its, n, hk, hc, hs, hz, r⟩
  · obtain ⟨z, its, r, p, _⟩ := h.ok I.hok
    exact ⟨its, r, p, z⟩
  · refine ⟨its.toList, r, ⟨o, I.kIn a o hk, hc, n, by simpa using hs⟩, ?_⟩
    have e := r.length
    simp only [Array.length_toList] at e
    omega
theorem Inv.list_inj (I : Inv X pins σ H s) (h : SqL X.K H a xs) (h' : SqL X.K H a ys) : xs = ys := by
  obtain ⟨its, r, ⟨o, n, e, _, _, d⟩, _⟩ := I.list h
  obtain ⟨its', r', ⟨o', n', e', _, _, d'⟩, _⟩ := I.list h'
  rw [e] at e'; cases e'
  rw [d] at d'
  injection d' with d1 _
  have : its = its' := by simpa using congrArg Array.toList d1
  subst this
  exact r.inj r'
theorem Inv.tuple_inj (I : Inv X pins σ H s) (h : SqT X.K H a xs) (h' : SqT X.K H a ys) : xs = ys := by
  obtain ⟨its, r, ⟨o, e, _, n, d⟩, _⟩ := I.tuple h
  obtain ⟨its', r', ⟨o', e', _, n', d'⟩, _⟩ := I.tuple h'
  rw [e] at e'; cases e'
  rw [d] at d'
  injection d' with d1 _
  have : its = its' := by simpa using congrArg Array.toList d1
  subst this
  exact r.inj r'
end

/-! ### another wish about exceptions -/
abbrev Cx.wish (X : Cx) (E : Value → Shared → Prop) : Cx := { X with xe := E }
/-- no exception leaves -/
abbrev Cx.nox (X : Cx) : Cx := X.wish fun _ _ => False
theorem Cx.Ok.wish {X : Cx} (ok : X.Ok) (E : Value → Shared → Prop) : (X.wish E).Ok :=
  ⟨ok.mod, ok.kind, ok.glob, ok.blt, ok.above, ok.inj, ok.has, ok.cab, ok.hd, ok.frames, ok.stk, ok.exf, ok.bs, ok.bsz, ok.noex, ok.exfs, ok.funs, ok.frf⟩
theorem Cx.Ok.unwish {X : Cx} {E : Value → Shared → Prop} (ok : (X.wish E).Ok) : X.Ok :=
  ⟨ok.mod, ok.kind, ok.glob, ok.blt, ok.above, ok.inj, ok.has, ok.cab, ok.hd, ok.frames, ok.stk, ok.exf, ok.bs, ok.bsz, ok.noex, ok.exfs, ok.funs, ok.frf⟩
section
variable {X : Cx} {pins : List (Addr × Obj)} {σ : St} {H : Hp} {s : Shared} {E : Value → Shared → Prop}
theorem Inv.wish (I : Inv X pins σ H s) (E : Value → Shared → Prop) : Inv (X.wish E) pins σ H s := ⟨I.ok.wish E, I.os, I.bare, I.base, I.loc, I.cell, I.free, I.freeC, I.pin, I.hok, I.len⟩
theorem Inv.unwish (I : Inv (X.wish E) pins σ H s) : Inv X pins σ H s := ⟨I.ok.unwish, I.os, I.bare, I.base, I.loc, I.cell, I.free, I.freeC, I.pin, I.hok, I.len⟩
theorem SP.unwish {D : Ends} {f : Flow} {s' : Shared} (h : SP (X.wish E) pins D f s') : SP X pins D f s' := by
  cases f with
  | next => obtain ⟨σ', H', I, q⟩ := h; exact ⟨σ', H', I.unwish, q⟩
  | brk => obtain ⟨σ', H', I, q⟩ := h; exact ⟨σ', H', I.unwish, q⟩
  | cont => obtain ⟨σ', H', I, q⟩ := h; exact ⟨σ', H', I.unwish, q⟩
  | ret u => obtain ⟨v, σ', H', I, r, q⟩ := h; exact ⟨v, σ', H', I.unwish, r, q⟩
theorem PE.nox {e : Expr} {t : TE} (h : PE X.nox e t) : PE X e t := fun pins s σ H Q I hw =>
  wpAny_mono (h pins s σ H Q (I.wish _) hw) (fun _ _ ⟨v, H', I', r, q⟩ => ⟨v, H', I'.unwish, r, q⟩) fun _ _ z => False.elim z
theorem PT.nox {e : Expr} {t : TT} (h : PT X.nox e t) : PT X e t := fun pins s σ H Q I hw =>
  wpAny_mono (h pins s σ H Q (I.wish _) hw) (fun _ _ ⟨H', I', q⟩ => ⟨H', I'.unwish, q⟩) fun _ _ z => False.elim z
theorem PSs.nox {st : List Stmt} {t : TS} (h : PSs X.nox st t) : PSs X st t := fun pins s σ H D I hw =>
  wpAny_mono (h pins s σ H D (I.wish _) hw) (fun _ _ q => q.unwish) fun _ _ z => False.elim z
end

/-! ### blocks and small statements -/
section
variable {X : Cx} {st : Stmt} {rest : List Stmt} {t u : TS} {e : Expr} {te : TE} {pos : Pos}
def tNext : TS := fun D σ H => D.nx σ H
def tSeq (t u : TS) : TS := fun D σ H => t { D with nx := u D } σ H
theorem pss_nil : PSs X [] tNext := fun _ _ σ H _ I h => wpAny_execs_nil ⟨σ, H, I, h⟩
theorem pss_cons (h1 : PS X st t) (h2 : PSs X rest u) : PSs X (st :: rest) (tSeq t u) := by
  intro pins s σ H D I h
  refine wpAny_execs_cons (thn (h1 pins s σ H { D with nx := u D } I h) fun f s1 q => ?_)
  cases f with
  | next =>
    obtain ⟨σ', H', I', q⟩ := q
    exact h2 pins s1 σ' H' D I' q
  | ret v => exact q
  | brk => exact q
  | cont => exact q
theorem pss_one (h1 : PS X st t) : PSs X [st] t := by
  intro pins s σ H D I h
  refine wpAny_execs_cons (thn (h1 pins s σ H D I h) fun f s1 q => ?_)
  cases f with
  | next => exact wpAny_execs_nil q
  | ret v => exact q
  | brk => exact q
  | cont => exact q
def tBreak : TS := fun D σ H => D.bk σ H
def tCont : TS := fun D σ H => D.ct σ H
/-- in a def's body nothing is shown -/
theorem Inv.quiet {pins : List (Addr × Obj)} {σ : St} {H : Hp} {s : Shared} (I : Inv X pins σ H s) : interactive X.env = false := by simp [interactive, I.ok.kind]
/-- an expression whose value is dropped -/
def tDrop (te : TE) : TS := fun D σ H => te σ H fun _ H1 => D.nx σ H1
theorem ps_expr (he : PE X e te) (hs : swapsWith e none pos.line X.env = pure false := by rfl) : PS X (.Expr e pos) (tDrop te) := by
  intro pins s σ H D I h
  exact wpAny_Expr_any (thn (he pins s σ H _ I h) fun v s1 ⟨x, H1, I1, r1, q1⟩ => ⟨σ, H1, I1, q1⟩) I.quiet hs
def tRet (te : TE) : TS := fun D σ H => te σ H D.rt
theorem ps_ret (he : PE X e te) : PS X (.Return (some e) pos) (tRet te) := by
  intro pins s σ H D I h
  exact wpAny_Return_some (thn (he pins s σ H _ I h) fun v s1 ⟨x, H1, I1, r1, q1⟩ => ⟨x, σ, H1, I1, r1, q1⟩)
def tRetN : TS := fun D _ H => D.rt .non H
def tIfS (c : TT) (t u : TS) : TS := fun D σ H => c σ H fun b H1 => if b = true then t D σ H1 else u D σ H1
theorem ps_if {c : Expr} {a b : List Stmt} {tc : TT} (hc : PT X c tc) (ha : PSs X a t) (hb : PSs X b u) : PS X (.If c a b pos) (tIfS tc t u) := by
  intro pins s σ H D I h
  refine wpAny_If (thn (hc pins s σ H _ I h) fun d s1 ⟨H1, I1, q1⟩ => ?_)
  cases d with
  | true => exact ha pins s1 σ H1 D I1 q1
  | false => exact hb pins s1 σ H1 D I1 q1
/-- code that the proof never comes to -/
def tNever : TS := fun _ _ _ => False
end

/-! ### targets -/
abbrev TG := V → St → Hp → (St → Hp → Prop) → Prop
abbrev TGs := List V → St → Hp → (St → Hp → Prop) → Prop
def PG (X : Cx) (target : Expr) (t : TG) : Prop :=
  ∀ (pins : List (Addr × Obj)) (s : Shared) (σ : St) (H : Hp) (v : V) (u : Value) (Q : St → Hp → Prop), Inv X pins σ H s → RelV v u → t v σ H Q →
    wpAny (model X.prog X.w) X.A (assign target X.env u) (fun _ s' => ∃ σ' H', Inv X pins σ' H' s' ∧ Q σ' H') X.xe s
/-- several targets, one after another -/
def PGs (X : Cx) (ts : List Expr) (t : TGs) : Prop :=
  ∀ (pins : List (Addr × Obj)) (s : Shared) (σ : St) (H : Hp) (vs : List V) (us : List Value) (Q : St → Hp → Prop), Inv X pins σ H s → Vals vs us → t vs σ H Q →
    wpAny (model X.prog X.w) X.A (assignInOrder ((assignEach ts X.env).map (·.2)) us) (fun _ s' => ∃ σ' H', Inv X pins σ' H' s' ∧ Q σ' H') X.xe s
/-- o[i] = v, by values -/
abbrev TSet := V → V → V → Hp → (Hp → Prop) → Prop
def PSet (X : Cx) (t : TSet) : Prop :=
  ∀ (pins : List (Addr × Obj)) (s : Shared) (σ : St) (H : Hp) (o i v : V) (ov iv u : Value) (Q : Hp → Prop), Inv X pins σ H s → RelV o ov → RelV i iv → RelV v u → t o i v H Q →
    wpAny (model X.prog X.w) X.A (setItem ov iv u) (fun _ s' => ∃ H', Inv X pins σ H' s' ∧ Q H') X.xe s
/-- a op= b, by values -/
abbrev TIp := V → V → Hp → VK → Prop
def PIp (X : Cx) (op : Operator) (t : TIp) : Prop :=
  ∀ (pins : List (Addr × Obj)) (s : Shared) (σ : St) (H : Hp) (x y : V) (v u : Value) (Q : VK), Inv X pins σ H s → RelV x v → RelV y u → t x y H Q →
    wpAny (model X.prog X.w) X.A (inplaceOp op v u) (EP X pins σ Q) X.xe s
section
variable {X : Cx} {pos : Pos}
def gName (i : Nat) : TG := fun v σ H Q => Q (σ.set i (some v)) H
theorem pg_name {i : Nat} {x : Str} (hN : X.N.Nodup) (hi : X.N[i]? = some x) (hx : Loc X.env.scope x) (hf : X.fn x = true ∨ X.env.scope.names.lookup x = some .local := by first | exact .inl rfl | exact .inr rfl | assumption) : PG X (.Name x pos) (gName i) := by
  intro pins s σ H v u Q I r h
  exact wpAny_assign_Name (store_ok I hN hi hx r (fun s' I' => ⟨_, H, I', h⟩) hf)
def gNil : TGs := fun vs σ H Q => vs = [] ∧ Q σ H
def gCons (t : TG) (u : TGs) : TGs := fun vs σ H Q => ∃ v r, vs = v :: r ∧ t v σ H fun σ' H' => u r σ' H' Q
theorem pgs_nil : PGs X [] gNil := by
  intro pins s σ H vs us Q I r h
  obtain ⟨e, h⟩ := h
  subst e
  cases r
  exact assignInOrder_nil ⟨σ, H, I, h⟩
theorem pgs_cons {e : Expr} {es : List Expr} {t : TG} {u : TGs} (h1 : PG X e t) (h2 : PGs X es u)
    (hs : (assignEach (e :: es) X.env).map (·.2) = assign e X.env :: (assignEach es X.env).map (·.2) := by rfl) : PGs X (e :: es) (gCons t u) := by
  intro pins s σ H vs us Q I r h
  obtain ⟨v, vr, e1, h⟩ := h
  subst e1
  cases r with
  | cons r rr =>
    rw [hs]
    refine assignInOrder_cons (thn (h1 pins s σ H _ _ _ I r h) fun _ s1 ⟨σ1, H1, I1, q1⟩ => ?_)
    exact h2 pins s1 σ1 H1 _ _ Q I1 rr q1
/-- (a, b, ..) = a tuple of that length -/
def gTup (K : PySem.W.Frag) (n : Nat) (t : TGs) : TG := fun v σ H Q => ∃ a xs, v = .ref a ∧ SqT K H a xs ∧ xs.length = n ∧ t xs σ H Q
theorem pg_tup {es : List Expr} {k : Nat} {t : TGs} {n : Nat} (hc : X.calm = true) (h : PGs X es t)
    (hn : (assignEach es X.env).length = n := by rfl) (hst : (assignEach es X.env).findIdx? (·.1) = none := by rfl) : PG X (.Tuple es k pos) (gTup X.K n t) := by
  intro pins s σ H v u Q I r hw
  obtain ⟨a, xs, e1, hq, hl, hw⟩ := hw
  subst e1
  cases r
  obtain ⟨its, rv, ht, hz⟩ := I.tuple hq
  refine assign_Tuple_tuple (I.ok.hd hc) ht (by simp [hn, ← hl, rv.length]) hst fun h' hx => ?_
  have I1 : Inv X pins σ H { s with heap := h' } := I.kept (t' := s.toks) fun b o e => hx b o (Nat.ne_of_lt (Heap.lt_size e)) e
  exact h pins _ σ H xs _ Q I1 (by simpa using rv) hw
/-- o[i] = .. -/
def gSub (to ti : TE) (t : TSet) : TG := fun v σ H Q => to σ H fun o H1 => ti σ H1 fun i H2 => t o i v H2 fun H3 => Q σ H3
theorem pg_sub {o i : Expr} {to ti : TE} {t : TSet} (ho : PE X o to) (hi : PE X i ti) (hs : PSet X t)
    (ha : ∀ v, assign (.Subscript o i pos) X.env v = (do
      let ov ← holding [v] (eval o X.env)
      let iv ← holding [v, ov] (eval i X.env)
      standAt pos
      holding [v, ov, iv] (setItem ov iv v)
      release [v, ov, iv] []) := by intro _; rfl) : PG X (.Subscript o i pos) (gSub to ti t) := by
  intro pins s σ H v u Q I r h
  rw [ha]
  refine wpAny_bind (wpAny_holding (thn (ho pins s σ H _ I h) fun ov s1 ⟨x, H1, I1, r1, q1⟩ => ?_))
  refine wpAny_bind (wpAny_holding (thn (hi pins s1 σ H1 _ I1 q1) fun iv s2 ⟨y, H2, I2, r2, q2⟩ => ?_))
  refine wpAny_bind (wpAny_standAt (wpAny_bind (wpAny_holding (thn (hs pins s2 σ H2 x y v ov iv u _ I2 r1 r2 r q2) fun _ s3 ⟨H3, I3, q3⟩ => ?_))))
  exact wpAny_release ⟨σ, H3, I3, q3⟩
/-- target = value -/
def tAsg (te : TE) (g : TG) : TS := fun D σ H => te σ H fun x H1 => g x σ H1 D.nx
theorem ps_asg {tg e : Expr} {te : TE} {g : TG} (he : PE X e te) (hg : PG X tg g) (hs : swapsWithSole [tg] e pos.line X.env = pure false := by rfl) (hw : swappedStores [tg] e X.env = pure none := by rfl)
    (h1 : (assignEach [tg] X.env).map (·.2) = [assign tg X.env] := by rfl) : PS X (.Assign [tg] e pos) (tAsg te g) := by
  intro pins s σ H D I h
  refine wpAny_Assign_stores (thn (he pins s σ H _ I h) fun v s1 ⟨x, H1, I1, r1, q1⟩ => ?_) hs hw
  rw [h1]
  exact thn (hg pins s1 σ H1 x v _ I1 r1 q1) fun _ s2 q => q
/-- name = value -/
theorem ps_set {i : Nat} {x : Str} {e : Expr} {te : TE} {pos' : Pos} (hN : X.N.Nodup) (hi : X.N[i]? = some x) (hx : Loc X.env.scope x) (he : PE X e te) (hs : swapsWith e (some (.Name x pos')) pos.line X.env = pure false := by rfl) (hf : X.fn x = true ∨ X.env.scope.names.lookup x = some .local := by first | exact .inl rfl | exact .inr rfl | assumption) :
    PS X (.Assign [.Name x pos'] e pos) (tAsg te (gName i)) := by
  intro pins s σ H D I h
  refine wpAny_Assign_Name (thn (he pins s σ H _ I h) fun v s1 ⟨y, H1, I1, r1, q1⟩ => ?_) hs
  exact store_ok I1 hN hi hx r1 (fun s2 I2 => ⟨_, H1, I2, q1⟩) hf
/-- a, b = x, y with plain local names: stored from the right; the pair itself is not tracked (the opening rows as in PyProof/Rows/TupAssign.lean:23) -/
def tPar (i j : Nat) (ta : TA) : TS := fun D σ H => ta σ H fun vs H1 => ∃ v w, vs = [v, w] ∧ D.nx ((σ.set i (some v)).set j (some w)) H1
theorem ps_par {i j : Nat} {x y : Str} {a b : Expr} {ta : TA} {px py pt : Pos} {kt k2 pt2} (hc : X.calm = true) (hN : X.N.Nodup) (hi : X.N[i]? = some x) (hj : X.N[j]? = some y) (hij : i ≠ j)
    (hx : X.env.scope.names.lookup x = some .local) (hy : X.env.scope.names.lookup y = some .local) (ha : PA X [a, b] ta)
    (hw : swappedStores [.Tuple [.Name x px, .Name y py] kt pt] (.Tuple [a, b] k2 pt2) X.env = pure (some [x, y]))
    (hs : swapsWithSole [.Tuple [.Name x px, .Name y py] kt pt] (.Tuple [a, b] k2 pt2) pos.line X.env = pure false := by rfl) :
    PS X (.Assign [.Tuple [.Name x px, .Name y py] kt pt] (.Tuple [a, b] k2 pt2) pos) (tPar i j ta) := by
  intro pins s σ H D I h
  rw [exec_Assign_arm]
  refine wpAny_bind (wpAny_standAt ?_)
  rw [hs]
  refine wpAny_bind (wpAny_pure ?_)
  rw [if_neg (by decide)]
  refine wpAny_bind (Tuple_ (thn (ha _ pins s σ H _ I h) fun us s1 ⟨vs, H1, I1, r1, q1⟩ => ?_))
  obtain ⟨v, w, e1, q1⟩ := q1
  subst e1
  obtain ⟨u1, u2, rfl, rv, rw'⟩ : ∃ u1 u2, us = [u1, u2] ∧ RelV v u1 ∧ RelV w u2 := by
    cases r1 with
    | cons p q =>
      cases q with
      | cons p' q' =>
        cases q'
        exact ⟨_, _, rfl, p, p'⟩
  refine wpAny_newObj_type ?_ (by show 2 ≤ sizeLine; decide)
  have I2 : Inv X pins σ H1 { s1 with heap := s1.heap.push { cls := .type "tuple", data := .seq [u1, u2].toArray } } := I1.kept (t' := s1.toks) fun b o e => Heap.get?_push_of_some _ e
  rw [hw]
  refine wpAny_bind (wpAny_pure ?_)
  show wpAny (model X.prog X.w) X.A (do rule "assign.swapped-stores"; let items ← unpackItems (.ref s1.heap.objs.size) 2 none; assignInOrder [fun v => bindName X.env y v, fun v => bindName X.env x v] items.reverse; pure Flow.next) _ _ _
  refine wpAny_bind (wpAny_rule (wpAny_bind (unpackItems_tuple (items := #[u1, u2]) (I.ok.hd hc) (IsTup.new s1.heap _) fun h' hx' => ?_)))
  have I3 := I2.kept (h' := h') (t' := s1.toks) fun b o e => hx' b o (Nat.ne_of_lt (Heap.lt_size e)) e
  show wpAny _ _ (assignInOrder [fun v => bindName X.env y v, fun v => bindName X.env x v] [u2, u1] >>= fun _ => pure Flow.next) _ _ _
  refine wpAny_bind (assignInOrder_cons (wpAny_bindName (store_ok I3 hN hj (.inl hy) rw' (fun s2 I4 => ?_) (.inr hy))))
  refine assignInOrder_cons (wpAny_bindName (store_ok I4 hN hi (.inl hx) rv (fun s3 I5 => assignInOrder_nil (wpAny_pure ?_)) (.inr hx)))
  rw [List.set_comm _ _ (Ne.symm hij)] at I5
  exact ⟨_, H1, I5, q1⟩
/-- name op= e -/
def tAug (i : Nat) (te : TE) (ti : TIp) : TS := fun D σ H => ∃ x, σ[i]? = some (some x) ∧ te σ H fun y H1 => ti x y H1 fun z H2 => D.nx (σ.set i (some z)) H2
/-- o[i] op= e -/
def tAugS (to ti te : TE) (tget : V → V → Hp → VK → Prop) (tip : TIp) (tset : TSet) : TS := fun D σ H => to σ H fun o H1 => ti σ H1 fun i H2 => tget o i H2 fun x H3 => te σ H3 fun y H4 => tip x y H4 fun z H5 => tset o i z H5 fun H6 => D.nx σ H6
/-- o[i], by values -/
def PGet (X : Cx) (t : V → V → Hp → VK → Prop) : Prop :=
  ∀ (pins : List (Addr × Obj)) (s : Shared) (σ : St) (H : Hp) (o i : V) (ov iv : Value) (Q : VK), Inv X pins σ H s → RelV o ov → RelV i iv → t o i H Q →
    wpAny (model X.prog X.w) X.A (getItem ov iv) (EP X pins σ Q) X.xe s
/-- ints -/
def ipI (f : Int → Int → Int) : TIp := fun x y H Q => ∃ i j, x = .int i ∧ y = .int j ∧ Q (.int (f i j)) H
end

/-! ### while -/
section
variable {X : Cx} {pos : Pos}
/-- the invariant W with its measure -/
def tWhile (c : TT) (tb : TS) : TS := fun D σ H => ∃ W : Nat → St → Hp → Prop, (∃ m, W m σ H) ∧ ∀ m σ H, W m σ H →
  c σ H fun b H1 => if b = true then ∃ N : St → Hp → Prop, (∀ σ' H', N σ' H' → ∃ m', m' < m ∧ W m' σ' H') ∧ tb { D with nx := N, ct := N, bk := D.nx } σ H1 else D.nx σ H1
theorem ps_while {c : Expr} {body : List Stmt} {tc : TT} {tb : TS} (hp : PassesOwn (model X.prog X.w) X.A X.env X.xe) (hc : PT X c tc) (hb : PSs X body tb) : PS X (.While c body [] pos) (tWhile tc tb) := by
  intro pins s σ H D I h
  obtain ⟨W, ⟨m0, w0⟩, turn⟩ := h
  refine wpAny_While (codeAny_whileLoop (fun n s' => ∃ σ' H', Inv X pins σ' H' s' ∧ W n σ' H') ?_ m0 ⟨σ, H, I, w0⟩)
  rintro n s1 ⟨σ1, H1, I1, w1⟩
  refine wpAny_passesOwn hp (thn (hc pins s1 σ1 H1 _ I1 (turn n σ1 H1 w1)) fun b s2 ⟨H2, I2, q2⟩ => ?_)
  cases b with
  | true =>
    obtain ⟨N, hN, q2⟩ := q2
    rw [if_pos rfl]
    refine wpAny_passesOwn hp (thn (hb pins s2 σ1 H2 _ I2 q2) fun f s3 q3 => ?_)
    cases f with
    | next =>
      obtain ⟨σ3, H3, I3, n3⟩ := q3
      obtain ⟨m', hm, w3⟩ := hN σ3 H3 n3
      exact ⟨m', hm, σ3, H3, I3, w3⟩
    | cont =>
      obtain ⟨σ3, H3, I3, n3⟩ := q3
      obtain ⟨m', hm, w3⟩ := hN σ3 H3 n3
      exact ⟨m', hm, σ3, H3, I3, w3⟩
    | brk => exact q3
    | ret v => exact q3
  | false =>
    rw [if_neg Bool.false_ne_true]
    exact wpAny_execs_nil ⟨σ1, H2, I2, q2⟩
end

/-! ### what a loop or a comprehension walks -/
/-- at turn i: it yields x (the heap may grow), or it stops -/
structure It where
  go : Nat → Hp → Prop
  yld : Nat → Hp → V → Hp → Prop
  stop : Nat → Hp → Prop
/-- the iterator's own objects may turn: they are not the frame's, not pinned, younger than the entry (or a comprehension's own) -/
def FpOk (X : Cx) (pins : List (Addr × Obj)) (H : Hp) (b : Addr) : Prop :=
  H b = none ∧ b ≠ X.env.locals ∧ b ∉ X.fs ∧ (b ∈ X.ex ∨ X.s₀.heap.objs.size ≤ b) ∧ (∀ x c, X.env.cells.lookup x = some c → c ≠ b) ∧ ∀ p ∈ X.pn ++ pins, p.1 ≠ b
theorem Inv.fpOk {X : Cx} {pins : List (Addr × Obj)} {σ : St} {H H' : Hp} {s : Shared} {b : Addr} (I : Inv X pins σ H s) (hb : s.heap.objs.size ≤ b) (hn : H' b = none) : FpOk X pins H' b := by
  refine ⟨hn, Nat.ne_of_gt (Nat.lt_of_lt_of_le I.lt hb), I.nofs hb, .inr (Nat.le_trans I.sz hb), fun x c e z => ?_, fun p hp z => ?_⟩
  · obtain ⟨v, q⟩ := I.cell x c e
    exact absurd (Nat.lt_of_lt_of_le q.lt (by rw [z]; exact hb)) (Nat.lt_irrefl _)
  · exact absurd (Nat.lt_of_lt_of_le (Heap.lt_size (I.pin p hp).1) (by rw [z]; exact hb)) (Nat.lt_irrefl _)
structure Turn (P : Program) (w : World) (K : PySem.W.Frag) (tg : Expr) (J : It) (fp : List Addr) (it : Addr) (tn : Nat → Heap → Prop) : Prop where
  mem : it ∈ fp
  obj : ∀ i h, tn i h → ∀ b ∈ fp, ∃ o, h.get? b = some o ∧ ∀ v, o.data ≠ .cell v
  keep : ∀ i h h', tn i h → (∀ b ∈ fp, ∀ o, h.get? b = some o → h'.get? b = some o) → tn i h'
  item : ∀ (X : Cx), X.prog = P → X.w = w → X.K = K → X.calm = true → ∀ (i : Nat) (pins : List (Addr × Obj)) (s : Shared) (σ : St) (H : Hp) (E : Value → Shared → Prop), Inv X pins σ H s → (∀ b ∈ fp, FpOk X pins H b) → tn i s.heap → J.go i H →
    wpAny (model P w) X.A (pyNext (.ref it)) (fun r s1 => ∃ u, r = some u ∧
      wpAny (model P w) X.A (letOwnedTupleGo tg (.ref it) u) (fun _ s2 => ∃ x H', Inv X pins σ H' s2 ∧ RelV x u ∧ J.yld i H x H' ∧ tn (i + 1) s2.heap ∧ ∀ b ∈ fp, H' b = none) E s1) E s
  done : ∀ (X : Cx), X.prog = P → X.w = w → X.K = K → X.calm = true → ∀ (i : Nat) (pins : List (Addr × Obj)) (s : Shared) (σ : St) (H : Hp) (E : Value → Shared → Prop), Inv X pins σ H s → (∀ b ∈ fp, FpOk X pins H b) → tn i s.heap → J.stop i H →
    wpAny (model P w) X.A (pyNext (.ref it)) (fun r s1 => r = none ∧ Inv X pins σ H s1) E s
  self : ∀ (A : Around) (i : Nat) (s : Shared) (Q : Value → Shared → Prop) (E : Value → Shared → Prop), tn i s.heap → Q (.ref it) s → wpAny (model P w) A (pyIter (.ref it)) Q E s
abbrev TI := St → Hp → (It → Hp → Prop) → Prop
/-- an iterator has come -/
def PIE (X : Cx) (pins : List (Addr × Obj)) (σ : St) (tg : Expr) (R : It → Hp → Prop) (itv : Value) (s2 : Shared) : Prop :=
  ∃ (it : Addr) (fp : List Addr) (tn : Nat → Heap → Prop) (J : It) (H' : Hp), itv = .ref it ∧ Inv X pins σ H' s2 ∧ Turn X.prog X.w X.K tg J fp it tn ∧ tn 0 s2.heap ∧ (∀ b ∈ fp, FpOk X pins H' b) ∧ R J H'
def PI (X : Cx) (tg iter : Expr) (wi : TI) : Prop :=
  ∀ (pins : List (Addr × Obj)) (s : Shared) (σ : St) (H : Hp) (R : It → Hp → Prop), Inv X pins σ H s → wi σ H R →
    wpAny (model X.prog X.w) X.A (eval iter X.env) (fun v s1 => wpAny (model X.prog X.w) X.A (pyIter v) (PIE X pins σ tg R) X.xe s1) X.xe s

/-- the step ahead of the store is nothing for an iterator that keeps no tuple -/
theorem go_of {M : Model} {A : Around} {E : Value → Shared → Prop} {s : Shared} {tg : Expr} {it : Addr} {u : Value} {o : Obj} {n : String} {vs : Array Value} {Q : Unit → Shared → Prop} (ho : s.heap.get? it = some o) (hc : o.cls = .type n) (hd : o.data = .fields vs)
    (hn : ["enumerate", "zip", "dict_itemiterator", "dict_reverseitemiterator", "odict_iterator", "itertools.zip_longest", "itertools.pairwise"].contains n = false) (hQ : Q () s) : wpAny M A (letOwnedTupleGo tg (.ref it) u) Q E s := by
  unfold letOwnedTupleGo
  cases tg <;> first
    | exact wpAny_pure hQ
    | (cases u <;> first
        | exact wpAny_pure hQ
        | (refine wpAny_bind (wpAny_load ho ?_)
           rw [hc, hd]
           show wpAny M A (if (["enumerate", "zip", "dict_itemiterator", "dict_reverseitemiterator", "odict_iterator", "itertools.zip_longest", "itertools.pairwise"].contains n && vs[0]? == some (rawInt _)) = true then _ else _) Q E s
           rw [if_neg (by intro h; rw [hn, Bool.false_and] at h; cases h)]
           exact wpAny_pure hQ))

/-- the list at a, as it stands at each turn (a loop may append to it) -/
def Itl (K : PySem.W.Frag) (a : Addr) : It :=
  ⟨fun i H => ∃ xs x, SqL K H a xs ∧ xs[i]? = some x, fun i H x H' => H' = H ∧ ∀ xs, SqL K H a xs → xs[i]? = some x, fun i H => ∃ xs, SqL K H a xs ∧ xs.length ≤ i⟩
def Itt (K : PySem.W.Frag) (a : Addr) : It :=
  ⟨fun i H => ∃ xs x, SqT K H a xs ∧ xs[i]? = some x, fun i H x H' => H' = H ∧ ∀ xs, SqT K H a xs → xs[i]? = some x, fun i H => ∃ xs, SqT K H a xs ∧ xs.length ≤ i⟩
/-- lo, lo + 1, .. (n of them) -/
def Itr (lo : Int) (n : Nat) : It := ⟨fun i _ => i < n, fun i H x H' => H' = H ∧ x = .int (lo + i), fun i _ => n ≤ i⟩
theorem turn_list {P : Program} {w : World} {K : PySem.W.Frag} {tg : Expr} (a it : Addr) : Turn P w K tg (Itl K a) [it] it (fun i h => h.IsListIter it a i) where
  mem := by simp
  obj := fun i h st b hb => by
    have e : b = it := by simpa using hb
    subst e
    obtain ⟨o, e, c, d⟩ := st
    exact ⟨o, e, fun v z => by rw [d] at z; cases z⟩
  keep := fun i h h' st k => st.at fun o e => k it (by simp) o e
  item := by
    intro X hP hw hK hc i pins s σ H E I hf st hg
    subst hP hw hK
    obtain ⟨xs, x, hq, hx⟩ := hg
    obtain ⟨its, rv, p, hz⟩ := I.list hq
    obtain ⟨u, hu, ru⟩ := rv.get hx
    obtain ⟨f0, f1, f2, f3, f4, f5⟩ := hf it (by simp)
    refine wpAny_pyNext_list_item st p.isList (x := u) (by simpa using hu) fun h' st' sb => ?_
    have I1 : Inv X pins σ H { s with heap := h' } := I.turned (t' := s.toks) (fun b o hb e => (sb.2 b hb).trans e) f0 f1 f3 f4 f5
    obtain ⟨o, e, c, d⟩ := id st'
    exact ⟨u, rfl, go_of (s := { s with heap := h' }) e c d (by decide) ⟨x, H, I1, ru, ⟨rfl, fun ys hy => by rw [I.list_inj hy hq]; exact hx⟩, st', fun b hb => (hf b hb).1⟩⟩
  done := by
    intro X hP hw hK hc i pins s σ H E I hf st hg
    subst hP hw hK
    obtain ⟨xs, hq, hx⟩ := hg
    obtain ⟨its, rv, p, hz⟩ := I.list hq
    obtain ⟨f0, f1, f2, f3, f4, f5⟩ := hf it (by simp)
    have hl := rv.length
    exact wpAny_pyNext_list_end (I.ok.hd hc) st p.isList (by simp; omega) fun h' eb => ⟨rfl, I.turned (t' := s.toks) (fun b o hb e => eb b o hb e) f0 f1 f3 f4 f5⟩
  self := fun _ _ _ _ _ st h => wpAny_pyIter_listiter st h
theorem turn_tuple {P : Program} {w : World} {K : PySem.W.Frag} {tg : Expr} (a it : Addr) : Turn P w K tg (Itt K a) [it] it (fun i h => h.IsTupleIter it a i) where
  mem := by simp
  obj := fun i h st b hb => by
    have e : b = it := by simpa using hb
    subst e
    obtain ⟨o, e, c, d⟩ := st
    exact ⟨o, e, fun v z => by rw [d] at z; cases z⟩
  keep := fun i h h' st k => st.at fun o e => k it (by simp) o e
  item := by
    intro X hP hw hK hc i pins s σ H E I hf st hg
    subst hP hw hK
    obtain ⟨xs, x, hq, hx⟩ := hg
    obtain ⟨its, rv, p, hz⟩ := I.tuple hq
    obtain ⟨u, hu, ru⟩ := rv.get hx
    obtain ⟨f0, f1, f2, f3, f4, f5⟩ := hf it (by simp)
    refine wpAny_pyNext_tuple_item st (show s.heap.IsTuple a its.toArray from p) (x := u) (by simpa using hu) fun h' st' sb => ?_
    have I1 : Inv X pins σ H { s with heap := h' } := I.turned (t' := s.toks) (fun b o hb e => (sb.2 b hb).trans e) f0 f1 f3 f4 f5
    obtain ⟨o, e, c, d⟩ := id st'
    exact ⟨u, rfl, go_of (s := { s with heap := h' }) e c d (by decide) ⟨x, H, I1, ru, ⟨rfl, fun ys hy => by rw [I.tuple_inj hy hq]; exact hx⟩, st', fun b hb => (hf b hb).1⟩⟩
  done := by
    intro X hP hw hK hc i pins s σ H E I hf st hg
    subst hP hw hK
    obtain ⟨xs, hq, hx⟩ := hg
    obtain ⟨its, rv, p, hz⟩ := I.tuple hq
    obtain ⟨f0, f1, f2, f3, f4, f5⟩ := hf it (by simp)
    have hl := rv.length
    exact wpAny_pyNext_tuple_end (I.ok.hd hc) st (show s.heap.IsTuple a its.toArray from p) (by simp; omega) fun h' eb => ⟨rfl, I.turned (t' := s.toks) (fun b o hb e => eb b o hb e) f0 f1 f3 f4 f5⟩
  self := fun _ _ _ _ _ st h => wpAny_pyIter_tupleiter st h
theorem turn_range {P : Program} {w : World} {K : PySem.W.Frag} {tg : Expr} (it : Addr) (lo : Int) (n : Nat) : Turn P w K tg (Itr lo n) [it] it (fun i h => IsRangeIter h it (lo + (i : Nat) * 1) ((n : Int) - (i : Nat)) 1) where
  mem := by simp
  obj := fun i h st b hb => by
    have e : b = it := by simpa using hb
    subst e
    exact ⟨_, st, fun v z => by
      have z' : Data.fields _ = Data.cell v := z
      cases z'⟩
  keep := fun i h h' st k => k it (by simp) _ st
  item := by
    intro X hP hw hK hc i pins s σ H E I hf st hg
    subst hP hw hK
    obtain ⟨f0, f1, f2, f3, f4, f5⟩ := hf it (by simp)
    have W := Walks.range (prog := X.prog) (w := X.w) (I.ok.hd hc) it lo 1 n
    refine W.item i s _ _ hg st fun v h' tk hv st' kk => ?_
    obtain ⟨t, rfl⟩ := hv
    have I1 : Inv X pins σ H { s with heap := h', toks := tk } := I.turned (fun b o hb e => kk b o (by simpa using hb) e) f0 f1 f3 f4 f5
    refine ⟨_, rfl, go_of (s := { s with heap := h', toks := tk }) (n := "range_iterator") st' rfl rfl (by decide) ⟨.int (lo + i), H, I1, ⟨t, ?_⟩, ⟨rfl, rfl⟩, st', fun b hb => (hf b hb).1⟩⟩
    rw [Int.mul_one]
  done := by
    intro X hP hw hK hc i pins s σ H E I hf st hg
    subst hP hw hK
    obtain ⟨f0, f1, f2, f3, f4, f5⟩ := hf it (by simp)
    exact wpAny_pyNext_range_end (I.ok.hd hc) st (by have : n ≤ i := hg; omega) fun h' eb => ⟨rfl, I.turned (t' := s.toks) (fun b o hb e => eb b o hb e) f0 f1 f3 f4 f5⟩
  self := fun _ _ _ _ _ st h => wpAny_pyIter_rangeiter st h
end L2

namespace L2
open PySem PySem.Spec PyProof.Rows
section
variable {X : Cx} {tg : Expr}
def iList (K : PySem.W.Frag) (tl : TE) : TI := fun σ H R => tl σ H fun x H1 => ∃ a, x = .ref a ∧ (∃ xs, SqL K H1 a xs) ∧ R (Itl K a) H1
def iTup (K : PySem.W.Frag) (tl : TE) : TI := fun σ H R => tl σ H fun x H1 => ∃ a, x = .ref a ∧ (∃ xs, SqT K H1 a xs) ∧ R (Itt K a) H1
theorem pi_list {l : Expr} {tl : TE} (hl : PE X l tl) : PI X tg l (iList X.K tl) := by
  intro pins s σ H R I h
  refine thn (hl pins s σ H _ I h) fun v s1 ⟨x, H1, I1, r1, q1⟩ => ?_
  obtain ⟨a, e, ⟨xs, hq⟩, q⟩ := q1
  subst e
  cases r1
  obtain ⟨its, rv, p, hz⟩ := I1.list hq
  refine wpAny_pyIter_list p.isList ?_
  refine ⟨s1.heap.objs.size, [s1.heap.objs.size], _, _, H1, rfl, I1.kept (t' := s1.toks) fun b o e => Heap.get?_push_of_some _ e, turn_list a _, ⟨_, Heap.get?_push_size _ rfl, rfl, rfl⟩, fun b hb => ?_, q⟩
  have e : b = s1.heap.objs.size := by simpa using hb
  subst e
  exact I1.fpOk (Nat.le_refl _) (I1.hok.fresh (Nat.le_refl _))
theorem pi_tup {l : Expr} {tl : TE} (hl : PE X l tl) : PI X tg l (iTup X.K tl) := by
  intro pins s σ H R I h
  refine thn (hl pins s σ H _ I h) fun v s1 ⟨x, H1, I1, r1, q1⟩ => ?_
  obtain ⟨a, e, ⟨xs, hq⟩, q⟩ := q1
  subst e
  cases r1
  obtain ⟨its, rv, p, hz⟩ := I1.tuple hq
  refine wpAny_pyIter_tuple (show s1.heap.IsTuple a its.toArray from p) ?_
  refine ⟨s1.heap.objs.size, [s1.heap.objs.size], _, _, H1, rfl, I1.kept (t' := s1.toks) fun b o e => Heap.get?_push_of_some _ e, turn_tuple a _, ⟨_, Heap.get?_push_size _ rfl, rfl, rfl⟩, fun b hb => ?_, q⟩
  have e : b = s1.heap.objs.size := by simpa using hb
  subst e
  exact I1.fpOk (Nat.le_refl _) (I1.hok.fresh (Nat.le_refl _))
/-- a range object just made, walked -/
theorem range_it {pins : List (Addr × Obj)} {σ : St} {H : Hp} {s : Shared} {R : It → Hp → Prop} {E : Value → Shared → Prop} {lo hi : Int} {t u v : Tok} {tk : Nat} (I : Inv X pins σ H s) (h1 : -(2 ^ 62) ≤ lo) (h2 : lo < 2 ^ 62) (h3 : -(2 ^ 62) ≤ hi) (h4 : hi < 2 ^ 62)
    (q : R (Itr lo (hi - lo).toNat) H) : wpAny (model X.prog X.w) X.A (pyIter (.ref s.heap.objs.size)) (PIE X pins σ tg R) E { s with heap := s.heap.push { cls := .type "range", data := .fields #[.int lo t, .int hi u, .int 1 v] }, toks := tk } := by
  refine wpAny_pyIter_range (IsRange.new ..) (small_one h1 h2 h3 h4) ?_
  have I1 : Inv X pins σ H { s with heap := s.heap.push { cls := .type "range", data := .fields #[.int lo t, .int hi u, .int 1 v] }, toks := tk } := I.kept fun b o e => Heap.get?_push_of_some _ e
  refine ⟨(s.heap.push { cls := .type "range", data := .fields #[.int lo t, .int hi u, .int 1 v] }).objs.size, [(s.heap.push { cls := .type "range", data := .fields #[.int lo t, .int hi u, .int 1 v] }).objs.size], _, _, H, rfl,
    I1.kept (t' := tk) fun b o e => Heap.get?_push_of_some _ e, turn_range _ lo (hi - lo).toNat, ?_, fun b hb => ?_, q⟩
  · have e1 : lo + ((0 : Nat) : Int) * 1 = lo := by simp
    have e2 : (((hi - lo).toNat : Nat) : Int) - ((0 : Nat) : Int) = Builtin.Range.rangeSize lo hi 1 := by rw [rangeSize_one]; split <;> omega
    show IsRangeIter _ _ (lo + ((0 : Nat) : Int) * 1) ((((hi - lo).toNat : Nat) : Int) - ((0 : Nat) : Int)) 1
    rw [e1, e2]
    exact Heap.get?_push_size _ rfl
  · have e : b = (s.heap.push { cls := .type "range", data := .fields #[.int lo t, .int hi u, .int 1 v] }).objs.size := by simpa using hb
    subst e
    exact I1.fpOk (Nat.le_refl _) (I1.hok.fresh (Nat.le_refl _))
def iRng1 (ta : TA) : TI := fun σ H R => ta σ H fun vs H1 => ∃ j : Int, vs = [.int j] ∧ -(2 ^ 62) ≤ j ∧ j < 2 ^ 62 ∧ R (Itr 0 j.toNat) H1
def iRng2 (ta : TA) : TI := fun σ H R => ta σ H fun vs H1 => ∃ i j : Int, vs = [.int i, .int j] ∧ (-(2 ^ 62) ≤ i ∧ i < 2 ^ 62 ∧ -(2 ^ 62) ≤ j ∧ j < 2 ^ 62) ∧ R (Itr i (j - i).toNat) H1
theorem pi_range1 {a : Expr} {ta : TA} {p pos : Pos} (hg : Gl X "range") (hm : X.mg "range" = none) (ha : PA X [a] ta) (hs : starEach [a] X.env = [(false, eval a X.env)] := by rfl) : PI X tg (.Call (.Name "range" p) [a] [] pos) (iRng1 ta) := by
  intro pins s σ H R I h
  refine Call_ (ld_blt I hg hm boot_range (PyProof.Rows.callWith_type1 (thn (ha pos pins s σ H _ I h) fun us s1 ⟨vs, H1, I1, r1, q1⟩ => ?_) hs rfl))
  obtain ⟨j, e, q1, q2, q⟩ := q1
  subst e
  cases r1 with
  | cons r rr =>
    cases rr
    obtain ⟨t, rfl⟩ := r
    exact call_range_1 (range_it I1 (by omega) (by omega) q1 q2 (by simpa using q))
theorem pi_range2 {a b : Expr} {ta : TA} {p pos : Pos} (hg : Gl X "range") (hm : X.mg "range" = none) (ha : PA X [a, b] ta) (hs : starEach [a, b] X.env = [(false, eval a X.env), (false, eval b X.env)] := by rfl) (hs2 : starEach [b] X.env = [(false, eval b X.env)] := by rfl) :
    PI X tg (.Call (.Name "range" p) [a, b] [] pos) (iRng2 ta) := by
  intro pins s σ H R I h
  refine Call_ (ld_blt I hg hm boot_range (PyProof.Rows.callWith_type1 (thn (ha pos pins s σ H _ I h) fun us s1 ⟨vs, H1, I1, r1, q1⟩ => ?_) (by rw [hs, hs2]) (by rw [hs2]; rfl)))
  obtain ⟨i, j, e, ⟨q1, q2, q3, q4⟩, q⟩ := q1
  subst e
  cases r1 with
  | cons r rr =>
    cases rr with
    | cons r' rr =>
      cases rr
      obtain ⟨t, rfl⟩ := r
      obtain ⟨t', rfl⟩ := r'
      exact call_range_2 (range_it I1 q1 q2 q3 q4 q)

/-! ### for -/
/-- W: the invariant by the turn and a measure; N: what the body is to reach -/
def tFor (wi : TI) (g : TG) (tb : TS) : TS := fun D σ H => wi σ H fun J H1 => ∃ W : Nat → Nat → St → Hp → Prop, (∃ m, W 0 m σ H1) ∧ ∀ i m σ H, W i m σ H →
  (J.stop i H ∧ D.nx σ H) ∨ (J.go i H ∧ ∃ N : St → Hp → Prop, (∀ σ' H', N σ' H' → ∃ m', m' < m ∧ W (i + 1) m' σ' H') ∧ ∀ x H', J.yld i H x H' → g x σ H' fun σ2 H2 => tb { D with nx := N, ct := N, bk := D.nx } σ2 H2)
/-- the records at fp as they stand -/
def pinsAt (fp : List Addr) (h : Heap) : List (Addr × Obj) := fp.filterMap fun b => (h.get? b).map fun o => (b, o)
theorem mem_pinsAt {fp : List Addr} {h : Heap} {b : Addr} {o : Obj} (hb : b ∈ fp) (e : h.get? b = some o) : (b, o) ∈ pinsAt fp h := List.mem_filterMap.mpr ⟨b, hb, by rw [e]; rfl⟩
theorem of_pinsAt {fp : List Addr} {h : Heap} {p : Addr × Obj} (hp : p ∈ pinsAt fp h) : p.1 ∈ fp ∧ h.get? p.1 = some p.2 := by
  obtain ⟨b, hb, e⟩ := List.mem_filterMap.mp hp
  cases q : h.get? b with
  | none => rw [q] at e; cases e
  | some o =>
    rw [q] at e
    have e' : (b, o) = p := Option.some.inj e
    subst e'
    exact ⟨hb, q⟩
theorem Inv.pinned {pins : List (Addr × Obj)} {σ : St} {H : Hp} {s : Shared} {fp : List Addr} (I : Inv X pins σ H s) (hf : ∀ b ∈ fp, FpOk X pins H b) (ho : ∀ b ∈ fp, ∃ o, s.heap.get? b = some o ∧ ∀ v, o.data ≠ .cell v) : Inv X (pins ++ pinsAt fp s.heap) σ H s :=
  I.pins_of fun p hp => (List.mem_append.mp hp).elim (fun z => I.pin p (List.mem_append_right _ z)) fun z => by
    obtain ⟨hb, e⟩ := of_pinsAt z
    obtain ⟨f0, f1, f2, _⟩ := hf p.1 hb
    obtain ⟨o, e', d⟩ := ho p.1 hb
    rw [e] at e'; cases e'
    exact ⟨e, f0, f1, f2, d⟩
theorem Inv.unpinned {pins pl : List (Addr × Obj)} {σ : St} {H : Hp} {s : Shared} (I : Inv X (pins ++ pl) σ H s) : Inv X pins σ H s := I.pins_of fun p hp => I.pin p (List.mem_append_right _ (List.mem_append_left _ hp))
theorem ps_for {iter : Expr} {body : List Stmt} {wi : TI} {g : TG} {tb : TS} {pos : Pos} (hp : PassesOwn (model X.prog X.w) X.A X.env X.xe) (hc : X.calm = true) (hi : PI X tg iter wi) (hg : PG X tg g) (hb : PSs X body tb)
    (hs : ∀ x, foldedSetIterable iter X.env x = pure x := by intro _; rfl) : PS X (.For tg iter body [] pos) (tFor wi g tb) := by
  intro pins s σ H D I h
  refine wpAny_For (thn (hi pins s σ H _ I h) fun v s1 h1 => thn h1 fun itv s2 h2 => ?_) hs
  obtain ⟨it, fp, tn, J, H2, e, I2, T, st2, f2, W, ⟨m0, w0⟩, turn⟩ := h2
  subst e
  -- what stays true of the iterator's objects through the loop
  have stat : ∀ {H' : Hp}, (∀ b ∈ fp, H' b = none) → ∀ b ∈ fp, FpOk X pins H' b := fun hn b hb => ⟨hn b hb, (f2 b hb).2⟩
  refine codeAny_forLoop_any (fun n s' => ∃ i σ' H', Inv X pins σ' H' s' ∧ tn i s'.heap ∧ (∀ b ∈ fp, H' b = none) ∧ W i n σ' H') ?_ m0 ⟨0, σ, H2, I2, st2, fun b hb => (f2 b hb).1, w0⟩
  rintro n s3 ⟨i, σ3, H3, I3, st3, fr3, w3⟩
  rcases turn i n σ3 H3 w3 with ⟨stop, qn⟩ | ⟨go, N, hN, step⟩
  · refine wpAny_passesOwn hp (thn (T.done X rfl rfl rfl hc i pins s3 σ3 H3 X.xe I3 (stat fr3) st3 stop) fun r s4 ⟨hr, I4⟩ => ?_)
    subst hr
    exact wpAny_execs_nil ⟨σ3, H3, I4, qn⟩
  · refine wpAny_passesOwn hp (thn (T.item X rfl rfl rfl hc i pins s3 σ3 H3 X.xe I3 (stat fr3) st3 go) fun r s4 ⟨u, hr, h4⟩ => ?_)
    subst hr
    refine wpAny_passesOwn hp (thn h4 fun _ s5 ⟨x, H5, I5, r5, y5, st5, fr5⟩ => ?_)
    have I5' := I5.pinned (stat fr5) (T.obj _ _ st5)
    refine wpAny_passesOwn hp (thn (hg _ s5 σ3 H5 x u _ I5' r5 (step x H5 y5)) fun _ s6 ⟨σ6, H6, I6, q6⟩ => ?_)
    refine wpAny_passesOwn hp (thn (hb _ s6 σ6 H6 _ I6 q6) fun f s7 q7 => ?_)
    have again : ∀ {σ7 : St} {H7 : Hp}, Inv X (pins ++ pinsAt fp s5.heap) σ7 H7 s7 → N σ7 H7 → ∃ m, m < n ∧ ∃ i σ' H', Inv X pins σ' H' s7 ∧ tn i s7.heap ∧ (∀ b ∈ fp, H' b = none) ∧ W i m σ' H' := fun {σ7 H7} I7 n7 => by
      obtain ⟨m', hm, w7⟩ := hN σ7 H7 n7
      refine ⟨m', hm, i + 1, σ7, H7, I7.unpinned, T.keep _ _ _ st5 fun b hb o e => (I7.pin (b, o) (List.mem_append_right _ (List.mem_append_right _ (mem_pinsAt hb e)))).1, fun b hb => ?_, w7⟩
      obtain ⟨o, e, d⟩ := T.obj _ _ st5 b hb
      exact (I7.pin (b, o) (List.mem_append_right _ (List.mem_append_right _ (mem_pinsAt hb e)))).2.1
    cases f with
    | next => obtain ⟨σ7, H7, I7, n7⟩ := q7; exact again I7 n7
    | cont => obtain ⟨σ7, H7, I7, n7⟩ := q7; exact again I7 n7
    | brk => obtain ⟨σ7, H7, I7, q7⟩ := q7; exact ⟨σ7, H7, I7.unpinned, q7⟩
    | ret v => obtain ⟨x7, σ7, H7, I7, r7, q7⟩ := q7; exact ⟨x7, σ7, H7, I7.unpinned, r7, q7⟩
end

/-! ### the forms one uses -/
/-- over a list that the body leaves as it is -/
theorem for_list {K : PySem.W.Frag} {a : Addr} {xs : List V} {g : TG} {tb : TS} {D : Ends} {σ : St} {H : Hp} (Pv : Nat → St → Hp → Prop) (h0 : Pv 0 σ H) (hl : ∀ i σ H, i ≤ xs.length → Pv i σ H → SqL K H a xs)
    (hs : ∀ i x σ H, xs[i]? = some x → Pv i σ H → g x σ H fun σ2 H2 => tb { D with nx := Pv (i + 1), ct := Pv (i + 1), bk := D.nx } σ2 H2) (hd : ∀ σ H, Pv xs.length σ H → D.nx σ H) :
    ∃ W : Nat → Nat → St → Hp → Prop, (∃ m, W 0 m σ H) ∧ ∀ i m σ H, W i m σ H →
      ((Itl K a).stop i H ∧ D.nx σ H) ∨ ((Itl K a).go i H ∧ ∃ N : St → Hp → Prop, (∀ σ' H', N σ' H' → ∃ m', m' < m ∧ W (i + 1) m' σ' H') ∧ ∀ x H', (Itl K a).yld i H x H' → g x σ H' fun σ2 H2 => tb { D with nx := N, ct := N, bk := D.nx } σ2 H2) := by
  refine ⟨fun i m σ H => m = xs.length - i ∧ i ≤ xs.length ∧ Pv i σ H, ⟨xs.length, by simp, Nat.zero_le _, h0⟩, ?_⟩
  rintro i m σ H ⟨rfl, hi, p⟩
  have q := hl i σ H hi p
  by_cases hlt : i < xs.length
  · refine .inr ⟨⟨xs, xs[i], q, by simp [hlt]⟩, Pv (i + 1), fun σ' H' p' => ⟨xs.length - (i + 1), by omega, rfl, hlt, p'⟩, fun x H' y => ?_⟩
    obtain ⟨e, y⟩ := y
    subst e
    exact hs i x σ _ (y xs q) p
  · have e : i = xs.length := by omega
    subst e
    exact .inl ⟨⟨xs, q, Nat.le_refl _⟩, hd σ H p⟩
theorem for_tup {K : PySem.W.Frag} {a : Addr} {xs : List V} {g : TG} {tb : TS} {D : Ends} {σ : St} {H : Hp} (Pv : Nat → St → Hp → Prop) (h0 : Pv 0 σ H) (hl : ∀ i σ H, i ≤ xs.length → Pv i σ H → SqT K H a xs)
    (hs : ∀ i x σ H, xs[i]? = some x → Pv i σ H → g x σ H fun σ2 H2 => tb { D with nx := Pv (i + 1), ct := Pv (i + 1), bk := D.nx } σ2 H2) (hd : ∀ σ H, Pv xs.length σ H → D.nx σ H) :
    ∃ W : Nat → Nat → St → Hp → Prop, (∃ m, W 0 m σ H) ∧ ∀ i m σ H, W i m σ H →
      ((Itt K a).stop i H ∧ D.nx σ H) ∨ ((Itt K a).go i H ∧ ∃ N : St → Hp → Prop, (∀ σ' H', N σ' H' → ∃ m', m' < m ∧ W (i + 1) m' σ' H') ∧ ∀ x H', (Itt K a).yld i H x H' → g x σ H' fun σ2 H2 => tb { D with nx := N, ct := N, bk := D.nx } σ2 H2) := by
  refine ⟨fun i m σ H => m = xs.length - i ∧ i ≤ xs.length ∧ Pv i σ H, ⟨xs.length, by simp, Nat.zero_le _, h0⟩, ?_⟩
  rintro i m σ H ⟨rfl, hi, p⟩
  have q := hl i σ H hi p
  by_cases hlt : i < xs.length
  · refine .inr ⟨⟨xs, xs[i], q, by simp [hlt]⟩, Pv (i + 1), fun σ' H' p' => ⟨xs.length - (i + 1), by omega, rfl, hlt, p'⟩, fun x H' y => ?_⟩
    obtain ⟨e, y⟩ := y
    subst e
    exact hs i x σ _ (y xs q) p
  · have e : i = xs.length := by omega
    subst e
    exact .inl ⟨⟨xs, q, Nat.le_refl _⟩, hd σ H p⟩
theorem for_range {lo : Int} {n : Nat} {g : TG} {tb : TS} {D : Ends} {σ : St} {H : Hp} (Pv : Nat → St → Hp → Prop) (h0 : Pv 0 σ H)
    (hs : ∀ i σ H, i < n → Pv i σ H → g (.int (lo + i)) σ H fun σ2 H2 => tb { D with nx := Pv (i + 1), ct := Pv (i + 1), bk := D.nx } σ2 H2) (hd : ∀ σ H, Pv n σ H → D.nx σ H) :
    ∃ W : Nat → Nat → St → Hp → Prop, (∃ m, W 0 m σ H) ∧ ∀ i m σ H, W i m σ H →
      ((Itr lo n).stop i H ∧ D.nx σ H) ∨ ((Itr lo n).go i H ∧ ∃ N : St → Hp → Prop, (∀ σ' H', N σ' H' → ∃ m', m' < m ∧ W (i + 1) m' σ' H') ∧ ∀ x H', (Itr lo n).yld i H x H' → g x σ H' fun σ2 H2 => tb { D with nx := N, ct := N, bk := D.nx } σ2 H2) := by
  refine ⟨fun i m σ H => m = n - i ∧ i ≤ n ∧ Pv i σ H, ⟨n, by simp, Nat.zero_le _, h0⟩, ?_⟩
  rintro i m σ H ⟨rfl, hi, p⟩
  by_cases hlt : i < n
  · refine .inr ⟨hlt, Pv (i + 1), fun σ' H' p' => ⟨n - (i + 1), by omega, rfl, hlt, p'⟩, fun x H' y => ?_⟩
    obtain ⟨e, y⟩ := y
    subst e y
    exact hs i σ _ hlt p
  · have e : i = n := by omega
    subst e
    exact .inl ⟨Nat.le_refl _, hd σ H p⟩
/-- while, by a word and a measure of the state -/
theorem while_by {c : TT} {tb : TS} {D : Ends} {σ : St} {H : Hp} (Pv : St → Hp → Prop) (μ : St → Hp → Nat) (h0 : Pv σ H)
    (hs : ∀ σ H, Pv σ H → c σ H fun b H1 => if b = true then tb { D with nx := fun σ' H' => Pv σ' H' ∧ μ σ' H' < μ σ H, ct := fun σ' H' => Pv σ' H' ∧ μ σ' H' < μ σ H, bk := D.nx } σ H1 else D.nx σ H1)
    (mono : ∀ σ H Q Q', (∀ b H1, Q b H1 → Q' b H1) → c σ H Q → c σ H Q') : tWhile c tb D σ H := by
  refine ⟨fun m σ H => m = μ σ H ∧ Pv σ H, ⟨_, rfl, h0⟩, ?_⟩
  rintro m σ H ⟨rfl, p⟩
  refine mono σ H _ _ (fun b H1 q => ?_) (hs σ H p)
  cases b with
  | true => exact ⟨_, fun σ' H' ⟨p', l⟩ => ⟨_, l, rfl, p'⟩, q⟩
  | false => exact q
end L2

namespace L2
open PySem PySem.Spec PyProof.Rows

abbrev R2 := V → V → Hp → VK → Prop
/-- a two-place operation on values: f is binaryOp op, inplaceOp op or compareOp op -/
def OpR (X : Cx) (f : Value → Value → Sem Value) (r : R2) : Prop :=
  ∀ (pins : List (Addr × Obj)) (s : Shared) (σ : St) (H : Hp) (x y : V) (v u : Value) (Q : VK), Inv X pins σ H s → RelV x v → RelV y u → r x y H Q →
    wpAny (model X.prog X.w) X.A (f v u) (EP X pins σ Q) X.xe s
/-- a one-place operation -/
def UnR (X : Cx) (f : Value → Sem Value) (r : V → Hp → VK → Prop) : Prop :=
  ∀ (pins : List (Addr × Obj)) (s : Shared) (σ : St) (H : Hp) (x : V) (v : Value) (Q : VK), Inv X pins σ H s → RelV x v → r x H Q →
    wpAny (model X.prog X.w) X.A (f v) (EP X pins σ Q) X.xe s
/-- a call of a value that is known (a builtin, a type) with values -/
def CallR (X : Cx) (f : Value) (r : List V → Hp → VK → Prop) : Prop :=
  ∀ (pins : List (Addr × Obj)) (s : Shared) (σ : St) (H : Hp) (xs : List V) (us : List Value) (Q : VK), Inv X pins σ H s → Vals xs us → r xs H Q →
    wpAny (model X.prog X.w) X.A (call f us) (EP X pins σ Q) X.xe s
/-- a value's truth -/
def TruR (X : Cx) (r : V → Hp → (Bool → Hp → Prop) → Prop) : Prop :=
  ∀ (pins : List (Addr × Obj)) (s : Shared) (σ : St) (H : Hp) (x : V) (v : Value) (Q : Bool → Hp → Prop), Inv X pins σ H s → RelV x v → r x H Q →
    wpAny (model X.prog X.w) X.A (truthy v) (TP X pins σ Q) X.xe s

def tOp (r : R2) (ta tb : TE) : TE := fun σ H Q => ta σ H fun x H1 => tb σ H1 fun y H2 => r x y H2 Q
def tUn (r : V → Hp → VK → Prop) (ta : TE) : TE := fun σ H Q => ta σ H fun x H1 => r x H1 Q
/-- ints in, under C, and a value out -/
def rI (C : Int → Int → Prop) (g : Int → Int → V) : R2 := fun x y H Q => ∃ i j, x = .int i ∧ y = .int j ∧ C i j ∧ Q (g i j) H
def rI0 (g : Int → Int → V) : R2 := fun x y H Q => ∃ i j, x = .int i ∧ y = .int j ∧ Q (g i j) H
def rU (g : Int → V) : V → Hp → VK → Prop := fun x H Q => ∃ i, x = .int i ∧ Q (g i) H

section
variable {X : Cx} {a b c : Expr} {ta tb tc : TE} {pos : Pos}

theorem binT (ha : PE X a ta) (hb : PE X b tb) {pins : List (Addr × Obj)} {s : Shared} {σ : St} {H : Hp} {R : V → V → Hp → Prop} (I : Inv X pins σ H s)
    (h : ta σ H fun x H1 => tb σ H1 fun y H2 => R x y H2) {Q : Value → Shared → Prop} {f : Value → Value → Sem Value}
    (hf : ∀ v u s2 x y H2, Inv X pins σ H2 s2 → RelV x v → RelV y u → R x y H2 → wpAny (model X.prog X.w) X.A (f v u) Q X.xe s2) :
    wpAny (model X.prog X.w) X.A (eval a X.env) (fun v s₁ => wpAny (model X.prog X.w) X.A (eval b X.env) (fun u s₂ => wpAny (model X.prog X.w) X.A (f v u) Q X.xe s₂) X.xe s₁) X.xe s := by
  refine thn (ha pins s σ H _ I h) fun v s1 ⟨x, H1, I1, r1, q1⟩ => ?_
  refine thn (hb pins s1 σ H1 _ I1 q1) fun u s2 ⟨y, H2, I2, r2, q2⟩ => ?_
  exact hf v u s2 x y H2 I2 r1 r2 q2

theorem pe_op {op : Operator} {r : R2} (ho : OpR X (binaryOp op) r) (ha : PE X a ta) (hb : PE X b tb) : PE X (.BinOp a op b pos) (tOp r ta tb) := by
  intro pins s σ H Q I h
  exact wpAny_BinOp (binT ha hb I h fun v u s2 x y H2 I2 rx ry q => ho pins s2 σ H2 x y v u Q I2 rx ry q)
theorem pe_un {op : UnaryOp} {r : V → Hp → VK → Prop} (ho : UnR X (unaryOp op) r) (ha : PE X a ta) : PE X (.UnaryOp op a pos) (tUn r ta) := by
  intro pins s σ H Q I h
  exact UnaryOp_ (thn (ha pins s σ H _ I h) fun v s1 ⟨x, H1, I1, r1, q1⟩ => ho pins s1 σ H1 x v Q I1 r1 q1)
/-! ### ints -/
theorem opI {f : Value → Value → Sem Value} {C : Int → Int → Prop} {g : Int → Int → Int}
    (rule : ∀ (i j : Int) (t u : Tok) (s : Shared) (Q : Value → Shared → Prop) (E : Value → Shared → Prop), C i j → Q (.int (g i j) s.toks) { s with toks := s.toks + 1 } → wpAny (model X.prog X.w) X.A (f (.int i t) (.int j u)) Q E s) :
    OpR X f (rI C fun i j => .int (g i j)) := by
  intro pins s σ H x y v u Q I rx ry h
  obtain ⟨i, j, rfl, rfl, hc, q⟩ := h
  obtain ⟨t, rfl⟩ := rx
  obtain ⟨t', rfl⟩ := ry
  exact rule i j t t' s _ _ hc ⟨.int (g i j), H, I.tok _, ⟨_, rfl⟩, q⟩
theorem opI0 {f : Value → Value → Sem Value} {g : Int → Int → Int}
    (rule : ∀ (i j : Int) (t u : Tok) (s : Shared) (Q : Value → Shared → Prop) (E : Value → Shared → Prop), Q (.int (g i j) s.toks) { s with toks := s.toks + 1 } → wpAny (model X.prog X.w) X.A (f (.int i t) (.int j u)) Q E s) :
    OpR X f (rI0 fun i j => .int (g i j)) := by
  intro pins s σ H x y v u Q I rx ry h
  obtain ⟨i, j, rfl, rfl, q⟩ := h
  obtain ⟨t, rfl⟩ := rx
  obtain ⟨t', rfl⟩ := ry
  exact rule i j t t' s _ _ ⟨.int (g i j), H, I.tok _, ⟨_, rfl⟩, q⟩
theorem opB0 {f : Value → Value → Sem Value} {g : Int → Int → Bool}
    (rule : ∀ (i j : Int) (t u : Tok) (s : Shared) (Q : Value → Shared → Prop) (E : Value → Shared → Prop), Q (.bool (g i j)) s → wpAny (model X.prog X.w) X.A (f (.int i t) (.int j u)) Q E s) :
    OpR X f (rI0 fun i j => .bl (g i j)) := by
  intro pins s σ H x y v u Q I rx ry h
  obtain ⟨i, j, rfl, rfl, q⟩ := h
  obtain ⟨t, rfl⟩ := rx
  obtain ⟨t', rfl⟩ := ry
  exact rule i j t t' s _ _ ⟨.bl (g i j), H, I, rfl, q⟩

def CDiv (i j : Int) : Prop := 0 < j ∧ j < 1073741824
def CDivN (i j : Int) : Prop := j ≠ 0 ∧ j.natAbs < 1073741824
def CPow (i j : Int) : Prop := 0 ≤ j ∧ j ≤ 1000000 ∧ i.natAbs < 2 ^ 64
def CMul (i j : Int) : Prop := (-(2 ^ 64) < i ∧ i < 2 ^ 64) ∨ (-(2 ^ 64) < j ∧ j < 2 ^ 64)
theorem CMul.ok {i j : Int} (h : CMul i j) : IntMulOk i j := by
  rcases h with ⟨h1, h2⟩ | ⟨h1, h2⟩
  · exact .of_left (intBits_le_64 h1 h2)
  · exact .of_right (intBits_le_64 h1 h2)
theorem op_add : OpR X (binaryOp .Add) (rI0 fun i j => .int (i + j)) := opI0 fun _ _ _ _ _ _ _ q => add_int q
theorem op_sub : OpR X (binaryOp .Sub) (rI0 fun i j => .int (i - j)) := opI0 fun _ _ _ _ _ _ _ q => sub_int q
theorem op_mul : OpR X (binaryOp .Mult) (rI CMul fun i j => .int (i * j)) := opI fun _ _ _ _ _ _ _ hc q => mul_int q hc.ok
/-- // by a positive divisor -/
theorem op_fdiv : OpR X (binaryOp .FloorDiv) (rI CDiv fun i j => .int (i / j)) := opI fun i j _ _ _ _ _ hc q => by
  have h1 : (0 : Int) < j := hc.1
  have h2 : j < 1073741824 := hc.2
  exact floordiv_int (by omega) (by rw [Int.fdiv_eq_ediv_of_nonneg i (by omega)]; exact q) (.inl (PyProof.noPylong_small (by omega)))
/-- % by a positive divisor of any size -/
theorem op_mod : OpR X (binaryOp .Mod) (rI (fun _ j => 0 < j) fun i j => .int (i % j)) := opI fun i j _ _ _ _ _ hc q => by
  have h1 : (0 : Int) < j := hc
  exact mod_int' (by omega) (by rw [Int.fmod_eq_emod_of_nonneg i (by omega)]; exact q)
theorem op_pow : OpR X (binaryOp .Pow) (rI CPow fun i j => .int (i ^ j.toNat)) := opI fun _ _ _ _ _ _ _ hc q => pow_int_small hc.1 hc.2.1 hc.2.2 q
theorem op_xor : OpR X (binaryOp .BitXor) (rI0 fun i j => .int (Builtin.bitXor i j)) := opI0 fun _ _ _ _ _ _ _ q => xor_int q

theorem unI {f : Value → Sem Value} {g : Int → Int}
    (rule : ∀ (i : Int) (t : Tok) (s : Shared) (Q : Value → Shared → Prop) (E : Value → Shared → Prop), Q (.int (g i) s.toks) { s with toks := s.toks + 1 } → wpAny (model X.prog X.w) X.A (f (.int i t)) Q E s) :
    UnR X f (rU fun i => .int (g i)) := by
  intro pins s σ H x v Q I rx h
  obtain ⟨i, rfl, q⟩ := h
  obtain ⟨t, rfl⟩ := rx
  exact rule i t s _ _ ⟨.int (g i), H, I.tok _, ⟨_, rfl⟩, q⟩
theorem un_neg : UnR X (unaryOp .USub) (rU fun i => .int (-i)) := unI fun _ _ _ _ _ q => neg_int q
/-! ### bools among ints: n += (a < b) -/
end

/-! ### comparisons -/
/-- the scalars that == tells apart as data does -/
def scal : V → V → Bool
  | .non, .non => true | .non, .int _ => true | .int _, .non => true | .non, .bl _ => true | .bl _, .non => true | .non, .str _ => true | .str _, .non => true
  | .int _, .int _ => true | .bl _, .bl _ => true | .str _, .str _ => true | .byt _, .byt _ => true
  | .int _, .str _ => true | .str _, .int _ => true | .bl _, .str _ => true | .str _, .bl _ => true
  | _, _ => false
def rEq : R2 := fun x y H Q => scal x y = true ∧ Q (.bl (decide (x = y))) H
def rNe : R2 := fun x y H Q => scal x y = true ∧ Q (.bl (!decide (x = y))) H

theorem dec_int {i j : Int} : decide (V.int i = V.int j) = (i == j) := by
  rw [Bool.eq_iff_iff]
  simp
theorem dec_bl {i j : Bool} : decide (V.bl i = V.bl j) = (i == j) := by
  rw [Bool.eq_iff_iff]
  simp
theorem dec_str {i j : Str} : decide (V.str i = V.str j) = (i == j) := by
  rw [Bool.eq_iff_iff]
  simp
theorem dec_byt {i j : Array UInt8} : decide (V.byt i = V.byt j) = (i.toList == j.toList) := by
  rw [Bool.eq_iff_iff]
  cases i
  cases j
  simp

section
variable {X : Cx} {a b c : Expr} {ta tb tc : TE} {pos : Pos}
theorem fin_bl {pins : List (Addr × Obj)} {σ : St} {H : Hp} {s : Shared} {Q : VK} {k k' : Bool} (I : Inv X pins σ H s) (q : Q (.bl k) H) (e : k = k') : EP X pins σ Q (.bool k') s := by
  subst e
  exact ⟨.bl k, H, I, rfl, q⟩
theorem op_eq : OpR X (compareOp .Eq) rEq := by
  intro pins s σ H x y v u Q I rx ry h
  obtain ⟨hs, q⟩ := h
  cases x with
  | non =>
    cases rx
    cases y with
    | non => cases ry; exact PySem.EqNone.eq_none_none (fin_bl I q (by simp))
    | bl j => cases ry; exact PySem.EqNone.eq_none_bool (fin_bl I q (by simp))
    | int j => obtain ⟨t', rfl⟩ := ry; exact PySem.EqNone.eq_none_int (fin_bl I q (by simp))
    | str j => obtain ⟨t', rfl⟩ := ry; exact PySem.EqNone.eq_none_str (fin_bl I q (by simp))
    | _ => exact absurd (show false = true from hs) Bool.false_ne_true
  | bl i =>
    cases rx
    cases y with
    | non => cases ry; exact PySem.EqNone.eq_bool_none (fin_bl I q (by simp))
    | bl j => cases ry; exact eq_bool (fin_bl I q dec_bl)
    | str j => obtain ⟨t', rfl⟩ := ry; exact PySem.EqMixed.eq_bool_str (fin_bl I q (by simp))
    | _ => exact absurd (show false = true from hs) Bool.false_ne_true
  | int i =>
    obtain ⟨t, rfl⟩ := rx
    cases y with
    | non => cases ry; exact PySem.EqNone.eq_int_none (fin_bl I q (by simp))
    | int j => obtain ⟨t', rfl⟩ := ry; exact eq_int (fin_bl I q dec_int)
    | str j => obtain ⟨t', rfl⟩ := ry; exact PySem.EqMixed.eq_int_str (fin_bl I q (by simp))
    | _ => exact absurd (show false = true from hs) Bool.false_ne_true
  | str i =>
    obtain ⟨t, rfl⟩ := rx
    cases y with
    | non => cases ry; exact PySem.EqNone.eq_str_none (fin_bl I q (by simp))
    | bl j => cases ry; exact PySem.EqMixed.eq_str_bool (fin_bl I q (by simp))
    | int j => obtain ⟨t', rfl⟩ := ry; exact PySem.EqMixed.eq_str_int (fin_bl I q (by simp))
    | str j => obtain ⟨t', rfl⟩ := ry; exact eq_str (fin_bl I q dec_str)
    | _ => exact absurd (show false = true from hs) Bool.false_ne_true
  | byt i =>
    obtain ⟨t, rfl⟩ := rx
    cases y with
    | byt j => obtain ⟨t', rfl⟩ := ry; exact PySem.W.eq_bytes (fin_bl I q dec_byt)
    | _ => exact absurd (show false = true from hs) Bool.false_ne_true
  | _ => cases y <;> exact absurd (show false = true from hs) Bool.false_ne_true
theorem op_ne : OpR X (compareOp .NotEq) rNe := by
  intro pins s σ H x y v u Q I rx ry h
  obtain ⟨hs, q⟩ := h
  cases x with
  | non =>
    cases rx
    cases y with
    | non => cases ry; exact PySem.EqNone.ne_none_none (fin_bl I q (by simp))
    | bl j => cases ry; exact PySem.EqNone.ne_none_bool (fin_bl I q (by simp))
    | int j => obtain ⟨t', rfl⟩ := ry; exact PySem.EqNone.ne_none_int (fin_bl I q (by simp))
    | str j => obtain ⟨t', rfl⟩ := ry; exact PySem.EqNone.ne_none_str (fin_bl I q (by simp))
    | _ => exact absurd (show false = true from hs) Bool.false_ne_true
  | bl i =>
    cases rx
    cases y with
    | non => cases ry; exact PySem.EqNone.ne_bool_none (fin_bl I q (by simp))
    | bl j => cases ry; exact ne_bool (fin_bl I q (congrArg not dec_bl))
    | str j => obtain ⟨t', rfl⟩ := ry; exact PySem.EqMixed.ne_bool_str (fin_bl I q (by simp))
    | _ => exact absurd (show false = true from hs) Bool.false_ne_true
  | int i =>
    obtain ⟨t, rfl⟩ := rx
    cases y with
    | non => cases ry; exact PySem.EqNone.ne_int_none (fin_bl I q (by simp))
    | int j => obtain ⟨t', rfl⟩ := ry; exact ne_int (fin_bl I q (congrArg not dec_int))
    | str j => obtain ⟨t', rfl⟩ := ry; exact PySem.EqMixed.ne_int_str (fin_bl I q (by simp))
    | _ => exact absurd (show false = true from hs) Bool.false_ne_true
  | str i =>
    obtain ⟨t, rfl⟩ := rx
    cases y with
    | non => cases ry; exact PySem.EqNone.ne_str_none (fin_bl I q (by simp))
    | bl j => cases ry; exact PySem.EqMixed.ne_str_bool (fin_bl I q (by simp))
    | int j => obtain ⟨t', rfl⟩ := ry; exact PySem.EqMixed.ne_str_int (fin_bl I q (by simp))
    | str j => obtain ⟨t', rfl⟩ := ry; exact ne_str (fin_bl I q (congrArg not dec_str))
    | _ => exact absurd (show false = true from hs) Bool.false_ne_true
  | byt i =>
    obtain ⟨t, rfl⟩ := rx
    cases y with
    | byt j => obtain ⟨t', rfl⟩ := ry; exact PySem.W.ne_bytes (fin_bl I q (congrArg not dec_byt))
    | _ => exact absurd (show false = true from hs) Bool.false_ne_true
  | _ => cases y <;> exact absurd (show false = true from hs) Bool.false_ne_true

theorem op_lt : OpR X (compareOp .Lt) (rI0 fun i j => .bl (decide (i < j))) := opB0 fun _ _ _ _ _ _ _ q => lt_int q
theorem op_gt : OpR X (compareOp .Gt) (rI0 fun i j => .bl (decide (j < i))) := opB0 fun _ _ _ _ _ _ _ q => gt_int q
theorem op_notN : OpR X (compareOp .IsNot) (fun x y H Q => y = .non ∧ Q (.bl (!decide (x = .non))) H) := by
  intro pins s σ H x y v u Q I rx ry h
  obtain ⟨rfl, q⟩ := h
  cases ry
  refine isnot_none_gen (fin_bl I q ?_)
  cases x <;> first
    | (cases rx; rfl)
    | (obtain ⟨t, rfl⟩ := rx; rfl)

/-- is, is not of two objects that are tracked lists or instances -/
def isObj : HO → Bool
  | .lst _ => true
  | .ins _ _ _ => true
  | _ => false
/-- two rules for one operation: by cases -/
theorem OpR.or {f : Value → Value → Sem Value} {r r' : R2} (h : OpR X f r) (h' : OpR X f r') : OpR X f (fun x y H Q => r x y H Q ∨ r' x y H Q) := by
  intro pins s σ H x y v u Q I rx ry q
  rcases q with q | q
  · exact h pins s σ H x y v u Q I rx ry q
  · exact h' pins s σ H x y v u Q I rx ry q

theorem nomark (b : Expr) {op : CmpOp} (h : op ≠ .In := by decide) (h2 : op ≠ .NotIn := by decide) : behindInMarks op b = false := by
  have e1 : (op == CmpOp.In) = false := by cases op <;> first | rfl | exact absurd rfl h
  have e2 : (op == CmpOp.NotIn) = false := by cases op <;> first | rfl | exact absurd rfl h2
  cases b <;> simp [behindInMarks, e1, e2]
/-- a comparison as a value; hm: nomark b, or (for in, not in) by with_unfolding_all rfl -/
theorem pe_cmpR {op : CmpOp} {r : R2} (ho : OpR X (compareOp op) r) (ha : PE X a ta) (hb : PE X b tb) (hm : behindInMarks op b = false) : PE X (.Compare a [op] [b] pos) (tOp r ta tb) := by
  intro pins s σ H Q I h
  exact wpAny_Compare1 (binT ha hb I h fun v u s2 x y H2 I2 rx ry q => ho pins s2 σ H2 x y v u Q I2 rx ry q) hm
/-- a reading of a value as a test -/
def tTest (t : TE) : TT := fun σ H Q => t σ H fun x H' => ∃ k, x = .bl k ∧ Q k H'
theorem pt_cmpR {op : CmpOp} {r : R2} (ho : OpR X (compareOp op) r) (ha : PE X a ta) (hb : PE X b tb) (hm : behindInMarks op b = false) : PT X (.Compare a [op] [b] pos) (tTest (tOp r ta tb)) := by
  intro pins s σ H Q I h
  refine wpAny_isTrue_Compare1 (thn (ha pins s σ H _ I h) fun v s1 ⟨x, H1, I1, r1, q1⟩ => thn (hb pins s1 σ H1 _ I1 q1) fun u s2 ⟨y, H2, I2, r2, q2⟩ =>
    thn (ho pins s2 σ H2 x y v u _ I2 r1 r2 q2) fun c s3 ⟨z, H3, I3, r3, k, e, q3⟩ => ?_) hm
  subst e
  cases r3
  exact wpAny_truthy_bool ⟨H3, I3, q3⟩
/-- a op1 b op2 c -/
def tChain (r r' : R2) (ta tb tc : TE) : TE := fun σ H Q => ta σ H fun x H1 => tb σ H1 fun y H2 => r x y H2 fun z H3 => ∃ k, z = .bl k ∧
  (if k = true then tc σ H3 fun w' H4 => r' y w' H4 Q else Q (.bl false) H3)
/-! ### truth -/
/-- a value's truth by the abstract heap -/
def TruV (K : PySem.W.Frag) (x : V) (H : Hp) (k : Bool) : Prop :=
  match x with
  | .non => k = false
  | .bl b => k = b
  | .int i => k = (i != 0)
  | .str y => y.length ≤ sizeLine ∧ k = ((y.length : Int) != 0)
  | .byt y => y.size ≤ sizeLine ∧ k = ((y.size : Int) != 0)
  | .ref p => (∃ xs, SqL K H p xs ∧ k = !xs.isEmpty) ∨ (∃ xs, SqT K H p xs ∧ k = !xs.isEmpty) ∨ ∃ kvs, H p = some (.dK kvs) ∧ k = !kvs.isEmpty
  | _ => False
theorem isEmpty_kv {κ : Type} {kvs : List (κ × V)} {vs : List (κ × Value)} (r : KV kvs vs) : (!vs.isEmpty) = !kvs.isEmpty := by
  cases r <;> rfl
theorem isEmpty_of {xs : List V} {its : List Value} (r : Vals xs its) : (!its.toArray.isEmpty) = !xs.isEmpty := by
  cases r <;> simp
theorem line63 : (sizeLine : Nat) < 2 ^ 63 := by rw [sizeLine_eq]; decide
theorem tru_ok : TruR X (fun x H Q => ∃ k, TruV X.K x H k ∧ Q k H) := by
  intro pins s σ H x v Q I rx h
  obtain ⟨k, e, q⟩ := h
  have hl := line63
  have hs : sizeLine = 16777216 := sizeLine_eq
  cases x with
  | non =>
    cases rx
    have e' : k = false := e
    subst e'
    exact truthy_none ⟨H, I, q⟩
  | bl b =>
    cases rx
    have e' : k = b := e
    subst e'
    exact wpAny_truthy_bool ⟨H, I, q⟩
  | int i =>
    obtain ⟨t, rfl⟩ := rx
    have e' : k = (i != 0) := e
    subst e'
    exact PySem.P.truthy_int ⟨H, I, q⟩
  | str y =>
    obtain ⟨t, rfl⟩ := rx
    obtain ⟨hy, e'⟩ : y.length ≤ sizeLine ∧ k = ((y.length : Int) != 0) := e
    subst e'
    exact PySem.P.truthy_str (by omega) ⟨H, I.tok _, q⟩
  | byt y =>
    obtain ⟨t, rfl⟩ := rx
    obtain ⟨hy, e'⟩ : y.size ≤ sizeLine ∧ k = ((y.size : Int) != 0) := e
    subst e'
    exact PySem.W.truthy_bytes (by omega) ⟨H, I.tok _, q⟩
  | ref p =>
    cases rx
    have e' : (∃ xs, SqL X.K H p xs ∧ k = !xs.isEmpty) ∨ (∃ xs, SqT X.K H p xs ∧ k = !xs.isEmpty) ∨ ∃ kvs, H p = some (.dK kvs) ∧ k = !kvs.isEmpty := e
    rcases e' with ⟨xs, hx, e'⟩ | ⟨xs, hx, e'⟩ | ⟨kvs, hx, e'⟩
    · subst e'
      obtain ⟨its, r, pl, hz⟩ := I.list hx
      have hlen := r.length
      exact wpAny_truthy_list pl.isList (by simp only [List.size_toArray]; omega) ⟨H, I.tok _, by rw [isEmpty_of r]; exact q⟩
    · subst e'
      obtain ⟨its, r, pl, hz⟩ := I.tuple hx
      have hlen := r.length
      exact truthy_tuple pl (by simp only [List.size_toArray]; omega) ⟨H, I.tok _, by rw [isEmpty_of r]; exact q⟩
    · subst e'
      obtain ⟨hz, hS, vs, r, m⟩ : kvs.length ≤ sizeLine ∧ (p == sysModules) = false ∧ ∃ vs, KV kvs vs ∧ s.heap.DictOf (mixKind X.prog X.w) p vs := I.hok p _ hx
      have hlen : kvs.length = vs.length := Paired.length r
      exact wpAny_truthy_dict hS m (by omega) ⟨H, I.tok _, by rw [isEmpty_kv r]; exact q⟩
  | _ => exact (show False from e).elim
/-- any expression whose test is its value's truth (a name, a call, a subscript, a field ..: he by fun _ => rfl) -/
theorem pt_truth (ha : PE X a ta) (he : ∀ whole, isTrue a X.env whole = (do let v ← whole; standAt a.pos; holding [v] (truthy v))) :
    PT X a (fun σ H Q => ta σ H fun x H' => ∃ k, TruV X.K x H' k ∧ Q k H') := by
  intro pins s σ H Q I h
  exact isTrue_plain (thn (ha pins s σ H _ I h) fun v s1 ⟨x, H1, I1, r1, q1⟩ => tru_ok pins s1 σ H1 x v Q I1 r1 q1) (he _)

/-! ### strs and bytes -/
def PlainIxT (b : Expr) : Prop := ∀ o i, subscripted b false o i = operate [o, i] (getItem o i)
/-! ### scalar builtins, by CallR -/
theorem vals1 {x : V} {us : List Value} (r : Vals [x] us) : ∃ u, us = [u] ∧ RelV x u := by
  cases r with
  | cons r1 r2 => cases r2; exact ⟨_, rfl, r1⟩
theorem vals2 {x y : V} {us : List Value} (r : Vals [x, y] us) : ∃ u w', us = [u, w'] ∧ RelV x u ∧ RelV y w' := by
  cases r with
  | cons r1 r2 =>
    cases r2 with
    | cons r3 r4 => cases r4; exact ⟨_, _, rfl, r1, r3⟩
theorem call_abs : CallR X (.builtin "abs") (fun xs H Q => ∃ i, xs = [.int i] ∧ Q (.int (if i < 0 then -i else i)) H) := by
  intro pins s σ H xs us Q I r h
  obtain ⟨i, rfl, q⟩ := h
  obtain ⟨u, rfl, t, rfl⟩ := vals1 r
  exact call_abs_int fun u tk => ⟨.int (if i < 0 then -i else i), H, I.tok _, ⟨_, rfl⟩, q⟩
theorem call_min2 (hc : X.calm = true) : CallR X (.builtin "min") (fun xs H Q => ∃ i j, xs = [.int i, .int j] ∧ Q (.int (if j < i then j else i)) H) := by
  intro pins s σ H xs us Q I r h
  obtain ⟨i, j, rfl, q⟩ := h
  obtain ⟨u, w', rfl, ⟨t, rfl⟩, ⟨t', rfl⟩⟩ := vals2 r
  refine min_two_ints (I.ok.hd hc) fun h' tk k => ⟨_, H, I.kept k, ?_, q⟩
  by_cases hj : j < i
  · rw [if_pos hj, if_pos hj]; exact ⟨_, rfl⟩
  · rw [if_neg hj, if_neg hj]; exact ⟨_, rfl⟩
/-- len of a str, a bytes, a list, a tuple -/
def LenV (K : PySem.W.Frag) (x : V) (H : Hp) (n : Nat) : Prop :=
  match x with
  | .str y => y.length ≤ sizeLine ∧ n = y.length
  | .byt y => y.size ≤ sizeLine ∧ n = y.size
  | .ref p => (∃ xs, SqL K H p xs ∧ n = xs.length) ∨ ∃ xs, SqT K H p xs ∧ n = xs.length
  | _ => False
end
end L2

namespace L2
open PySem PySem.Spec PyProof.Rows

/-! ### an instance, its attributes a map -/
structure ObjM (h : Heap) (x dx C : Addr) (mA : Str → Option Value) : Prop where
  obj : h.get? x = some (PySem.W.instObj C dx)
  ns : h.Ns1 dx mA
  ne : dx ≠ x

theorem lookIn_ns {h : Heap} {dx : Addr} {mA : Str → Option Value} (n : h.Ns1 dx mA) : ∃ od, h.get? dx = some od ∧ ∀ name, PySem.W.lookIn name od = some (mA name) := by
  obtain ⟨o, es, ep, ho, hd, hk, _, hm⟩ := n
  refine ⟨o, ho, fun name => ?_⟩
  have e := hm name
  unfold nsFind findBy at e
  rw [← Array.find?_toList] at e
  unfold PySem.W.lookIn
  rw [hd]
  dsimp only
  split
  · rename_i y q
    rw [q] at e
    exact congrArg some e
  · rename_i q
    rw [q] at e
    have a : es.toList.any (·.refKey) = false := by
      rw [List.any_eq_false]
      intro y hy
      obtain ⟨z, t, hkey⟩ := hk y (Array.mem_toList_iff.mp hy)
      simp [DictEntry.refKey, hkey]
    have a' : ¬ es.toList.any (·.refKey) = true := by rw [a]; exact Bool.false_ne_true
    rw [if_neg a']
    exact congrArg some e

theorem ObjM.look {h : Heap} {x dx C : Addr} {mA : Str → Option Value} (I : ObjM h x dx C mA) : ∃ od, PySem.W.InstAt h x (PySem.W.instObj C dx) C (some od) ∧ ∀ name, PySem.W.lookIn name od = some (mA name) :=
  let ⟨od, ho, hl⟩ := lookIn_ns I.ns
  ⟨od, ⟨I.obj, rfl, rfl, ho⟩, hl⟩

section
variable {prog : Program} {w : World} {A : Around} {E : Value → Shared → Prop} {s : Shared} {K : PySem.W.Frag} {x dx C f : Addr} {mA : Str → Option Value} {name : Str} {v : Value}

end

/-! ### the attributes as a list of pairs -/
def putF (f : Str) (v : V) : List (Str × V) → List (Str × V)
  | [] => [(f, v)]
  | (g, x) :: r => if g = f then (g, v) :: r else (g, x) :: putF f v r
theorem RelO.none_of {o : Option Value} (r : RelO none o) : o = none := by
  cases o with
  | none => rfl
  | some u => exact (show False from r).elim
section
variable {P : Program} {w : World} {H H' : Hp} {h h' : Heap} {a C dx : Addr} {fs fs' : List (Str × V)}
theorem ins_get (hok : HOk P w H h) (e : H a = some (.ins C dx fs)) : ∃ mA, ObjM h a dx C mA ∧ (∀ f, RelO (fs.lookup f) (mA f)) ∧ PySem.Within mA (fs.map (·.1)) ∧ fs.length ≤ 1000 ∧ H dx = some (.own a) := by
  obtain ⟨d, z, ne, ob, mA, n, r, q⟩ := (show ObjOk P w H h a (.ins C dx fs) from hok a _ e)
  exact ⟨mA, ⟨ob, n, ne⟩, r, q, z, d⟩
end

/-! ### what of the text a class must have -/
structure Cls (K : PySem.W.Frag) (C : Addr) : Prop where
  pg : PySem.W.plainGet K C Str.empty = true
  hd : PySem.W.hasDictIn K C = true
  po : PySem.W.plainOver K C = true
  sa : PySem.W.findIn K (.ref C) "__setattr__" = some (some (.builtin "object.__setattr__"))
theorem Cls.get {K : PySem.W.Frag} {C : Addr} (c : Cls K C) (f : Str) : PySem.W.plainGet K C f = true := c.pg
/-- no class of it has the name -/
def NoAttr (K : PySem.W.Frag) (C : Addr) (f : Str) : Prop := PySem.W.findIn K (.ref C) f = some none
/-- a constant of the class -/
structure Con (K : PySem.W.Frag) (C : Addr) (f : Str) (v : V) (u : Value) : Prop where
  at_ : PySem.W.findIn K (.ref C) f = some (some u)
  rel : RelV v u
  get : PySem.W.specialIn K u "__get__" = some none
  cp : PySem.W.copiedNames.contains f = false
/-- a method: a plain def of the class or of one above it -/
structure Meth (K : PySem.W.Frag) (C : Addr) (m : Str) (f : Addr) : Prop where
  at_ : PySem.W.findIn K (.ref C) m = some (some (.ref f))
  fn : PySem.W.isFn K (.ref f) = true
  kp : PySem.W.keepIn K (.ref f) = true

section
variable {X : Cx} {pins : List (Addr × Obj)} {σ : St} {H : Hp} {s : Shared} {a C dx : Addr} {fs : List (Str × V)} {f : Str} {v : V} {A : Around} {E : Value → Shared → Prop}

/-- a new instance, tracked, without attributes -/
theorem Inv.made (I : Inv X pins σ H s) : Inv X pins σ (upd (upd H s.heap.objs.size (.own (s.heap.objs.size + 1))) (s.heap.objs.size + 1) (.ins C s.heap.objs.size []))
    { s with heap := (s.heap.push PySem.W.emptyDict).push (PySem.W.instObj C s.heap.objs.size) } := by
  have e1 : (s.heap.push PySem.W.emptyDict).get? s.heap.objs.size = some PySem.W.emptyDict := Heap.get?_push_size s.heap rfl
  have e2 : ((s.heap.push PySem.W.emptyDict).push (PySem.W.instObj C s.heap.objs.size)).get? (s.heap.objs.size + 1) = some (PySem.W.instObj C s.heap.objs.size) := by
    have := Heap.get?_push_size (s.heap.push PySem.W.emptyDict) (o := PySem.W.instObj C s.heap.objs.size) rfl
    rwa [Heap.size_push] at this
  have e3 : (s.heap.push PySem.W.emptyDict).Ns s.heap.objs.size (fun _ => none) := ⟨PySem.W.emptyDict, #[], _, e1, rfl, (fun e he => absurd he (by simp)), fun _ => rfl⟩
  have I1 := I.laid (a := s.heap.objs.size) (o := .own (s.heap.objs.size + 1)) (h' := s.heap.push PySem.W.emptyDict) (t' := s.toks) (fun b u q => Heap.get?_push_of_some _ q) (Nat.le_refl _) ⟨_, e1⟩
  refine I1.laid (a := s.heap.objs.size + 1) (o := .ins C s.heap.objs.size []) (t' := s.toks) (fun b u q => Heap.get?_push_of_some _ q) (Nat.le_of_eq (Heap.size_push _ _)) ?_
  have ne : s.heap.objs.size ≠ s.heap.objs.size + 1 := Nat.ne_of_lt (Nat.lt_succ_self _)
  refine ⟨by rw [upd_ne ne, upd_same], Nat.zero_le _, ne, e2, fun _ => none, (Heap.Ns1.of_empty e3).at fun o q => Heap.get?_push_of_some _ q, fun _ => True.intro, fun y hy => absurd rfl hy⟩

end

/-! ### readings and rules -/
/-- e.f, an attribute of the instance -/
def tFld (K : PySem.W.Frag) (ta : TE) (f : Str) : TE := fun σ H Q => ta σ H fun x H1 => ∃ a C dx fs v, x = .ref a ∧ H1 a = some (.ins C dx fs) ∧ Cls K C ∧ NoAttr K C f ∧ fs.lookup f = some v ∧ Q v H1
/-- e.f, a constant of the class -/
def tCon (K : PySem.W.Frag) (ta : TE) (f : Str) : TE := fun σ H Q => ta σ H fun x H1 => ∃ a C dx fs v u, x = .ref a ∧ H1 a = some (.ins C dx fs) ∧ Cls K C ∧ Con K C f v u ∧ fs.lookup f = none ∧ Q v H1
/-- e.f = value -/
def sFld (K : PySem.W.Frag) (ta tv : TE) (f : Str) : TS := fun D σ H => tv σ H fun y H1 => ta σ H1 fun x H2 => ∃ a C dx fs, x = .ref a ∧ H2 a = some (.ins C dx fs) ∧ Cls K C ∧ NoAttr K C f ∧ fs.length < 1000 ∧
  D.nx σ (upd H2 a (.ins C dx (putF f y fs)))
/-- an augmented operator on two values -/
def InOp (X : Cx) (op : Operator) (rd : V → V → Hp → VK → Prop) : Prop :=
  ∀ (pins : List (Addr × Obj)) (s : Shared) (σ : St) (H : Hp) (x y : V) (u v : Value) (Q : VK), Inv X pins σ H s → RelV x u → RelV y v → rd x y H Q → wpAny (model X.prog X.w) X.A (inplaceOp op u v) (EP X pins σ Q) X.xe s
/-- e.f op= value -/
def sFldAug (K : PySem.W.Frag) (ta tv : TE) (rd : V → V → Hp → VK → Prop) (f : Str) : TS := fun D σ H => ta σ H fun x H1 => ∃ a C dx fs v, x = .ref a ∧ H1 a = some (.ins C dx fs) ∧ Cls K C ∧ NoAttr K C f ∧ fs.lookup f = some v ∧
  tv σ H1 fun y H2 => rd v y H2 fun z H3 => ∃ dx' fs', H3 a = some (.ins C dx' fs') ∧ fs'.length < 1000 ∧ D.nx σ (upd H3 a (.ins C dx' (putF f z fs')))

section
variable {X : Cx} {o e value : Expr} {f : Str} {pos pos' tpos : Pos} {ta tv : TE}
def rAdd : V → V → Hp → VK → Prop := fun x y H Q => ∃ i j, x = .int i ∧ y = .int j ∧ Q (.int (i + j)) H
def rSub : V → V → Hp → VK → Prop := fun x y H Q => ∃ i j, x = .int i ∧ y = .int j ∧ Q (.int (i - j)) H
end

/-! ### isinstance -/
section
variable {X : Cx} {pins : List (Addr × Obj)} {σ : St} {H : Hp} {s : Shared} {A : Around} {E : Value → Shared → Prop} {Q : Value → Shared → Prop} {c : Value} {b : Bool}
/-- the type of a value, as the fragment's deciders take it; for an instance its class -/
inductive TyOf (K : PySem.W.Frag) (H : Hp) : V → Value → Prop where
  | non : TyOf K H .non (.type "NoneType")
  | bl (x : Bool) : TyOf K H (.bl x) (.type "bool")
  | int (i : Int) : TyOf K H (.int i) (.type "int")
  | str (x : Str) : TyOf K H (.str x) (.type "str")
  | flt (x : UInt64) : TyOf K H (.flt x) (.type "float")
  | lst {a : Addr} {xs : List V} (e : H a = some (.lst xs)) : TyOf K H (.ref a) (.type "list")
  | frz {a : Addr} {o : Obj} {xs : List V} (e : H a = some (.frz o (.lst xs))) : TyOf K H (.ref a) (.type "list")
  | tup {a : Addr} {xs : List V} (e : H a = some (.tup xs)) : TyOf K H (.ref a) (.type "tuple")
  | dK {a : Addr} {kvs : List (Key × V)} (e : H a = some (.dK kvs)) : TyOf K H (.ref a) (.type "dict")
  | dT {a : Addr} {kvs : List (List Key × V)} (e : H a = some (.dT kvs)) : TyOf K H (.ref a) (.type "dict")
  | ins {a C dx : Addr} {fs : List (Str × V)} (e : H a = some (.ins C dx fs)) (cl : Cls K C) (ha : PySem.W.findIn K (.ref C) "__class__" = some (some (.builtin "object.__class__")))
      (hn : PySem.W.specialIn K (.builtin "object.__class__") "__get__" = some (some (.builtin "getset_descriptor.__get__"))) (htk : PySem.W.takesIn K (.builtin "object.__class__") = some true)
      (hm : PySem.W.mroIn K C (.type "object") = some true) : TyOf K H (.ref a) (.ref C)
/-- isinstance(x, c) for one class c, a built-in or an own one: kitOne's answer -/
theorem isinst_ok {x : V} {u t : Value} (I : Inv X pins σ H s) (rx : RelV x u) (ty : TyOf X.K H x t) (e : PySem.W.kitOne X.K t c = some b) (h : ∀ tk, Q (.bool b) { s with toks := tk }) :
    wpAny (model X.prog X.w) A (call (.builtin "isinstance") [u, c]) Q E s := by
  cases ty with
  | non => cases (show u = Value.none from rx); exact PySem.W.kia_one PySem.W.kitx_none I.kIn True.intro e (fun z => nomatch z) h
  | bl y => cases (show u = Value.bool y from rx); exact PySem.W.kia_one PySem.W.kitx_bool I.kIn True.intro e (fun z => nomatch z) h
  | int i => obtain ⟨t, q⟩ := (show ∃ t, u = Value.int i t from rx); cases q; exact PySem.W.kia_one PySem.W.kitx_int I.kIn True.intro e (fun z => nomatch z) h
  | str y => obtain ⟨t, q⟩ := (show ∃ t, u = Value.str y t from rx); cases q; exact PySem.W.kia_one PySem.W.kitx_str I.kIn True.intro e (fun z => nomatch z) h
  | flt y => obtain ⟨t, q⟩ := (show ∃ t, u = Value.float y t from rx); cases q; exact PySem.W.kia_one PySem.W.kitx_float I.kIn True.intro e (fun z => nomatch z) h
  | @lst a xs ea =>
    cases (show u = Value.ref a from rx)
    obtain ⟨_, _, n, _, h1⟩ := (show ObjOk X.prog X.w H s.heap a (.lst xs) from I.hok a _ ea)
    exact PySem.W.kia_one PySem.W.kitx_list I.kIn ⟨_, h1, rfl⟩ e (fun z => nomatch z) h
  | @frz a ob xs ea =>
    cases (show u = Value.ref a from rx)
    obtain ⟨_, _, _, n, _, h1⟩ := (show ObjOk X.prog X.w H s.heap a (.frz ob (.lst xs)) from I.hok a _ ea)
    exact PySem.W.kia_one PySem.W.kitx_list I.kIn ⟨_, h1, rfl⟩ e (fun z => nomatch z) h
  | @tup a xs ea =>
    cases (show u = Value.ref a from rx)
    obtain ⟨_, _, _, p, _⟩ := (show ObjOk X.prog X.w H s.heap a (.tup xs) from I.hok a _ ea)
    obtain ⟨o, h1, h2, _⟩ := p
    exact PySem.W.kia_one PySem.W.kitx_tuple I.kIn ⟨o, h1, h2⟩ e (fun z => nomatch z) h
  | @dK a kvs ea =>
    cases (show u = Value.ref a from rx)
    obtain ⟨_, _, vs, _, p⟩ := (show ObjOk X.prog X.w H s.heap a (.dK kvs) from I.hok a _ ea)
    obtain ⟨o, es, ep, h1, h2, _⟩ := p
    exact PySem.W.kia_one PySem.W.kitx_dict I.kIn ⟨o, h1, h2.1⟩ e (fun z => nomatch z) h
  | @dT a kvs ea =>
    cases (show u = Value.ref a from rx)
    obtain ⟨_, _, xs, _, o, es, ep, h1, h2, _⟩ := (show ObjOk X.prog X.w H s.heap a (.dT kvs) from I.hok a _ ea)
    exact PySem.W.kia_one PySem.W.kitx_dict I.kIn ⟨o, h1, h2.1⟩ e (fun z => nomatch z) h
  | @ins a C dx fs ea cl ha hn htk hm =>
    cases (show u = Value.ref a from rx)
    obtain ⟨mA, O, _⟩ := ins_get I.hok ea
    obtain ⟨od, J, _⟩ := O.look
    exact PySem.W.kia_one (PySem.W.kitx_own (cl.get _) cl.hd ha hn htk hm) I.kIn J e (fun z => nomatch z) h
end
end L2

namespace L2
open PySem PySem.Spec PyProof.Rows

/-! ### room -/
structure Room (k : Nat) (A : Around) : Prop where
  hd : A.handled = none
  dp : A.depth + 3 * k + 5 < recursionLimit
  un : A.units + 16 * k + 200 < cLine
theorem Room.mono {j k : Nat} {A : Around} (r : Room k A) (h : j ≤ k) : Room j A := ⟨r.hd, by have := r.dp; omega, by have := r.un; omega⟩
theorem Room.deeper {k : Nat} {A : Around} (r : Room (k + 1) A) (env : Env) : Room k (A.deeper env) :=
  ⟨r.hd, by have := r.dp; show A.depth + 1 + 3 * k + 5 < _; omega, by have := r.un; show A.units + 3 + 16 * k + 200 < _; omega⟩
theorem Room.in1 {k : Nat} {A : Around} (r : Room (k + 1) A) : Room k A.in1 :=
  ⟨r.hd, by have := r.dp; show A.depth + 3 * k + 5 < _; omega, by have := r.un; show A.units + 1 + 16 * k + 200 < _; omega⟩
theorem make_depth {A : Around} {C : Addr} {us : List Value} {kw : List (Str × Value)} : (A.under (.builtin "type.__call__" ⟨.ref C :: us, kw⟩)).depth = A.depth + 1 := by
  first | rfl | simp [Around.under, Code.weight, Code.isCreation, Code.isGuard, Code.isCaller, Code.frames, Code.isFrame, guardIds]
theorem make_units {A : Around} {C : Addr} {us : List Value} {kw : List (Str × Value)} : (A.under (.builtin "type.__call__" ⟨.ref C :: us, kw⟩)).units = A.units + 1 := by
  first | rfl | simp [Around.under, Code.cUnits, Code.frames, Code.isFrame]
theorem Room.make {k : Nat} {A : Around} (r : Room (k + 1) A) (C : Addr) (us : List Value) (kw : List (Str × Value)) : Room k (A.under (.builtin "type.__call__" ⟨.ref C :: us, kw⟩)) :=
  ⟨r.hd, by have := r.dp; rw [make_depth]; omega, by have := r.un; rw [make_units]; omega⟩
theorem Room.depth {k : Nat} {A : Around} (r : Room k A) : A.depth < recursionLimit := by have := r.dp; omega
theorem Room.units {k : Nat} {A : Around} (r : Room k A) : A.units + 64 < cLine := by have := r.un; omega
/-! ### argument lists and displays -/
def tNil : TA := fun _ H Q => Q [] H
def tCons (ta : TE) (tr : TA) : TA := fun σ H Q => ta σ H fun x H1 => tr σ H1 fun xs H2 => Q (x :: xs) H2
section
variable {X : Cx} {e : Expr} {es : List Expr} {te : TE} {t : TA} {pos : Pos}
theorem pa_nil : PA X [] tNil := fun _ _ _ _ H Q I h => Calls.spliced_nil ⟨[], H, I, .nil, h⟩
theorem pa_cons (ha : PE X e te) (hr : PA X es t) (hs : starEach (e :: es) X.env = (false, eval e X.env) :: starEach es X.env := by rfl) : PA X (e :: es) (tCons te t) := by
  intro pos pins s σ H Q I h
  rw [hs]
  show wpAny _ _ (spliced ((false, eval e X.env) :: backTo pos (starEach es X.env))) _ _ s
  refine Calls.spliced_cons (thn (ha pins s σ H _ I h) fun u s1 ⟨x, H1, I1, r1, q1⟩ => ?_)
  exact thn (hr pos pins s1 σ H1 _ I1 q1) fun us s2 ⟨xs, H2, I2, r2, q2⟩ => ⟨x :: xs, H2, I2, .cons r1 r2, q2⟩

/-- a tuple, a list of written items -/
def tTup (t : TA) : TE := fun σ H Q => t σ H fun xs H1 => xs.length ≤ sizeLine ∧ ∀ p, H1 p = none → Q (.ref p) (upd H1 p (.tup xs))
def tLst (t : TA) : TE := fun σ H Q => t σ H fun xs H1 => xs.length ≤ sizeLine ∧ ∀ p, H1 p = none → Q (.ref p) (upd H1 p (.lst xs))
theorem pe_tup {x1} (h : PA X es t) : PE X (.Tuple es x1 pos) (tTup t) := by
  intro pins s σ H Q I hq
  refine wpAny_Tuple_spliced (thn (h pos pins s σ H _ I hq) fun us s1 ⟨xs, H1, I1, r, z, q⟩ => ⟨by rw [← r.length]; exact z, ?_⟩)
  have hf : H1 s1.heap.objs.size = none := I1.hok.fresh (Nat.le_refl _)
  refine ⟨.ref s1.heap.objs.size, upd H1 s1.heap.objs.size (.tup xs), I1.laid (t' := s1.toks) (fun b u e => Heap.get?_push_of_some _ e) (Nat.le_refl _) ?_, rfl, q _ hf⟩
  exact ⟨z, us, r, ⟨_, Heap.get?_push_size _ rfl, rfl, _, rfl⟩, _, Heap.get?_push_size _ rfl, rfl⟩
theorem pe_lst (h : PA X es t) : PE X (.List es pos) (tLst t) := by
  intro pins s σ H Q I hq
  refine wpAny_List_spliced (thn (h pos pins s σ H _ I hq) fun us s1 ⟨xs, H1, I1, r, z, q⟩ => ⟨by rw [← r.length]; exact z, ?_⟩)
  have hf : H1 s1.heap.objs.size = none := I1.hok.fresh (Nat.le_refl _)
  refine ⟨.ref s1.heap.objs.size, upd H1 s1.heap.objs.size (.lst xs), I1.laid (t' := s1.toks) (fun b u e => Heap.get?_push_of_some _ e) (Nat.le_refl _) ?_, rfl, q _ hf⟩
  exact ⟨z, us, 0, r, Heap.get?_push_size _ rfl⟩
end

/-! ### what a def promises -/
/-- a def's promise: the bound arguments in the parameters' order, the heap, the wanted end, the wanted exception -/
abbrev Sp := List V → Hp → VK → XK → Prop
/-- how an exception lies behind a call (file 08 gives it): the callers' frames, abstract heap and state ahead of the call, the wish, the exception, the state -/
abbrev CXT := List Env → Hp → Shared → XK → Value → Shared → Prop

/-- the state at a call -/
structure Env0 (P : Program) (w : World) (K : PySem.W.Frag) (mg : Str → Option Value) (base : Heap) (A : Around) (outer : List Env) (s : Shared) (H : Hp) : Prop where
  frames : A.frames = some outer
  mod : Mod K mg base
  bs : ∀ b o, base.get? b = some o → s.heap.get? b = some o ∧ H b = none
  bsz : base.objs.size ≤ s.heap.objs.size
  funs : s.heap.FunFrames base outer
  frf : ∀ b ∈ frs outer, H b = none
  hok : HOk P w H s.heap
  bare : AllBare s.gens
/-- a call's end -/
def CE (outer : List Env) (P : Program) (w : World) (H : Hp) (s : Shared) (Q : VK) (u : Value) (s' : Shared) : Prop :=
  ∃ v H', s'.os = s.os ∧ AllBare s'.gens ∧ Un (frs outer) [] H H' s.heap s'.heap ∧ HOk P w H' s'.heap ∧ RelV v u ∧ Q v H'
def CR (CX : CXT) (outer : List Env) (P : Program) (w : World) (H : Hp) (s : Shared) (Q : VK) (E : XK) (r : Result) (s' : Shared) : Prop :=
  match r with
  | .ok (.ret u) => CE outer P w H s Q u s'
  | .ok _ => False
  | .error e => CX outer H s E e s'
structure FnOk (P : Program) (w : World) (K : PySem.W.Frag) (mg : Str → Option Value) (base : Heap) (CX : CXT) (k : Nat) (f : Addr) (fd : FuncData) (ps : List Str) (sp : Sp) : Prop where
  len : ∀ vs H Q E, sp vs H Q E → vs.length = ps.length
  run : ∀ (A : Around) (outer : List Env) (s : Shared) (H : Hp) (args : Args) (us : List Value) (vs : List V) (Q : VK) (E : XK), Room k A → Env0 P w K mg base A outer s H → BindsTo s fd args (ps.zip us) → Vals vs us → sp vs H Q E →
    codeAny (model P w) A (.call (.ref f) args) (CR CX outer P w H s Q E) s
theorem FnOk.mono {P : Program} {w : World} {K : PySem.W.Frag} {mg : Str → Option Value} {base : Heap} {CX : CXT} {j k : Nat} {f : Addr} {fd : FuncData} {ps : List Str} {sp : Sp} (F : FnOk P w K mg base CX j f fd ps sp) (h : j ≤ k) :
    FnOk P w K mg base CX k f fd ps sp := ⟨F.len, fun A outer s H args us vs Q E hr => F.run A outer s H args us vs Q E (hr.mono h)⟩
/-- a weaker promise -/
theorem FnOk.imp {P : Program} {w : World} {K : PySem.W.Frag} {mg : Str → Option Value} {base : Heap} {CX : CXT} {k : Nat} {f : Addr} {fd : FuncData} {ps : List Str} {sp sp' : Sp} (F : FnOk P w K mg base CX k f fd ps sp)
    (h : ∀ vs H Q E, sp' vs H Q E → sp vs H Q E) : FnOk P w K mg base CX k f fd ps sp' :=
  ⟨fun vs H Q E q => F.len vs H Q E (h _ _ _ _ q), fun A outer s H args us vs Q E hr he hb hv hs => F.run A outer s H args us vs Q E hr he hb hv (h _ _ _ _ hs)⟩

theorem Env0.make {P : Program} {w : World} {K : PySem.W.Frag} {mg : Str → Option Value} {base : Heap} {A : Around} {outer : List Env} {s : Shared} {H : Hp} (e : Env0 P w K mg base A outer s H) (C : Addr) (us : List Value) (kw : List (Str × Value)) :
    Env0 P w K mg base (A.under (.builtin "type.__call__" ⟨.ref C :: us, kw⟩)) outer s H := ⟨by first | exact e.frames | (simpa [Around.under, Code.envs, Code.isFrame, pushEnvs] using e.frames), e.mod, e.bs, e.bsz, e.funs, e.frf, e.hok, e.bare⟩
theorem Env0.in1 {P : Program} {w : World} {K : PySem.W.Frag} {mg : Str → Option Value} {base : Heap} {A : Around} {outer : List Env} {s : Shared} {H : Hp} (e : Env0 P w K mg base A outer s H) :
    Env0 P w K mg base A.in1 outer s H := ⟨e.frames, e.mod, e.bs, e.bsz, e.funs, e.frf, e.hok, e.bare⟩

section
variable {X : Cx} {pins : List (Addr × Obj)} {σ : St} {H : Hp} {s s' : Shared}
/-- from a body: what a callee wants -/
theorem Inv.env0 (I : Inv X pins σ H s) : Env0 X.prog X.w X.K X.mg X.base X.A X.stack s H :=
  ⟨I.ok.frames, I.ok.mod, I.bs, Nat.le_trans I.ok.bsz I.sz, I.stack, I.stkFree, I.hok, I.bare⟩
/-- behind a call -/
theorem Inv.after {Q : VK} {u : Value} (I : Inv X pins σ H s) (h : CE X.stack X.prog X.w H s Q u s') : EP X pins σ Q u s' := by
  obtain ⟨v, H', os, bare, un, hok, r, q⟩ := h
  obtain ⟨hh, g, d, t, os'⟩ := s'
  obtain rfl : os' = s.os := os
  exact ⟨v, H', I.call (h' := hh) (g' := g) (d' := d) (t' := t) (ch := []) un hok bare (fun b z => absurd z (by simp)), r, q⟩
end

/-! ### calls -/
/-- f(..): the written arguments, then the defaults dvs; E: what is wanted of an exception -/
def tCall (sp : Sp) (dvs : List V) (E : XK) (t : TA) : TE := fun σ H Q => t σ H fun vs H1 => sp (vs ++ dvs) H1 Q E
/-- o.m(..) of an instance of the class at C -/
def tMeth (C : Addr) (m : Str) (sp : Sp) (dvs : List V) (E : XK) (ta : TE) (t : TA) : TE := fun σ H Q => ta σ H fun x H1 => ∃ a dx fs, x = .ref a ∧ H1 a = some (.ins C dx fs) ∧ fs.lookup m = none ∧
  t σ H1 fun vs H2 => sp (x :: (vs ++ dvs)) H2 Q E
/-- C(..): a new instance and its dict, then __init__ -/
def tMake (C : Addr) (sp : Sp) (dvs : List V) (E : XK) (t : TA) : TE := fun σ H Q => t σ H fun vs H1 => ∀ x dx, H1 x = none → H1 dx = none → dx ≠ x →
  sp (.ref x :: (vs ++ dvs)) (upd (upd H1 dx (.own x)) x (.ins C dx [])) (fun v H2 => v = .non ∧ Q (.ref x) H2) E

/-- how the parameters are bound: us the positional arguments, kw the keywords' values by name, ds the defaults that fill up -/
def Binds (K : PySem.W.Frag) (fd : FuncData) (ps : List Str) (ds : List Value) : Prop :=
  ∀ (s : Shared) (us : List Value), K.In s.heap → (us ++ ds).length = ps.length → BindsTo s fd ⟨us, []⟩ (ps.zip (us ++ ds))
/-- every parameter is given -/
theorem Binds.all {K : PySem.W.Frag} {fd : FuncData} {ps : List Str} (h : ∀ us : List Value, us.length = ps.length → bindArgs fd ⟨us, []⟩ = pure (ps.zip us)) : Binds K fd ps [] := fun s us _ hl => by
  rw [List.append_nil] at hl ⊢
  exact .of_eq (h us hl)

/-- an exception of a callee reaches what this body wants of exceptions -/
def Passes (CX : CXT) (X : Cx) (E : XK) : Prop := ∀ (pins : List (Addr × Obj)) (σ : St) (H : Hp) (s : Shared) (e : Value) (s' : Shared), Inv X pins σ H s → CX X.stack H s E e s' → X.xe e s'

section
variable {X : Cx} {CX : CXT} {k : Nat} {f C : Addr} {fd : FuncData} {ps : List Str} {sp : Sp} {dvs : List V} {ds : List Value} {E : XK} {x m : Str} {p pos apos : Pos} {e o : Expr} {es : List Expr} {ta : TE} {t : TA}

/-- the callee runs -/
theorem run_fn {pins : List (Addr × Obj)} {σ : St} {H : Hp} {s : Shared} {Q : VK} {us : List Value} {vs : List V} (F : FnOk X.prog X.w X.K X.mg X.base CX k f fd ps sp) (hr : Room k X.A) (hb : Binds X.K fd ps ds) (hd : Vals dvs ds) (hx : Passes CX X E)
    (I : Inv X pins σ H s) (r : Vals vs us) (h : sp (vs ++ dvs) H Q E) : wpAny (model X.prog X.w) X.A (call (.ref f) us) (EP X pins σ Q) X.xe s := by
  have r2 : Vals (vs ++ dvs) (us ++ ds) := r.append hd
  have hl : (us ++ ds).length = ps.length := by rw [← r2.length]; exact F.len _ _ _ _ h
  refine wpAny_call (codeAny_mono (F.run X.A X.stack s H ⟨us, []⟩ (us ++ ds) (vs ++ dvs) Q E hr I.env0 (hb s us I.kIn hl) r2 h) fun r s' hq => ?_)
  cases r with
  | error e => exact hx pins σ H s e s' I hq
  | ok fl =>
    cases fl with
    | ret u => exact I.after hq
    | next => exact False.elim hq
    | brk => exact False.elim hq
    | cont => exact False.elim hq

theorem pe_call (F : FnOk X.prog X.w X.K X.mg X.base CX k f fd ps sp) (hr : Room k X.A) (hg : Gl X x) (hm : X.mg x = some (.ref f)) (hk : PySem.W.keepIn X.K (.ref f) = true) (hb : Binds X.K fd ps ds) (hd : Vals dvs ds) (hx : Passes CX X E)
    (ha : PA X (e :: es) t) (hdb : (x == ("__debug__" : Str)) = false := by decide) (he : starEach (e :: es) X.env = (false, eval e X.env) :: starEach es X.env := by rfl) (hpl : (backTo pos (starEach es X.env)).any (·.1) = false := by rfl) :
    PE X (.Call (.Name x p) (e :: es) [] pos) (tCall sp dvs E t) := by
  intro pins s σ H Q I h
  refine wpAny_Call_Name_kw (ld_glob I hg hm ?_ hdb)
  refine PySem.W.callWith_K (h₀ := X.base) I.ok.mod.kin hk (thn (ha pos pins s σ H _ I h) fun us s1 ⟨vs, H1, I1, r, q⟩ => ⟨I1.kIn, ?_⟩) he hpl
  exact run_fn F hr hb hd hx I1 r q
/-- what a class must have to be made -/
structure Mk (K : PySem.W.Frag) (C f : Addr) : Prop where
  makes : PySem.W.makesIn K C = true
  init : PySem.W.findIn K (.ref C) "__init__" = some (some (.ref f))
  fn : PySem.W.isFn K (.ref f) = true
  kp : PySem.W.keepIn K (.ref C) = true

end

/-! ### keywords -/
/-- the values of the keywords, from the left -/
def PK (X : Cx) (kws : List Keyword) (t : TA) : Prop :=
  ∀ (pos : Pos) (pins : List (Addr × Obj)) (s : Shared) (σ : St) (H : Hp) (Q : List V → Hp → Prop), Inv X pins σ H s → t σ H Q → wpAny (model X.prog X.w) X.A (evalAll ((backToKw pos (keywordEach kws X.env)).map (·.2))) (AP X pins σ Q) X.xe s
section
variable {X : Cx} {CX : CXT} {k : Nat} {f C : Addr} {fd : FuncData} {ps ks : List Str} {sp : Sp} {E : XK} {x m : Str} {p pos apos kpos : Pos} {e o : Expr} {es : List Expr} {kws : List Keyword} {te ta : TE} {t tk : TA} {nm : Option Str}
/-- how a call with keywords binds: g puts the positional values us and the keywords' values ws (names ks) in the parameters' order, defaults among them -/
structure KBinds (K : PySem.W.Frag) (fd : FuncData) (ps ks : List Str) (g : List Value → List Value → List Value) (gV : List V → List V → List V) : Prop where
  to : ∀ (s : Shared) (us ws : List Value), K.In s.heap → (g us ws).length = ps.length → BindsTo s fd ⟨us, ks.zip ws⟩ (ps.zip (g us ws))
  rel : ∀ {vs : List V} {us : List Value} {zs : List V} {ws : List Value}, Vals vs us → Vals zs ws → Vals (gV vs zs) (g us ws)
def tCallK (sp : Sp) (gV : List V → List V → List V) (E : XK) (t tk : TA) : TE := fun σ H Q => t σ H fun vs H1 => tk σ H1 fun zs H2 => sp (gV vs zs) H2 Q E
variable {g : List Value → List Value → List Value} {gV : List V → List V → List V}
end

/-! ### a def's body keeps its promise -/
/-- names: the parameters first -/
structure FnScope (N P : List Str) (sc : Scope) : Prop where
  kind : sc.kind = .function
  co : sc.isCoroutine = false
  gen : sc.isGenerator = false
  nd : N.Nodup
  pre : N.take P.length = P
  par : ∀ x ∈ P, sc.names.lookup x = some .local ∨ sc.names.lookup x = some .cell
  nofree : ∀ y ∈ sc.names, y.2 ≠ .free

theorem bindL_out {kindOf : Str → Option NameKind} {x : Str} : ∀ {binds : List (Str × Value)} {m : Str → Option Value}, (∀ v, (x, v) ∉ binds) → bindL kindOf binds m x = m x
  | [], _, _ => rfl
  | (n, v) :: r, m, h => by
    unfold bindL
    rw [bindL_out fun w hw => h w (List.mem_cons_of_mem _ hw)]
    split
    · have : x ≠ n := by rintro rfl; exact h v List.mem_cons_self
      simp [this]
    · rfl
theorem bindC_out {kindOf : Str → Option NameKind} {x : Str} : ∀ {binds : List (Str × Value)} {m : Str → Option Value}, (∀ v, (x, v) ∉ binds) → bindC kindOf binds m x = m x
  | [], _, _ => rfl
  | (n, v) :: r, m, h => by
    unfold bindC
    rw [bindC_out fun w hw => h w (List.mem_cons_of_mem _ hw)]
    split
    · rfl
    · have : x ≠ n := by rintro rfl; exact h v List.mem_cons_self
      simp [this]
theorem bindL_get {kindOf : Str → Option NameKind} {x : Str} {v : Value} : ∀ {P : List Str} {vs : List Value} {i : Nat} {m : Str → Option Value}, P.Nodup → P[i]? = some x → vs[i]? = some v → kindOf x = some .local →
    bindL kindOf (P.zip vs) m x = some v
  | [], _, _, _, _, h, _, _ => by simp at h
  | _ :: _, [], _, _, _, _, h, _ => by simp at h
  | p :: P, w :: vs, 0, m, nd, h1, h2, hk => by
    simp at h1 h2; subst h1; subst h2
    show bindL kindOf ((p, w) :: P.zip vs) m p = _
    unfold bindL
    rw [bindL_out fun v hv => (List.nodup_cons.mp nd).1 (List.of_mem_zip hv).1, if_pos hk]
    simp
  | p :: P, w :: vs, i + 1, m, nd, h1, h2, hk => by
    show bindL kindOf ((p, w) :: P.zip vs) m x = _
    unfold bindL
    exact bindL_get (i := i) (List.nodup_cons.mp nd).2 (by simpa using h1) (by simpa using h2) hk
theorem bindC_get {kindOf : Str → Option NameKind} {x : Str} {v : Value} : ∀ {P : List Str} {vs : List Value} {i : Nat} {m : Str → Option Value}, P.Nodup → P[i]? = some x → vs[i]? = some v → kindOf x ≠ some .local →
    bindC kindOf (P.zip vs) m x = some v
  | [], _, _, _, _, h, _, _ => by simp at h
  | _ :: _, [], _, _, _, _, h, _ => by simp at h
  | p :: P, w :: vs, 0, m, nd, h1, h2, hk => by
    simp at h1 h2; subst h1; subst h2
    show bindC kindOf ((p, w) :: P.zip vs) m p = _
    unfold bindC
    rw [bindC_out fun v hv => (List.nodup_cons.mp nd).1 (List.of_mem_zip hv).1, if_neg hk]
    simp
  | p :: P, w :: vs, i + 1, m, nd, h1, h2, hk => by
    show bindC kindOf ((p, w) :: P.zip vs) m x = _
    unfold bindC
    exact bindC_get (i := i) (List.nodup_cons.mp nd).2 (by simpa using h1) (by simpa using h2) hk

/-- the names' values at the entry -/
def start (N : List Str) (vs : List V) : St := vs.map some ++ List.replicate (N.length - vs.length) none

/-- the context of a def's body, at its entry; an exception leaves the frame, then lies as CX says -/
def cxOf (CX : CXT) (P : Program) (w : World) (K : PySem.W.Frag) (mg : Str → Option Value) (base : Heap) (N : List Str) (qual : Str) (scope : Scope) (f : Addr) (cd : Value) (A : Around) (outer : List Env) (s : Shared) (H : Hp) (E : XK) : Cx where
  prog := P
  w := w
  K := K
  mg := mg
  base := base
  A := A.deeper (envOfC qual scope s.heap.objs.size f cd)
  N := N
  s₀ := s
  H₀ := H
  env := envOfC qual scope s.heap.objs.size f cd
  outer := outer
  stack := envOfC qual scope s.heap.objs.size f cd :: outer
  ex := []
  calm := true
  fn := fun _ => true
  pn := []
  xe := fun e s' => wpAny (model P w) (A.deeper (envOfC qual scope s.heap.objs.size f cd)) (leaving (envOfC qual scope s.heap.objs.size f cd) e) (fun _ s'' => CX outer H s E e s'') (fun e' s'' => CX outer H s E e' s'') s'

theorem cell_has {sc : Scope} {n : Nat} {x : Str} (h : sc.names.lookup x = some .cell) : ∃ c, (cellsFrom n sc.names []).lookup x = some c := by
  have q := PySem.W.cellsFrom_some sc.names n [] (.inl h)
  exact Option.isSome_iff_exists.mp q

theorem inv_start {CX : CXT} {P : Program} {w : World} {K : PySem.W.Frag} {mg : Str → Option Value} {base : Heap} {N ps : List Str} {qual : Str} {scope : Scope} {f : Addr} {cd : Value} {A : Around} {outer : List Env} {s s1 : Shared} {H : Hp} {E : XK} {us : List Value} {vs : List V}
    (S : FnScope N ps scope) (hd : A.handled = none) (e0 : Env0 P w K mg base A outer s H) (hl : vs.length = ps.length) (r : Vals vs us)
    (x : InCallC s s.heap.objs.size (bindL (envOfC qual scope s.heap.objs.size f cd).kindOf (ps.zip us) fun _ => none) (cellsFrom (s.heap.objs.size + 1) scope.names []) (bindC (envOfC qual scope s.heap.objs.size f cd).kindOf (ps.zip us) fun _ => none) s1) :
    Inv (cxOf CX P w K mg base N qual scope f cd A outer s H E) [] (start N vs) H s1 := by
  have hpl : ps.length ≤ N.length := by have := congrArg List.length S.pre; rw [List.length_take] at this; omega
  obtain ⟨h1, tk, rfl, hk⟩ := x.done
  have noA : ∀ b : Addr, b ∉ (cxOf CX P w K mg base N qual scope f cd A outer s H E).ex := fun b z => absurd (show b ∈ ([] : List Addr) from z) (by simp)
  refine ⟨⟨e0.mod, S.kind, rfl, rfl, Nat.le_refl _, fun y z c h1 h2 => ?_, fun y hy => ?_, fun y c _ h => ?_, fun _ => hd, Around.frames_deeper e0.frames, .inr ⟨rfl, rfl⟩, fun b z => absurd z (noA b), e0.bs, e0.bsz, fun b _ _ => noA b, fun b z => absurd z (noA b), e0.funs, e0.frf⟩,
    rfl, e0.bare, Un.kept hk, ⟨_, x.toInCall.ns, fun i y v h1 h2 h3 => ?_⟩, fun y c h => ⟨_, x.cell y c h⟩, e0.hok.fresh (Nat.le_refl _), fun y c h => ?_, fun p hp => absurd (show p ∈ ([] : List (Addr × Obj)) from hp) (by simp), e0.hok.kept hk, ?_⟩
  · exact name_of_addr x.apart (PySem.mem_of_lookup h1) (PySem.mem_of_lookup h2)
  · have hy : scope.names.lookup y = some .cell ∨ scope.names.lookup y = some .free := hy
    rcases hy with hy | hy
    · exact cell_has hy
    · exact absurd rfl (S.nofree _ (PySem.mem_of_lookup hy))
  · exact Nat.le_of_lt (x.above y c (PySem.mem_of_lookup h))
  · have hi : i < vs.length := by
      unfold start at h2
      by_cases hi : i < vs.length
      · exact hi
      · rw [List.getElem?_append_right (by simpa using hi)] at h2
        rw [List.getElem?_replicate] at h2
        split at h2 <;> cases h2
    have ha : vs[i]? = some v := by
      unfold start at h2
      rw [List.getElem?_append_left (by simpa using hi), List.getElem?_map] at h2
      cases e : vs[i]? with
      | none => rw [e] at h2; cases h2
      | some a => rw [e] at h2; cases h2; rfl
    obtain ⟨u, hu, rv⟩ := r.get ha
    have hp : ps[i]? = some y := by
      rw [← S.pre, List.getElem?_take_of_lt (by omega)]; exact h1
    have ndP : ps.Nodup := by rw [← S.pre]; exact S.nd.sublist (List.take_sublist _ _)
    refine ⟨u, rv, ?_⟩
    rcases S.par y (List.mem_of_getElem? hp) with k | k
    · exact .inl ⟨k, bindL_get ndP hp hu k⟩
    · obtain ⟨c, e⟩ := cell_has (n := s.heap.objs.size + 1) k
      refine .inr ⟨.inl k, c, e, ?_⟩
      have q := x.cell y c e
      rw [bindC_get ndP hp hu (by show scope.names.lookup y ≠ _; rw [k]; decide)] at q
      exact q
  · exact e0.hok.fresh (Nat.le_of_lt (x.above y c (PySem.mem_of_lookup h)))
  · unfold start
    show _ = N.length
    rw [List.length_append, List.length_map, List.length_replicate]
    omega

/-- THE RULE: a def (or a method) of the text, by its body. The body's reading t is chosen for each entry; it is run at the parameters' values -/
theorem fn_of {CX : CXT} {P : Program} {w : World} {K : PySem.W.Frag} {mg : Str → Option Value} {base : Heap} {k : Nat} {f : Addr} {name qual : Str} {params : Arguments} {body : List Stmt} {scope : Scope} {dV kV doc pm cdv ct oc : Value} {an od : Option Addr}
    {osl : Array (Option Value)} {N ps : List Str} {sp : Sp} (lk : K.lookup f = some ⟨oc, od, .func (PySem.W.fnOf name qual params body scope dV kV doc pm an cdv ct), osl⟩) (hcd : PySem.W.codeIn K cdv qual = true) (S : FnScope N ps scope)
    (len : ∀ vs H Q E, sp vs H Q E → vs.length = ps.length)
    (hbody : ∀ (A : Around) (outer : List Env) (s : Shared) (H : Hp) (vs : List V) (Q : VK) (E : XK), Room k (A.deeper (envOfC qual scope s.heap.objs.size f cdv)) → sp vs H Q E →
      ∃ t, PSs (cxOf CX P w K mg base N qual scope f cdv A outer s H E) body t ∧ t { nx := fun _ H' => Q .non H', rt := Q } (start N vs) H) :
    FnOk P w K mg base CX (k + 1) f (PySem.W.fnOf name qual params body scope dV kV doc pm an cdv ct) ps sp := by
  refine ⟨len, fun A outer s H args us vs Q E hr e0 hb r hsp => ?_⟩
  have hl := len _ _ _ _ hsp
  have KX : K.In s.heap := e0.mod.kin.keeps fun b o e => (e0.bs b o e).1
  have lim : s.heap.NoLimit := e0.mod.nolimit.keeps fun b o e => (e0.bs b o e).1
  have hkind : ∀ y ∈ ps.zip us, scope.names.lookup y.1 = some .local ∨ (scope.names.lookup y.1 = some .cell ∧ ((cellsFrom (s.heap.objs.size + 1) scope.names []).lookup y.1).isSome = true) := fun ⟨n, v⟩ hy => by
    rcases S.par n (List.of_mem_zip hy).1 with q | q
    · exact .inl q
    · exact .inr ⟨q, PySem.W.cellsFrom_some _ _ _ (.inl q)⟩
  refine codeAny_call_function hr.depth (KX _ _ lk) rfl S.co S.gen rfl (PySem.W.codeRec_of KX hcd) (hb _ _ _ _ ?_)
  refine wpAny_newFunctionEnv_cells S.kind hkind fun env he s1 x => ?_
  subst he
  refine ⟨lim.keeps x.toInCall.keep, codeAny_func ?_⟩
  obtain ⟨t, ht, hq⟩ := hbody A outer s H vs Q E (hr.deeper _) hsp
  have I : Inv (cxOf CX P w K mg base N qual scope f cdv A outer s H E) [] (start N vs) H s1 := inv_start S hr.hd e0 hl r x
  refine wpAny_mono (ht [] s1 (start N vs) H _ I hq) (fun fl s' hs => ?_) fun e s' hs => hs
  have fin : ∀ {σ' : St} {H' : Hp} {v : V} {u : Value}, Inv (cxOf CX P w K mg base N qual scope f cdv A outer s H E) [] σ' H' s' → RelV v u → Q v H' → CE outer P w H s Q u s' :=
    fun {σ' H' v u} J rv q => ⟨v, H', J.os, J.bare, J.base, J.hok, rv, q⟩
  cases fl with
  | ret u =>
    obtain ⟨v, σ', H', J, rv, q⟩ := hs
    exact fin J rv q
  | next =>
    obtain ⟨σ', H', J, q⟩ := hs
    exact fin (v := V.non) (u := Value.none) J rfl q
  | brk =>
    obtain ⟨_, _, _, q⟩ := hs
    exact False.elim q
  | cont =>
    obtain ⟨_, _, _, q⟩ := hs
    exact False.elim q
end L2

namespace L2
open PySem PySem.Spec PyProof.Rows
section
variable {X : Cx} {x : Str} {p pos : Pos} {e : Expr} {es : List Expr} {t : TA} {id T : String} {r : List V → Hp → VK → Prop}

def tCB (r : List V → Hp → VK → Prop) (t : TA) : TE := fun σ H Q => t σ H fun vs H1 => r vs H1 Q
/-- f(e, ..), f a built-in function -/
theorem pe_callB (hc : CallR X (.builtin id) r) (hg : Gl X x) (hm : X.mg x = none) (hv : bootBuiltins x = some (.builtin id)) (ha : PA X (e :: es) t) (hn : x ≠ "__name__" := by decide) (hdb : (x == ("__debug__" : Str)) = false := by decide)
    (he : starEach (e :: es) X.env = (false, eval e X.env) :: starEach es X.env := by rfl) (hpl : (backTo pos (starEach es X.env)).any (·.1) = false := by rfl) : PE X (.Call (.Name x p) (e :: es) [] pos) (tCB r t) := by
  intro pins s σ H Q I h
  refine wpAny_Call_Name_kw (ld_blt I hg hm hv ?_ hn hdb)
  exact PyProof.Rows.callWith_builtin1 (thn (ha pos pins s σ H _ I h) fun us s1 ⟨vs, H1, I1, r1, q1⟩ => hc pins s1 σ H1 vs us Q I1 r1 q1) he hpl
/-- T(e, ..), T a built-in type -/
theorem pe_callTy (hc : CallR X (.type T) r) (hg : Gl X x) (hm : X.mg x = none) (hv : bootBuiltins x = some (.type T)) (ha : PA X (e :: es) t) (hn : x ≠ "__name__" := by decide) (hdb : (x == ("__debug__" : Str)) = false := by decide)
    (he : starEach (e :: es) X.env = (false, eval e X.env) :: starEach es X.env := by rfl) (hpl : (backTo pos (starEach es X.env)).any (·.1) = false := by rfl) : PE X (.Call (.Name x p) (e :: es) [] pos) (tCB r t) := by
  intro pins s σ H Q I h
  refine wpAny_Call_Name_kw (ld_blt I hg hm hv ?_ hn hdb)
  exact PyProof.Rows.callWith_type1 (thn (ha pos pins s σ H _ I h) fun us s1 ⟨vs, H1, I1, r1, q1⟩ => hc pins s1 σ H1 vs us Q I1 r1 q1) he hpl
end
end L2

namespace HT
open PySem PyProof.Rows

/-- t < u of tuples of ints -/
def lexLt : List Int → List Int → Bool
  | [], [] => false
  | [], _ :: _ => true
  | _ :: _, [] => false
  | x :: xs, y :: ys => if x = y then lexLt xs ys else decide (x < y)
section
open PySem.SeqAt
open PySem.AutoSeq1 (wpAny_loadPart')
open PySem.MeetsSeq PySem.MeetsSeq2 PySem.MeetsSeq3

end

section
variable {prog : Program} {w : World} {A : Around} {E : Value → Shared → Prop} {s : Shared}

/-- t + u, t not empty -/
theorem cat_tup {t b : Addr} {vs ws : List Value} {Q : Value → Shared → Prop} (ht : IsTup s.heap t vs.toArray) (hb : IsTup s.heap b ws.toArray) (hv : vs ≠ [])
    (h1 : ws = [] → Q (.ref t) s) (h2 : ws ≠ [] → Q (.ref s.heap.objs.size) { s with heap := s.heap.push { cls := .type "tuple", data := .seq (vs ++ ws).toArray } })
    (hsz : vs.length + ws.length ≤ sizeLine) : wpAny (model prog w) A (binaryOp .Add (.ref t) (.ref b)) Q E s := by
  obtain ⟨⟨cls, dd, data, sl⟩, ho, hc, n, hd⟩ := id ht
  obtain ⟨⟨cls2, dd2, data2, sl2⟩, ho2, hc2, n2, hd2⟩ := id hb
  simp only at hc hd hc2 hd2
  subst hc hd hc2 hd2
  have e : vs.toArray ++ ws.toArray = (vs ++ ws).toArray := by simp
  by_cases hw : ws = []
  · exact concat_meets ⟨_, ho, rfl⟩ ⟨_, ho2, rfl⟩ noFill_tuple_add seq_tuple_add PySem.F.slot_tuple_add PySem.F.entry_tuple_add (PySem.F.args_tuple_add_2 _ _)
      (tuple_addW1 t b vs.toArray ws.toArray n n2 dd dd2 sl sl2 (by simpa using hv) (by simp [hw])) ⟨ho, ho2, h1 hw⟩
  · refine concat_meets ⟨_, ho, rfl⟩ ⟨_, ho2, rfl⟩ noFill_tuple_add seq_tuple_add PySem.F.slot_tuple_add PySem.F.entry_tuple_add (PySem.F.args_tuple_add_2 _ _)
      (tuple_addW2 t b vs.toArray ws.toArray n n2 dd dd2 sl sl2 (by simpa using hv) (by simpa using hw) (by rw [List.size_toArray, List.size_toArray]; exact hsz)) ⟨ho, ho2, ?_⟩
    rw [e]
    exact h2 hw

/-! ### t[a:b], not the whole -/
/-- a slice's bound as a place among n (d where it is left out) -/
def sIx (n d : Nat) : Option Int → Nat
  | none => d
  | some v => if v < 0 then (v + (n : Int)).toNat else min v.toNat n
theorem sIx_nat (n d k : Nat) : sIx n d (some (k : Int)) = min k n := by
  show (if (k : Int) < 0 then ((k : Int) + (n : Int)).toNat else min (k : Int).toNat n) = min k n
  rw [if_neg (by omega), Int.toNat_natCast]
end
end HT

namespace L2
open PySem PySem.Spec PyProof.Rows

/-! ### the parts of a slice -/
abbrev TO := St → Hp → (Option Int → Hp → Prop) → Prop
/-- a slice's part (left out, or an int) -/
def PO (X : Cx) (e : Option Expr) (t : TO) : Prop :=
  ∀ (pins : List (Addr × Obj)) (s : Shared) (σ : St) (H : Hp) (Q : Option Int → Hp → Prop), Inv X pins σ H s → t σ H Q →
    wpAny (model X.prog X.w) X.A (evalPart e X.env) (fun u s' => ∃ o H', Inv X pins σ H' s' ∧ IsPart u o ∧ Q o H') X.xe s
def tNoPart : TO := fun _ H Q => Q none H
def tPart (t : TE) : TO := fun σ H Q => t σ H fun x H1 => ∃ i, x = .int i ∧ Q (some i) H1

theorem intsAre_of {ns : List Int} : ∀ {us : List Value}, Vals (ns.map V.int) us → IntsAre us ns := by
  induction ns with
  | nil => intro us r; rw [List.map_nil] at r; cases r; exact .nil
  | cons n ns ih =>
    intro us r
    rw [List.map_cons] at r
    cases r with
    | cons r1 r2 =>
      obtain ⟨t, e⟩ := r1
      subst e
      exact .cons n t (ih r2)

section
variable {X : Cx} {e : Expr} {te : TE} {lo hi : Option Expr} {tl th : TO} {pos p2 : Pos}

/-- what a slice of a value is, by values: the slice object stands at sl -/
def SlR (X : Cx) (r : V → Option Int → Option Int → Hp → VK → Prop) : Prop :=
  ∀ (pins : List (Addr × Obj)) (s : Shared) (σ : St) (H : Hp) (x : V) (v vl vu : Value) (lo hi : Option Int) (sl : Addr) (Q : VK), Inv X pins σ H s → RelV x v → s.heap.IsSliceOf sl vl vu .none → IsPart vl lo → IsPart vu hi → r x lo hi H Q →
    ∃ T id, typeLookup (.type T) "__getitem__" = pure (some (.builtin id)) ∧ s.TypeIs v T ∧ wpAny (model X.prog X.w) X.A (getItem v (.ref sl)) (EP X pins σ Q) X.xe s
theorem SlR.or {r r' : V → Option Int → Option Int → Hp → VK → Prop} (h : SlR X r) (h' : SlR X r') : SlR X (fun x lo hi H Q => r x lo hi H Q ∨ r' x lo hi H Q) := by
  intro pins s σ H x v vl vu lo hi sl Q I rx hs pl pu q
  rcases q with q | q
  · exact h pins s σ H x v vl vu lo hi sl Q I rx hs pl pu q
  · exact h' pins s σ H x v vl vu lo hi sl Q I rx hs pl pu q
def tSl (r : V → Option Int → Option Int → Hp → VK → Prop) (te : TE) (tl th : TO) : TE := fun σ H Q => te σ H fun x H1 => tl σ H1 fun l H2 => th σ H2 fun u H3 => r x l u H3 Q
/-- the items of xs[lo:hi] -/
def cutV (xs : List V) (lo hi : Option Int) : List V := (xs.drop (HT.sIx xs.length 0 lo)).take (HT.sIx xs.length xs.length hi - HT.sIx xs.length 0 lo)
/-- t[lo:hi], not the whole of it (the whole would be t itself) -/
def rSlT (K : PySem.W.Frag) : V → Option Int → Option Int → Hp → VK → Prop := fun x lo hi H Q => ∃ a xs, x = .ref a ∧ SqT K H a xs ∧
  ¬ (HT.sIx xs.length 0 lo = 0 ∧ HT.sIx xs.length xs.length hi = xs.length) ∧ ∀ p, H p = none → Q (.ref p) (upd H p (.tup (cutV xs lo hi)))
/-! ### t < u, t + u -/
def rLtT (K : PySem.W.Frag) : R2 := fun x y H Q => ∃ a b ns ms, x = .ref a ∧ y = .ref b ∧ SqT K H a (ns.map V.int) ∧ SqT K H b (ms.map V.int) ∧ Q (.bl (HT.lexLt ns ms)) H
/-- t + u, t not empty: u empty gives t itself -/
def rCatT (K : PySem.W.Frag) : R2 := fun x y H Q => ∃ a b xs ys, x = .ref a ∧ y = .ref b ∧ SqT K H a xs ∧ SqT K H b ys ∧ xs ≠ [] ∧ xs.length + ys.length ≤ sizeLine ∧
  (ys = [] → Q (.ref a) H) ∧ (ys ≠ [] → ∀ p, H p = none → Q (.ref p) (upd H p (.tup (xs ++ ys))))
theorem Vals.nil_iff {xs : List V} {us : List Value} (r : Vals xs us) : us = [] ↔ xs = [] := by
  cases r with
  | nil => simp
  | cons _ _ => simp
theorem op_catT : OpR X (binaryOp .Add) (rCatT X.K) := by
  intro pins s σ H x y v u Q I rx ry h
  obtain ⟨a, b, xs, ys, rfl, rfl, ha, hb, hx, hz, q1, q2⟩ := h
  cases rx
  cases ry
  obtain ⟨its, r1, p1, _⟩ := I.tuple ha
  obtain ⟨its2, r2, p2, _⟩ := I.tuple hb
  refine HT.cat_tup p1 p2 (fun z => hx (r1.nil_iff.mp z)) (fun z => ⟨.ref a, H, I, rfl, q1 (r2.nil_iff.mp z)⟩) (fun z => ?_) (by rw [← r1.length, ← r2.length]; exact hz)
  refine ⟨.ref s.heap.objs.size, _, I.laid (t' := s.toks) (o := .tup (xs ++ ys)) (fun b ob q => Heap.get?_push_of_some _ q) (Nat.le_refl _) ?_, rfl, q2 (fun w => z (r2.nil_iff.mpr w)) _ (I.hok.fresh (Nat.le_refl _))⟩
  exact ⟨by rw [List.length_append]; exact hz, _, r1.append r2, IsTup.new _ _, _, Heap.get?_push_size _ rfl, rfl⟩
end
end L2

namespace L2
open PySem PySem.Spec PyProof.Rows

/-! ### places -/
/-- the place that an index of any sign means -/
def ixN (n : Nat) (i : Int) : Option Nat := if 0 ≤ i then (if i < n then some i.toNat else none) else if -(n : Int) ≤ i then some (i + n).toNat else none
def atI {α : Type} (xs : List α) (i : Int) : Option α := (ixN xs.length i).bind fun j => xs[j]?
theorem ixN_seq {n : Nat} {i : Int} {j : Nat} (h : ixN n i = some j) : seqIndex? i n = some j ∧ j < n ∧ -(n : Int) ≤ i ∧ i < n := by
  unfold ixN at h
  by_cases h0 : 0 ≤ i
  · rw [if_pos h0] at h
    by_cases h1 : i < n
    · rw [if_pos h1] at h
      have e : i.toNat = j := Option.some.inj h
      exact ⟨by rw [seqIndex_of h0 h1, e], by omega, by omega, h1⟩
    · rw [if_neg h1] at h; cases h
  · rw [if_neg h0] at h
    by_cases h1 : -(n : Int) ≤ i
    · rw [if_pos h1] at h
      have e : (i + n).toNat = j := Option.some.inj h
      exact ⟨by rw [seqIndex_neg (by omega) h1, e], by omega, h1, by omega⟩
    · rw [if_neg h1] at h; cases h
theorem atI_get {α : Type} {xs : List α} {i : Int} {v : α} (h : atI xs i = some v) : ∃ j, seqIndex? i xs.length = some j ∧ xs[j]? = some v ∧ j < xs.length ∧ -(xs.length : Int) ≤ i ∧ i < xs.length := by
  unfold atI at h
  cases e : ixN xs.length i with
  | none => rw [e] at h; cases h
  | some j =>
    rw [e] at h
    obtain ⟨h1, h2, h3, h4⟩ := ixN_seq e
    exact ⟨j, h1, h, h2, h3, h4⟩
theorem atI_nat {α : Type} {xs : List α} {j : Nat} {v : α} (h : xs[j]? = some v) : atI xs (j : Int) = some v := by
  have hj : j < xs.length := (List.getElem?_eq_some_iff.mp h).1
  have e : ixN xs.length (j : Int) = some j := by
    unfold ixN
    rw [if_pos (by omega), if_pos (by omega)]; simp
  unfold atI; rw [e]; exact h
/-! ### what may be subscripted -/
/-- what stands as an index of a plain subscript -/
def PlainIx (b : Expr) : Prop := ∀ o i, subscripted b false o i = operate [o, i] (getItem o i)
/-- a subscript by values -/
def IxR (X : Cx) (r : R2) : Prop :=
  ∀ (value slice : Expr) (pins : List (Addr × Obj)) (s : Shared) (σ : St) (H : Hp) (x y : V) (v u : Value) (Q : VK), Inv X pins σ H s → RelV x v → RelV y u → r x y H Q →
    subscripted slice false v u = operate [v, u] (getItem v u) → wpAny (model X.prog X.w) X.A (subscriptTail value slice v u) (EP X pins σ Q) X.xe s
/-- a call of a builtin's method by values: the receiver, the arguments -/
def MtR (X : Cx) (id : String) (r : V → List V → Hp → VK → Prop) : Prop :=
  ∀ (pins : List (Addr × Obj)) (s : Shared) (σ : St) (H : Hp) (x : V) (xs : List V) (v : Value) (us : List Value) (Q : VK), Inv X pins σ H s → RelV x v → Vals xs us → r x xs H Q →
    wpAny (model X.prog X.w) X.A (call (.builtin id) (v :: us)) (EP X pins σ Q) X.xe s
section
variable {X : Cx} {a b : Expr} {ta tb : TE} {pos : Pos}
theorem IxR.or {r r' : R2} (h : IxR X r) (h' : IxR X r') : IxR X (fun x y H Q => r x y H Q ∨ r' x y H Q) := by
  intro value slice pins s σ H x y v u Q I rx ry q hs
  rcases q with q | q
  · exact h value slice pins s σ H x y v u Q I rx ry q hs
  · exact h' value slice pins s σ H x y v u Q I rx ry q hs
theorem MtR.or {id : String} {r r' : V → List V → Hp → VK → Prop} (h : MtR X id r) (h' : MtR X id r') : MtR X id (fun x xs H Q => r x xs H Q ∨ r' x xs H Q) := by
  intro pins s σ H x xs v us Q I rx rs q
  rcases q with q | q
  · exact h pins s σ H x xs v us Q I rx rs q
  · exact h' pins s σ H x xs v us Q I rx rs q
/-- a[b] -/
theorem pe_ix {r : R2} (hr : IxR X r) (ha : PE X a ta) (hb : PE X b tb) (hs : PlainIx b) : PE X (.Subscript a b pos) (tOp r ta tb) := by
  intro pins s σ H Q I h
  exact Subscript_ (binT ha hb I h fun v u s2 x y H2 I2 rx ry q => hr a b pins s2 σ H2 x y v u Q I2 rx ry q (hs _ _))

def rIxL (K : PySem.W.Frag) : R2 := fun x y H Q => ∃ p xs i v, x = .ref p ∧ y = .int i ∧ SqL K H p xs ∧ atI xs i = some v ∧ Q v H
def rIxT (K : PySem.W.Frag) : R2 := fun x y H Q => ∃ p xs i v, x = .ref p ∧ y = .int i ∧ SqT K H p xs ∧ atI xs i = some v ∧ Q v H
def rIxS : R2 := fun x y H Q => ∃ z i c, x = .str z ∧ y = .int i ∧ z.length ≤ sizeLine ∧ atI z.cps.toList i = some c ∧ Q (.str ⟨#[c]⟩) H
theorem ix_list : IxR X (rIxL X.K) := by
  intro value slice pins s σ H x y v u Q I rx ry h hs
  obtain ⟨p, xs, i, z, rfl, rfl, hq, he, q⟩ := h
  cases rx
  obtain ⟨t, rfl⟩ := ry
  obtain ⟨its, r, pl, hz⟩ := I.list hq
  obtain ⟨j, h1, h2, h3, h4, h5⟩ := atI_get he
  obtain ⟨w, ew, rw'⟩ := r.get h2
  have hl := r.length
  have hn := line63
  have fin : EP X pins σ Q w s := ⟨z, H, I, rw', q⟩
  by_cases h0 : 0 ≤ i
  · have hj : i.toNat = j := by
      rw [seqIndex_of h0 h5] at h1
      exact Option.some.inj h1
    exact item_listR pl.isList h0 (by omega) (by rw [hj]; simpa using ew) fin hs
  · have hj : (i + (its.toArray.size : Int)).toNat = j := by
      rw [seqIndex_neg (by omega) h4] at h1
      rw [List.size_toArray, ← hl]
      exact Option.some.inj h1
    exact subscriptTail_builtinR (x := w) pl.isList.typeIs slot_list_getitem.lookup
      (wpAny_getItem_list_neg (Q := fun r s' => r = w ∧ EP X pins σ Q r s') pl.isList (by omega) (by rw [List.size_toArray] <;> omega) (by omega) (by rw [hj]; simpa using ew) ⟨rfl, fin⟩) hs
theorem ix_tup : IxR X (rIxT X.K) := by
  intro value slice pins s σ H x y v u Q I rx ry h hs
  obtain ⟨p, xs, i, z, rfl, rfl, hq, he, q⟩ := h
  cases rx
  obtain ⟨t, rfl⟩ := ry
  obtain ⟨its, r, pl, hz⟩ := I.tuple hq
  obtain ⟨j, h1, h2, h3, h4, h5⟩ := atI_get he
  obtain ⟨w, ew, rw'⟩ := r.get h2
  have hl := r.length
  have hn := line63
  have fin : EP X pins σ Q w s := ⟨z, H, I, rw', q⟩
  exact subscriptTail_builtinR (x := w) pl.typeIs slot_tuple_getitem.lookup
    (getItem_tuple (j := j) (Q := fun r s' => r = w ∧ EP X pins σ Q r s') pl (by omega) (by omega) (by rw [List.size_toArray, ← hl]; exact h1) (by simpa using ew) ⟨rfl, fin⟩) hs
/-- list, tuple or str -/
def rIx (K : PySem.W.Frag) : R2 := fun x y H Q => rIxL K x y H Q ∨ rIxT K x y H Q ∨ rIxS x y H Q
/-! ### xs[i] = v, any sign -/
/-- the list's object behind a store -/
theorem mapSeq_set (its : List Value) (n j : Nat) (u : Value) : Obj.mapSeq (·.setIfInBounds j u) { cls := .type "list", data := .seq its.toArray n } = { cls := .type "list", data := .seq (its.set j u).toArray n } := by
  simp [Obj.mapSeq]
theorem Inv.lst {pins : List (Addr × Obj)} {σ : St} {H : Hp} {s : Shared} {p : Addr} {xs : List V} (I : Inv X pins σ H s) (h : H p = some (.lst xs)) :
    ∃ (its : List Value) (n : Nat), Vals xs its ∧ s.heap.get? p = some { cls := .type "list", data := .seq its.toArray n } ∧ xs.length ≤ sizeLine := by
  obtain ⟨z, its, n, r, e⟩ := I.hok p _ h
  exact ⟨its, n, r, e, z⟩
/-- the list at p is written by an update of its object -/
theorem Inv.lstUpd {pins : List (Addr × Obj)} {σ : St} {H : Hp} {s : Shared} {p : Addr} {xs ys : List V} {its its' : List Value} {n n' : Nat} {f : Obj → Obj} (I : Inv X pins σ H s) (h : H p = some (.lst xs))
    (ho : s.heap.get? p = some { cls := .type "list", data := .seq its.toArray n }) (hf : f { cls := .type "list", data := .seq its.toArray n } = { cls := .type "list", data := .seq its'.toArray n' }) (r : Vals ys its') (hz : ys.length ≤ sizeLine) (t : Nat) :
    Inv X pins σ (upd H p (.lst ys)) { s with heap := s.heap.update p f, toks := t } := by
  have e : (s.heap.update p f).get? p = some { cls := .type "list", data := .seq its'.toArray n' } := by
    rw [Heap.get?_update_self f ho (by rw [hf] <;> rfl), hf]
  refine I.write (x := p) (e := p) (by rw [h]; trivial) (.inl rfl) (fun b u hb q => (Heap.get?_update_other _ _ (Ne.symm hb)).trans q) ⟨_, e⟩ ?_
  exact ⟨hz, its', n', r, e⟩
def rSetL : V → V → V → Hp → (Hp → Prop) → Prop := fun o i v H Q => ∃ p xs k j, o = .ref p ∧ i = .int k ∧ H p = some (.lst xs) ∧ ixN xs.length k = some j ∧ Q (upd H p (.lst (xs.set j v)))
theorem set_list : PSet X rSetL := by
  intro pins s σ H o i v ov iv u Q I ro ri rv h
  obtain ⟨p, xs, k, j, rfl, rfl, hp, hj, q⟩ := h
  cases ro
  obtain ⟨t, rfl⟩ := ri
  obtain ⟨its, n, r, ho, hz⟩ := I.lst hp
  obtain ⟨h1, h2, h3, h4⟩ := ixN_seq hj
  have hl := r.length
  have hn := line63
  have I' : Inv X pins σ (upd H p (.lst (xs.set j v))) { s with heap := s.heap.update p (Obj.mapSeq (·.setIfInBounds j u)) } :=
    I.lstUpd hp ho (mapSeq_set its n j u) (r.set rv j) (by rw [List.length_set]; exact hz) s.toks
  by_cases h0 : 0 ≤ k
  · have hk : k.toNat = j := by
      rw [seqIndex_of h0 h4] at h1
      exact Option.some.inj h1
    exact PySem.W.ki_setAt ho h0 (by omega) (by rw [List.size_toArray, ← hl]; exact h4) (by rw [hk]; exact ⟨_, I', q⟩)
  · have hk : (k + (its.toArray.size : Int)).toNat = j := by
      rw [seqIndex_neg (by omega) h3] at h1
      rw [List.size_toArray, ← hl]
      exact Option.some.inj h1
    exact PySem.W.ki_setBack ho (by omega) (by rw [List.size_toArray, ← hl]; exact h3) (by omega) (by rw [hk]; exact ⟨_, I', q⟩)

/-! ### slices -/
/-- xs[lo:hi] of a list: a new list -/
def rSlL (K : PySem.W.Frag) : V → Option Int → Option Int → Hp → VK → Prop := fun x lo hi H Q => ∃ a xs, x = .ref a ∧ SqL K H a xs ∧ ∀ p, H p = none → Q (.ref p) (upd H p (.lst (cutV xs lo hi)))
/-! ### in, not in: flat items -/
def flatV : V → Bool
  | .non => true
  | .bl _ => true
  | .int _ => true
  | .str _ => true
  | _ => false
/-- == of flat values -/
def eqV : V → V → Bool
  | .non, .non => true
  | .bl a, .bl b => a == b
  | .bl a, .int b => (if a then 1 else 0) == b
  | .int a, .bl b => a == (if b then 1 else 0)
  | .int a, .int b => a == b
  | .str a, .str b => a == b
  | _, _ => false
theorem eqAt_V {A : Around} {s : Shared} {y x : V} {u v : Value} (ry : RelV y u) (rx : RelV x v) (fy : flatV y = true) (fx : flatV x = true) : SeqAt.EqAt A s u v (eqV y x) := by
  cases y with
  | non =>
    cases ry
    cases x with
    | non => cases rx; exact SeqAt.EqAt.same _
    | bl b => cases rx; exact SeqAt.EqAt.none_bool b
    | int b => obtain ⟨t, rfl⟩ := rx; exact SeqAt.EqAt.none_int b t
    | str b => obtain ⟨t, rfl⟩ := rx; exact SeqAt.EqAt.none_str b t
    | _ => exact absurd (show false = true from fx) Bool.false_ne_true
  | bl a =>
    cases ry
    cases x with
    | non => cases rx; exact SeqAt.EqAt.bool_none a
    | bl b => cases rx; exact SeqAt.EqAt.bool_bool a b
    | int b => obtain ⟨t, rfl⟩ := rx; exact SeqAt.EqAt.bool_int a b t
    | str b => obtain ⟨t, rfl⟩ := rx; exact SeqAt.EqAt.bool_str a b t
    | _ => exact absurd (show false = true from fx) Bool.false_ne_true
  | int a =>
    obtain ⟨t', rfl⟩ := ry
    cases x with
    | non => cases rx; exact SeqAt.EqAt.int_none a t'
    | bl b => cases rx; exact SeqAt.EqAt.int_bool a t' b
    | int b => obtain ⟨t, rfl⟩ := rx; exact SeqAt.EqAt.int_int a t' b t
    | str b => obtain ⟨t, rfl⟩ := rx; exact SeqAt.EqAt.int_str a t' b t
    | _ => exact absurd (show false = true from fx) Bool.false_ne_true
  | str a =>
    obtain ⟨t', rfl⟩ := ry
    cases x with
    | non => cases rx; exact SeqAt.EqAt.str_none a t'
    | bl b => cases rx; exact SeqAt.EqAt.str_bool a t' b
    | int b => obtain ⟨t, rfl⟩ := rx; exact SeqAt.EqAt.str_int a t' b t
    | str b => obtain ⟨t, rfl⟩ := rx; exact SeqAt.EqAt.str_str a t' b t
    | _ => exact absurd (show false = true from fx) Bool.false_ne_true
  | _ => exact absurd (show false = true from fy) Bool.false_ne_true
/-- the items' answers, read off the values (a value's own answer does not lean on its token) -/
def eqU (x : V) (u : Value) : Bool := match u with
  | .none => eqV .non x
  | .bool b => eqV (.bl b) x
  | .int i _ => eqV (.int i) x
  | .str z _ => eqV (.str z) x
  | _ => false
theorem eqU_of {x y : V} {u : Value} (r : RelV y u) (f : flatV y = true) : eqU x u = eqV y x := by
  cases y with
  | non => cases r; rfl
  | bl b => cases r; rfl
  | int i => obtain ⟨t, rfl⟩ := r; rfl
  | str z => obtain ⟨t, rfl⟩ := r; rfl
  | _ => exact absurd (show false = true from f) Bool.false_ne_true
theorem any_eqU {x : V} : ∀ {xs : List V} {us : List Value}, Vals xs us → xs.all flatV = true → us.any (eqU x) = xs.any fun y => eqV y x
  | _, _, .nil, _ => rfl
  | y :: xs, u :: us, .cons r t, f => by
    rw [List.all_cons, Bool.and_eq_true] at f
    rw [List.any_cons, List.any_cons, eqU_of r f.1, any_eqU t f.2]
theorem mem_eqAt {A : Around} {s : Shared} {x : V} {v : Value} (rx : RelV x v) (fx : flatV x = true) : ∀ {xs : List V} {us : List Value}, Vals xs us → xs.all flatV = true → ∀ u ∈ us, SeqAt.EqAt A s u v (eqU x u)
  | _, _, .nil, _ => fun u hu => by cases hu
  | y :: xs, u :: us, .cons r t, f => fun u' hu => by
    rw [List.all_cons, Bool.and_eq_true] at f
    rcases List.mem_cons.mp hu with rfl | hu
    · rw [eqU_of r f.1]; exact eqAt_V r rx f.1 fx
    · exact mem_eqAt rx fx t f.2 u' hu
def inV (x : V) (xs : List V) : Bool := xs.any fun y => eqV y x
/-- x in a list or tuple of flat items -/
def rIn (K : PySem.W.Frag) (neg : Bool) : R2 := fun x y H Q => ∃ p xs, y = .ref p ∧ (SqL K H p xs ∨ SqT K H p xs) ∧ flatV x = true ∧ xs.all flatV = true ∧ Q (.bl (if neg then !inV x xs else inV x xs)) H
theorem op_in_seq : OpR X (compareOp .In) (rIn X.K false) := by
  intro pins s σ H x y v u Q I rx ry h
  obtain ⟨p, xs, rfl, hq, fx, fs, q⟩ := h
  cases ry
  rcases hq with hq | hq
  · obtain ⟨its, r, pl, hz⟩ := I.list hq
    refine SeqAt.in_listAt (eqU x) pl.isList (fun w hw => mem_eqAt rx fx r fs w (by simpa using hw)) ⟨.bl _, H, I, rfl, ?_⟩
    rw [show its.toArray.any (eqU x) = its.any (eqU x) by simp, any_eqU r fs]
    exact q
  · obtain ⟨its, r, pl, hz⟩ := I.tuple hq
    refine SeqAt.in_tupleAt (eqU x) pl (fun w hw => mem_eqAt rx fx r fs w (by simpa using hw)) ⟨.bl _, H, I, rfl, ?_⟩
    rw [show its.toArray.any (eqU x) = its.any (eqU x) by simp, any_eqU r fs]
    exact q
/-! ### len, list(x), tuple(x) of any list or tuple that is read -/
theorem call_len_seq : CallR X (.builtin "len") (fun xs H Q => ∃ p ys, xs = [.ref p] ∧ (SqL X.K H p ys ∨ SqT X.K H p ys) ∧ Q (.int ys.length) H) := by
  intro pins s σ H xs us Q I r h
  obtain ⟨p, ys, rfl, hq, q⟩ := h
  obtain ⟨u, rfl, rx⟩ := vals1 r
  cases rx
  have hn := line63
  rcases hq with hq | hq
  · obtain ⟨its, r', pl, hz⟩ := I.list hq
    have hlen := r'.length
    exact Calls.call_len_list pl.isList (by simp only [List.size_toArray] <;> omega) ⟨.int ys.length, H, I.tok _, ⟨s.toks + 1, by rw [List.size_toArray, hlen]⟩, q⟩
  · obtain ⟨its, r', pl, hz⟩ := I.tuple hq
    have hlen := r'.length
    exact len_tuple pl (by simp only [List.size_toArray] <;> omega) ⟨.int ys.length, H, I.tok _, ⟨s.toks + 1, by rw [List.size_toArray, hlen]⟩, q⟩
theorem CallR.or {f : Value} {r r' : List V → Hp → VK → Prop} (h : CallR X f r) (h' : CallR X f r') : CallR X f (fun xs H Q => r xs H Q ∨ r' xs H Q) := by
  intro pins s σ H xs us Q I rs q
  rcases q with q | q
  · exact h pins s σ H xs us Q I rs q
  · exact h' pins s σ H xs us Q I rs q
theorem call_list_of : CallR X (.type "list") (fun xs H Q => ∃ p ys, xs = [.ref p] ∧ (SqL X.K H p ys ∨ SqT X.K H p ys) ∧ ∀ l, H l = none → Q (.ref l) (upd H l (.lst ys))) := by
  intro pins s σ H xs us Q I r h
  obtain ⟨p, ys, rfl, hq, q⟩ := h
  obtain ⟨u, rfl, rx⟩ := vals1 r
  cases rx
  have fin : ∀ (its : List Value), Vals ys its → ys.length ≤ sizeLine → ∀ (h' : Heap) (c' : Nat), (∀ b o', s.heap.get? b = some o' → h'.get? b = some o') →
      h'.get? s.heap.objs.size = some { cls := .type "list", dict := none, data := .seq its.toArray c', slots := #[] } → EP X pins σ Q (.ref s.heap.objs.size) { s with heap := h' } := fun its r' hz h' c' kp e =>
    ⟨.ref s.heap.objs.size, _, I.laid (t' := s.toks) kp (Nat.le_refl _) (show ObjOk X.prog X.w _ h' _ (.lst ys) from ⟨hz, its, c', r', e⟩), rfl, q _ (I.hok.fresh (Nat.le_refl _))⟩
  rcases hq with hq | hq
  · obtain ⟨its, r', pl, hz⟩ := I.list hq
    have hlen := r'.length
    obtain ⟨o, ho, hc, n, hd⟩ := pl.isList
    exact call_list_seq p (.inl rfl) ho hc hd (fun h' c' kp e => fin its r' hz h' c' kp e) (by simp only [List.size_toArray] <;> omega)
  · obtain ⟨its, r', pl, hz⟩ := I.tuple hq
    have hlen := r'.length
    obtain ⟨o, ho, hc, n, hd⟩ := pl
    exact call_list_seq p (.inr rfl) ho hc hd (fun h' c' kp e => fin its r' hz h' c' kp e) (by simp only [List.size_toArray] <;> omega)
theorem call_tuple_of : CallR X (.type "tuple") (fun xs H Q => ∃ p ys, xs = [.ref p] ∧ ((SqL X.K H p ys ∧ ∀ l, H l = none → Q (.ref l) (upd H l (.tup ys))) ∨ (SqT X.K H p ys ∧ Q (.ref p) H))) := by
  intro pins s σ H xs us Q I r h
  obtain ⟨p, ys, rfl, h⟩ := h
  obtain ⟨u, rfl, rx⟩ := vals1 r
  cases rx
  rcases h with ⟨hq, q⟩ | ⟨hq, q⟩
  · obtain ⟨its, r', pl, hz⟩ := I.list hq
    have hlen := r'.length
    refine call_tuple_list pl.isList (fun h' kp => ?_) (by simp only [List.size_toArray] <;> omega)
    have I1 : Inv X pins σ H { s with heap := h' } := I.kept (t' := s.toks) kp
    have I2 : Inv X pins σ (upd H h'.objs.size (.tup ys)) { s with heap := h'.push { cls := .type "tuple", data := .seq its.toArray } } :=
      I1.laid (t' := s.toks) (fun b o e => Heap.get?_push_of_some _ e) (Nat.le_refl _) (show ObjOk X.prog X.w _ _ _ (.tup ys) from ⟨hz, its, r', IsTup.new _ _, _, Heap.get?_push_size _ rfl, rfl⟩)
    exact ⟨.ref h'.objs.size, _, I2, rfl, q _ (I1.hok.fresh (Nat.le_refl _))⟩
  · obtain ⟨its, r', pl, hz⟩ := I.tuple hq
    exact call_tuple_same pl ⟨.ref p, H, I, rfl, q⟩

/-! ### the call of a builtin's method: o.m(..) -/
/-- the value is of that builtin type -/
def tyV (K : PySem.W.Frag) (T : String) (x : V) (H : Hp) : Prop := match x with
  | .str _ => T = "str"
  | .int _ => T = "int"
  | .ref p => (T = "list" ∧ ∃ xs, SqL K H p xs) ∨ (T = "tuple" ∧ ∃ o, K.lookup p = some o ∧ o.cls = .type "tuple" ∧ o.dict = none) ∨
      (T = "dict" ∧ ((∃ kvs, H p = some (.dK kvs)) ∨ ∃ kvs, H p = some (.dT kvs))) ∨ (T = "set" ∧ ∃ S n, H p = some (.set S n))
  | _ => False
theorem tyV_is {pins : List (Addr × Obj)} {σ : St} {H : Hp} {s : Shared} {T : String} {x : V} {v : Value} (I : Inv X pins σ H s) (r : RelV x v) (ty : tyV X.K T x H) :
    s.TypeIs v T ∧ ∀ a, v = .ref a → ∃ ob, s.heap.get? a = some ob ∧ ob.dict = none := by
  cases x with
  | str z =>
    obtain ⟨t, rfl⟩ := r
    cases (show T = "str" from ty)
    exact ⟨typeIs_str s z t, fun _ e => nomatch e⟩
  | int i =>
    obtain ⟨t, rfl⟩ := r
    cases (show T = "int" from ty)
    exact ⟨typeIs_int s i t, fun _ e => nomatch e⟩
  | ref p =>
    cases r
    rcases ty with ⟨rfl, xs, hq⟩ | ⟨rfl, o, hk, hc, hd⟩ | ⟨rfl, hk⟩ | ⟨rfl, S, n, hk⟩
    · obtain ⟨its, _, pl, _⟩ := I.list hq
      refine ⟨pl.isList.typeIs, fun a e => ?_⟩
      cases e
      obtain ⟨o, n, e, c, hd, _⟩ := pl
      exact ⟨o, e, hd⟩
    · refine ⟨⟨o, I.kIn p o hk, hc⟩, fun a e => ?_⟩
      cases e
      exact ⟨o, I.kIn _ o hk, hd⟩
    · have z : ∃ o, s.heap.get? p = some o ∧ o.ExactDict := by
        rcases hk with ⟨kvs, hk⟩ | ⟨kvs, hk⟩
        · obtain ⟨_, _, _, _, o, _, _, e, ex, _⟩ := I.hok p _ hk
          exact ⟨o, e, ex⟩
        · obtain ⟨_, _, _, _, o, _, _, e, ex, _⟩ := I.hok p _ hk
          exact ⟨o, e, ex⟩
      obtain ⟨o, e, ex⟩ := z
      refine ⟨⟨o, e, ex.1⟩, fun a e2 => ?_⟩
      cases e2
      exact ⟨o, e, ex.2.1⟩
    · obtain ⟨o, _, _, _, e, ex, _⟩ := I.hok p _ hk
      refine ⟨⟨o, e, ex.1⟩, fun a e2 => ?_⟩
      cases e2
      exact ⟨o, e, ex.2.1⟩
  | _ => exact False.elim ty
def tBM0 (K : PySem.W.Frag) (T : String) (r : V → List V → Hp → VK → Prop) (to : TE) : TE := fun σ H Q => to σ H fun x H1 => tyV K T x H1 ∧ r x [] H1 Q
def tBM (K : PySem.W.Frag) (T : String) (r : V → List V → Hp → VK → Prop) (to : TE) (t : TA) : TE := fun σ H Q => to σ H fun x H1 => tyV K T x H1 ∧ t σ H1 fun xs H2 => r x xs H2 Q
variable {o e : Expr} {es : List Expr} {to : TE} {t : TA} {name : Str} {apos cpos : Pos} {T id : String} {r : V → List V → Hp → VK → Prop}
theorem pe_bm (pa : PlainAttrs T) (slot : Slot T name id) (hty : typeOf (.builtin id) = pure (.type "method_descriptor")) (hm : MtR X id r) (ho : PE X o to) (ha : PA X (e :: es) t)
    (hbase : attributeBase o name X.env (eval o X.env) = eval o X.env := by rfl)
    (hfew : ((backTo cpos (starEach (e :: es) X.env)).all (fun x => !x.1) && (backToKw cpos (keywordEach [] X.env)).all (fun x => x.1.isSome)
      && decide ((e :: es).length + ([] : List Keyword).length + (if ([] : List Keyword).isEmpty then 0 else 1) < 30)) = true := by rfl)
    (hline : (apos.endLine == cpos.line) = true := by rfl) (hs : starEach (e :: es) X.env = (false, eval e X.env) :: starEach es X.env := by rfl) (hplain : (backTo cpos (starEach es X.env)).any (·.1) = false := by rfl) :
    PE X (.Call (.Attribute o name apos) (e :: es) [] cpos) (tBM X.K T r to t) := by
  intro pins s σ H Q I h
  refine wpAny_Call_method_late hbase hfew hline rfl (thn (ho pins s σ H _ I h) fun v s1 ⟨x, H1, I1, r1, ty, q1⟩ => ?_)
  obtain ⟨h1, h2⟩ := tyV_is I1 r1 ty
  refine ⟨T, id, pa, slot, hty, h1, h2, ?_⟩
  have hA := ha cpos pins s1 σ H1 _ I1 q1
  rw [hs] at hA ⊢
  refine Calls.callWith_builtin (by show (false || (backTo cpos (starEach es X.env)).any (·.1)) = false; rw [hplain] <;> rfl) (Calls.evalArgs_plain ?_)
  exact thn hA fun us s2 ⟨vs, H2, I2, r2, q2⟩ => hm pins s2 σ H2 x vs v us Q I2 r1 r2 q2
/- xs.append(e), list.index on a module's tuple .. are MtR facts of 06m -/
end
end L2

namespace L2
open PySem PySem.Spec PyProof.Rows

def MtM (X : Cx) (id : String) (r : V → List V → Hp → VK → Prop) : Prop :=
  ∀ (pins : List (Addr × Obj)) (s : Shared) (σ : St) (H : Hp) (x : V) (xs : List V) (v : Value) (us : List Value) (Q : VK), Inv X pins σ H s → RelV x v → Vals xs us → r x xs H Q →
    wpAny (model X.prog X.w) X.A (call (.builtin id) (v :: us)) (EP X pins σ Q) X.xe s

/-! ### lists of values -/
theorem Vals.one : ∀ {x : V} {us : List Value}, Vals [x] us → ∃ u, us = [u] ∧ RelV x u
  | _, _, .cons r .nil => ⟨_, rfl, r⟩
theorem Vals.two : ∀ {x y : V} {us : List Value}, Vals [x, y] us → ∃ u v, us = [u, v] ∧ RelV x u ∧ RelV y v
  | _, _, _, .cons r (.cons q .nil) => ⟨_, _, rfl, r, q⟩
theorem Vals.zero : ∀ {us : List Value}, Vals [] us → us = []
  | _, .nil => rfl
theorem Vals.dropLast {xs : List V} {us : List Value} (h : Vals xs us) : Vals xs.dropLast us.dropLast := by
  induction h with
  | nil => exact .nil
  | cons r t ih =>
    cases t with
    | nil => exact .nil
    | cons q t' => exact .cons r ih
theorem Vals.eraseIdx : ∀ {xs : List V} {us : List Value} (i : Nat), Vals xs us → Vals (xs.eraseIdx i) (us.eraseIdx i)
  | _, _, _, .nil => .nil
  | _, _, 0, .cons _ t => t
  | _, _, i + 1, .cons r t => .cons r (Vals.eraseIdx i t)
theorem Vals.reverse {xs : List V} {us : List Value} (h : Vals xs us) : Vals xs.reverse us.reverse := by
  induction h with
  | nil => exact .nil
  | cons r t ih => rw [List.reverse_cons, List.reverse_cons]; exact Vals.append ih (.cons r .nil)
section
variable {X : Cx} {pins : List (Addr × Obj)} {σ : St} {H : Hp} {s : Shared} {l b : Addr} {xs ys zs : List V}

/-! ### the two steps: a tracked list is rewritten, a new list is laid -/
theorem Inv.lset {its its' : List Value} {n : Nat} {f : Array Value → Array Value} {t' : Nat} (I : Inv X pins σ H s) (hH : H l = some (.lst xs))
    (e : s.heap.get? l = some { cls := .type "list", data := .seq its.toArray n }) (hf : f its.toArray = its'.toArray) (hv : Vals ys its') (hz : ys.length ≤ sizeLine) :
    Inv X pins σ (upd H l (.lst ys)) { s with heap := s.heap.update l (Obj.mapSeq f), toks := t' } := by
  have q := PySem.IsL.update e f
  rw [hf] at q
  refine I.write (x := l) (e := l) (by rw [hH]; exact trivial) (.inl rfl) (fun b' u hb hu => (Heap.get?_update_other s.heap (Obj.mapSeq f) (Ne.symm hb)).trans hu) ⟨_, q⟩ ?_
  exact ⟨hz, its', _, hv, q⟩
theorem Inv.fresh (I : Inv X pins σ H s) : H s.heap.objs.size = none := I.hok.fresh (Nat.le_refl _)
theorem Inv.lstM (I : Inv X pins σ H s) (hH : H l = some (.lst xs)) : xs.length ≤ sizeLine ∧ ∃ (its : List Value) (n : Nat), Vals xs its ∧ xs.length = its.length ∧ s.heap.get? l = some { cls := .type "list", data := .seq its.toArray n } := by
  obtain ⟨z, its, n, r, e⟩ := I.hok l _ hH
  exact ⟨z, its, n, r, r.length, e⟩

theorem notLongL {n : Nat} (h : n ≤ sizeLine) : Builtin.List.listTooLong n = false := by
  unfold Builtin.List.listTooLong
  exact decide_eq_false (by omega)
end

section
variable {X : Cx}

/-! ### methods -/
def rAppend : V → List V → Hp → VK → Prop := fun x vs H Q => ∃ l xs y, x = .ref l ∧ vs = [y] ∧ H l = some (.lst xs) ∧ xs.length < sizeLine ∧ Q .non (upd H l (.lst (xs ++ [y])))
theorem mt_append : MtM X "list.append" rAppend := by
  intro pins s σ H x vs v us Q I rx rv h
  obtain ⟨l, xs, y, rfl, rfl, hH, hz, q⟩ := h
  cases rx
  obtain ⟨u, rfl, ru⟩ := rv.one
  obtain ⟨z, its, n, r, hl, e⟩ := I.lstM hH
  refine call_meets F.slot_list_append ⟨_, e, rfl⟩ F.entry_list_append (F.args_list_append_2 _ _) (PySem.list_append l its.toArray n u (by rw [List.size_toArray]; omega)) ⟨e, ?_⟩
  refine ⟨.non, _, I.lset (its' := its ++ [u]) hH e (by simp) (r.append (.cons ru .nil)) ?_, rfl, q⟩
  rw [List.length_append, List.length_singleton]
  omega

def rExtend : V → List V → Hp → VK → Prop := fun x vs H Q => ∃ l b xs zs, x = .ref l ∧ vs = [.ref b] ∧ H l = some (.lst xs) ∧ H b = some (.lst zs) ∧ xs.length + zs.length ≤ sizeLine ∧ Q .non (upd H l (.lst (xs ++ zs)))
theorem mt_extend : MtM X "list.extend" rExtend := by
  intro pins s σ H x vs v us Q I rx rv h
  obtain ⟨l, b, xs, zs, rfl, rfl, hH, hB, hz, q⟩ := h
  cases rx
  obtain ⟨u, rfl, ru⟩ := rv.one
  cases ru
  obtain ⟨z, its, n, r, hl, e⟩ := I.lstM hH
  obtain ⟨z2, its2, n2, r2, hl2, e2⟩ := I.lstM hB
  have hsz : its.toArray.size + its2.toArray.size ≤ sizeLine := by rw [List.size_toArray, List.size_toArray]; omega
  have hlong : ¬ (!its.toArray.isEmpty && Builtin.List.listTooLong (its.toArray.size + its2.toArray.size)) = true := by
    rw [notLongL hsz, Bool.and_false]
    exact Bool.false_ne_true
  refine call_meets F.slot_list_extend ⟨_, e, rfl⟩ F.entry_list_extend (F.args_list_extend_2 _ _)
    (AutoSeq1.list_extend_list_list_0 l its.toArray n b its2.toArray n2 hlong (by rw [List.size_toArray]; omega) (by omega)) ⟨e, e2, ?_⟩
  refine ⟨.non, _, I.lset (its' := its ++ its2) hH e (by simp) (r.append r2) ?_, rfl, q⟩
  rw [List.length_append]
  omega

def rPop : V → List V → Hp → VK → Prop := fun x vs H Q => ∃ l xs y, x = .ref l ∧ vs = [] ∧ H l = some (.lst xs) ∧ xs[xs.length - 1]? = some y ∧ Q y (upd H l (.lst xs.dropLast))
def rPopAt : V → List V → Hp → VK → Prop := fun x vs H Q => ∃ l xs i k y, x = .ref l ∧ vs = [.int i] ∧ H l = some (.lst xs) ∧ -(2 ^ 63) ≤ i ∧ i < 2 ^ 63 ∧ seqIndex? i xs.length = some k ∧ xs[k]? = some y ∧ Q y (upd H l (.lst (xs.eraseIdx k)))
def rReverse : V → List V → Hp → VK → Prop := fun x vs H Q => ∃ l xs, x = .ref l ∧ vs = [] ∧ H l = some (.lst xs) ∧ Q .non (upd H l (.lst xs.reverse))
def rClear : V → List V → Hp → VK → Prop := fun x vs H Q => ∃ l xs, x = .ref l ∧ vs = [] ∧ H l = some (.lst xs) ∧ Q .non (upd H l (.lst []))
/-! ### list + list, list += list, list * int -/
def rCat : R2 := fun x y H Q => ∃ l b xs zs, x = .ref l ∧ y = .ref b ∧ H l = some (.lst xs) ∧ H b = some (.lst zs) ∧ xs.length + zs.length ≤ sizeLine ∧ ∀ p, H p = none → Q (.ref p) (upd H p (.lst (xs ++ zs)))
/-- a list times an int (a negative one is nothing) -/
def rRep : R2 := fun x y H Q => ∃ l k xs, x = .ref l ∧ y = .int k ∧ H l = some (.lst xs) ∧ -(2 ^ 63) ≤ k ∧ k < 2 ^ 63 ∧ xs.length * k.toNat ≤ sizeLine ∧
  ∀ p, H p = none → Q (.ref p) (upd H p (.lst (List.replicate k.toNat xs).flatten))
/-! ### del xs[i] -/
end

/-! ### xs[a:b] = ys -/
section
variable {prog : Program} {w : World} {A : Around} {E : Value → Shared → Prop} {s : Shared}
end

section
variable {X : Cx}
end
end L2

namespace L2
open PySem PySem.Spec PyProof.Rows

/-! ### lists of pairs as tables -/
section
variable {κ : Type} [DecidableEq κ]
def valV (kvs : List (κ × V)) (k : κ) : Option V := (kvs.find? fun kv => decide (kv.1 = k)).map (·.2)
/-- in its place, or at the end -/
def putK (kvs : List (κ × V)) (k : κ) (v : V) : List (κ × V) :=
  if (kvs.any fun kv => decide (kv.1 = k)) = true then kvs.map (fun kv => if kv.1 = k then (kv.1, v) else kv) else kvs ++ [(k, v)]
def dropK (kvs : List (κ × V)) (k : κ) : List (κ × V) := kvs.filter fun kv => decide (kv.1 ≠ k)

theorem valV_pos {p : κ × V} {r : List (κ × V)} {k : κ} (e : p.1 = k) : valV (p :: r) k = some p.2 := by simp [valV, List.find?_cons, e]
theorem valV_neg {p : κ × V} {r : List (κ × V)} {k : κ} (e : ¬ p.1 = k) : valV (p :: r) k = valV r k := by simp [valV, List.find?_cons, e]
theorem valV_any (k : κ) : ∀ kvs : List (κ × V), (kvs.any fun kv => decide (kv.1 = k)) = (valV kvs k).isSome
  | [] => rfl
  | p :: r => by
    rw [List.any_cons]
    by_cases e : p.1 = k
    · simp only [valV_pos e, decide_eq_true e, Bool.true_or, Option.isSome_some]
    · rw [valV_neg e, decide_eq_false e, Bool.false_or]; exact valV_any k r
theorem length_putK (kvs : List (κ × V)) (k : κ) (v : V) : (putK kvs k v).length ≤ kvs.length + 1 := by
  unfold putK
  split
  · rw [List.length_map]; omega
  · rw [List.length_append, List.length_cons, List.length_nil]; omega
theorem RelO.isSome_eq {o : Option V} {u : Option Value} (r : RelO o u) : o.isSome = u.isSome := by
  cases o with
  | none => cases u with
    | none => rfl
    | some _ => exact (show False from r).elim
  | some _ => cases u with
    | none => exact (show False from r).elim
    | some _ => rfl
theorem RelO.getD {o : Option V} {u : Option Value} {d : V} {d' : Value} (r : RelO o u) (rd : RelV d d') : RelV (o.getD d) (u.getD d') := by
  cases o with
  | none => cases u with
    | none => exact rd
    | some _ => exact (show False from r).elim
  | some _ => cases u with
    | none => exact (show False from r).elim
    | some _ => exact r

/-- raw tables of the same keys -/
theorem KV.val {kvs : List (κ × V)} {vs : List (κ × Value)} (r : KV kvs vs) (k : κ) : RelO (valV kvs k) (valueAt vs k) := by
  unfold KV at r
  induction r with
  | nil => exact True.intro
  | @cons p q ps qs h t ih =>
    obtain ⟨h1, h2⟩ := h
    by_cases e : p.1 = k
    · have e' : q.1 = k := h1.symm.trans e
      have b : valueAt (q :: qs) k = some q.2 := by simp [valueAt, List.find?_cons, e']
      rw [valV_pos e, b]; exact h2
    · have e' : ¬ q.1 = k := fun z => e (h1.trans z)
      have b : valueAt (q :: qs) k = valueAt qs k := by simp [valueAt, List.find?_cons, e']
      rw [valV_neg e, b]; exact ih
theorem KV.any {kvs : List (κ × V)} {vs : List (κ × Value)} (r : KV kvs vs) (k : κ) : (kvs.any fun kv => decide (kv.1 = k)) = vs.any fun kv => decide (kv.1 = k) := by
  unfold KV at r
  induction r with
  | nil => rfl
  | cons h t ih => rw [List.any_cons, List.any_cons, ih, h.1]
theorem KV.repl {kvs : List (κ × V)} {vs : List (κ × Value)} (r : KV kvs vs) (k : κ) {y : V} {u : Value} (ry : RelV y u) :
    KV (kvs.map fun kv => if kv.1 = k then (kv.1, y) else kv) (vs.map fun kv => if kv.1 = k then (kv.1, u) else kv) := by
  unfold KV at r ⊢
  induction r with
  | nil => exact .nil
  | @cons p q ps qs h t ih =>
    rw [List.map_cons, List.map_cons]
    refine .cons ?_ ih
    obtain ⟨h1, h2⟩ := h
    by_cases e : p.1 = k
    · rw [if_pos e, if_pos (h1.symm.trans e)]; exact ⟨h1, ry⟩
    · rw [if_neg e, if_neg (fun z => e (h1.trans z))]; exact ⟨h1, h2⟩
theorem KV.put {kvs : List (κ × V)} {vs : List (κ × Value)} (r : KV kvs vs) (k : κ) {y : V} {u : Value} (ry : RelV y u) : KV (putK kvs k y) (stored vs k u) := by
  unfold putK stored
  rw [r.any k]
  by_cases e : (vs.any fun kv => decide (kv.1 = k)) = true
  · rw [if_pos e, if_pos e]; exact r.repl k ry
  · rw [if_neg e, if_neg e]; exact Paired.snoc r ⟨rfl, ry⟩
theorem KV.drop {kvs : List (κ × V)} {vs : List (κ × Value)} (r : KV kvs vs) (k : κ) : KV (dropK kvs k) (without vs k) := by
  unfold KV at r ⊢
  unfold dropK without
  induction r with
  | nil => exact .nil
  | @cons p q ps qs h t ih =>
    obtain ⟨h1, h2⟩ := h
    rw [List.filter_cons, List.filter_cons]
    by_cases e : p.1 = k
    · have a : ¬ decide (p.1 ≠ k) = true := by simp [e]
      have b : ¬ decide (q.1 ≠ k) = true := by simp [h1.symm.trans e]
      rw [if_neg a, if_neg b]; exact ih
    · have e' : ¬ q.1 = k := fun z => e (h1.trans z)
      have a : decide (p.1 ≠ k) = true := by simp [e]
      have b : decide (q.1 ≠ k) = true := by simp [e']
      rw [if_pos a, if_pos b]; exact .cons ⟨h1, h2⟩ ih
theorem KV.keys {kvs : List (κ × V)} {vs : List (κ × Value)} (r : KV kvs vs) : kvs.map (·.1) = vs.map (·.1) := by
  unfold KV at r
  induction r with
  | nil => rfl
  | cons h t ih => rw [List.map_cons, List.map_cons, ih, h.1]
theorem KV.length {kvs : List (κ × V)} {vs : List (κ × Value)} (r : KV kvs vs) : kvs.length = vs.length := Paired.length r
end


/-! ### a tracked dict, its keys ints and texts or tuples of these -/
theorem kV_is {P : Program} {w : World} {k : Key} {u : Value} (r : RelV (kV k) u) : (mixKind P w).is k u = true := by
  cases k with
  | inl i => obtain ⟨t, e⟩ := (show ∃ t, u = Value.int i t from r); subst e; exact mixKind_int P w i t
  | inr x => obtain ⟨t, e⟩ := (show ∃ t, u = Value.str x t from r); subst e; exact mixKind_str P w x t
theorem items_are {P : Program} {w : World} : ∀ {ks : List Key} {us : List Value}, Vals (ks.map kV) us → ItemsAre (mixKind P w) ks us
  | [], _, r => by rw [List.map_nil] at r; cases r; exact .nil
  | k :: ks, _, r => by
    rw [List.map_cons] at r
    cases r with
    | cons h t => exact .cons (kV_is h) (items_are t)

/-- raw entries of a dict with tuple keys -/
abbrev KT (H : Hp) : List (List Key × V) → List (List Key × Addr × Value) → Prop := Paired fun p q => p.1 = q.1 ∧ H q.2.1 = some (.tup (p.1.map kV)) ∧ RelV p.2 q.2.2
theorem KT.val {H : Hp} {kvs : List (List Key × V)} {xs : List (List Key × Addr × Value)} (r : KT H kvs xs) (k : List Key) : RelO (valV kvs k) ((atKey xs k).map (·.2)) := by
  induction r with
  | nil => exact True.intro
  | @cons p q ps qs h t ih =>
    obtain ⟨h1, _, h2⟩ := h
    by_cases e : p.1 = k
    · have e' : q.1 = k := h1.symm.trans e
      have b : atKey (q :: qs) k = some q.2 := by simp [atKey, List.find?_cons, e']
      rw [valV_pos e, b]; exact h2
    · have e' : ¬ q.1 = k := fun z => e (h1.trans z)
      have b : atKey (q :: qs) k = atKey qs k := by simp [atKey, List.find?_cons, e']
      rw [valV_neg e, b]; exact ih
theorem KT.repl {H : Hp} {kvs : List (List Key × V)} {xs : List (List Key × Addr × Value)} (r : KT H kvs xs) (k : List Key) {y : V} {u : Value} (ry : RelV y u) :
    KT H (kvs.map fun kv => if kv.1 = k then (kv.1, y) else kv) (xs.map (putAt k u)) := by
  induction r with
  | nil => exact .nil
  | @cons p q ps qs h t ih =>
    rw [List.map_cons, List.map_cons]
    refine .cons ?_ ih
    obtain ⟨h1, h2, h3⟩ := h
    unfold putAt
    by_cases e : p.1 = k
    · rw [if_pos e, if_pos (h1.symm.trans e)]; exact ⟨h1, h2, ry⟩
    · rw [if_neg e, if_neg (fun z => e (h1.trans z))]; exact ⟨h1, h2, h3⟩
theorem KT.put {H : Hp} {kvs : List (List Key × V)} {xs : List (List Key × Addr × Value)} (r : KT H kvs xs) (k : List Key) {b : Addr} {y : V} {u : Value} (hb : H b = some (.tup (k.map kV))) (ry : RelV y u) :
    KT H (putK kvs k y) (storedH xs k b u) := by
  have e : (kvs.any fun kv => decide (kv.1 = k)) = (atKey xs k).isSome := by
    rw [valV_any, (r.val k).isSome_eq, Option.isSome_map]
  unfold putK storedH
  rw [e]
  by_cases q : (atKey xs k).isSome = true
  · rw [if_pos q, if_pos q]; exact r.repl k ry
  · rw [if_neg q, if_neg q]; exact Paired.snoc r ⟨rfl, hb, ry⟩
theorem KT.keeps {H H' : Hp} {kvs : List (List Key × V)} {xs : List (List Key × Addr × Value)} (r : KT H kvs xs) (ht : ∀ b ys, H b = some (.tup ys) → H' b = some (.tup ys)) : KT H' kvs xs :=
  Paired.mapP r fun _ _ z => ⟨z.1, ht _ _ z.2.1, z.2.2⟩

section
variable {P : Program} {w : World} {H : Hp} {h : Heap} {a : Addr}
theorem rd_of {u : HO} (ok : HOk P w H h) (e : Rd H a u) : ObjOk P w H h a u := e.ok ok
theorem dk_rd {kvs : List (Key × V)} (ok : HOk P w H h) (e : Rd H a (.dK kvs)) : kvs.length ≤ sizeLine ∧ (a == sysModules) = false ∧ ∃ vs, KV kvs vs ∧ h.DictOf (mixKind P w) a vs :=
  show ObjOk P w H h a (.dK kvs) from rd_of ok e
theorem dk_of {kvs : List (Key × V)} (ok : HOk P w H h) (e : H a = some (.dK kvs)) : kvs.length ≤ sizeLine ∧ (a == sysModules) = false ∧ ∃ vs, KV kvs vs ∧ h.DictOf (mixKind P w) a vs := dk_rd ok (.inl e)
/-- a tracked tuple of ints and texts is a key -/
theorem key_of {ks : List Key} (ok : HOk P w H h) (e : H a = some (.tup (ks.map kV))) : (tupleKind (mixKind P w)).is h ks a := by
  obtain ⟨_, its, r, ⟨o, h1, h2, n, h3⟩, _⟩ := (show ObjOk P w H h a (.tup (ks.map kV)) from ok a _ e)
  exact ⟨o, its.toArray, n, h1, h2, h3, by simpa using items_are r⟩
theorem dt_rd {kvs : List (List Key × V)} (ok : HOk P w H h) (e : Rd H a (.dT kvs)) : kvs.length ≤ sizeLine ∧ (a == sysModules) = false ∧
    ∃ xs, KT H kvs xs ∧ h.DictOfH (tupleKind (mixKind P w)) a xs := by
  obtain ⟨z, y, xs, r, o, es, ep, h1, h2, h3, h4, h5⟩ := (show ObjOk P w H h a (.dT kvs) from rd_of ok e)
  refine ⟨z, y, xs, r, o, es, ep, h1, h2, h3, h4, fun x hx => ?_, h5⟩
  have all : ∀ {l : List (List Key × V)} {m : List (List Key × Addr × Value)}, KT H l m → ∀ x ∈ m, (tupleKind (mixKind P w)).is h x.1 x.2.1 := by
    intro l m q
    induction q with
    | nil => intro x hx; exact nomatch hx
    | @cons p q ps qs hq t ih =>
      intro x hx
      rcases List.mem_cons.mp hx with e | hx
      · subst e
        exact key_of ok (by rw [← hq.1]; exact hq.2.1)
      · exact ih x hx
  exact all r x hx
theorem dt_of {kvs : List (List Key × V)} (ok : HOk P w H h) (e : H a = some (.dT kvs)) : kvs.length ≤ sizeLine ∧ (a == sysModules) = false ∧
    ∃ xs, KT H kvs xs ∧ h.DictOfH (tupleKind (mixKind P w)) a xs := dt_rd ok (.inl e)
end

/-- what the dict at a holds at the key y -/
def DGet (H : Hp) (a : Addr) (y : V) (r : Option V) : Prop :=
  (∃ kvs k, Rd H a (.dK kvs) ∧ y = kV k ∧ r = valV kvs k) ∨ ∃ kvs k b, Rd H a (.dT kvs) ∧ y = .ref b ∧ H b = some (.tup (k.map kV)) ∧ r = valV kvs k
/-- the heap behind a[y] = v -/
def DPut (H : Hp) (a : Addr) (y v : V) (H' : Hp) : Prop :=
  (∃ kvs k, H a = some (.dK kvs) ∧ y = kV k ∧ kvs.length < sizeLine ∧ H' = upd H a (.dK (putK kvs k v))) ∨
  ∃ kvs k b, H a = some (.dT kvs) ∧ y = .ref b ∧ H b = some (.tup (k.map kV)) ∧ kvs.length < sizeLine ∧ H' = upd H a (.dT (putK kvs k v))
theorem DGet.k {H : Hp} {a : Addr} {kvs : List (Key × V)} {k : Key} (e : H a = some (.dK kvs)) : DGet H a (kV k) (valV kvs k) := .inl ⟨kvs, k, .inl e, rfl, rfl⟩
theorem DGet.t {H : Hp} {a b : Addr} {kvs : List (List Key × V)} {k : List Key} (e : H a = some (.dT kvs)) (eb : H b = some (.tup (k.map kV))) : DGet H a (.ref b) (valV kvs k) := .inr ⟨kvs, k, b, .inl e, rfl, eb, rfl⟩
theorem DPut.k {H : Hp} {a : Addr} {kvs : List (Key × V)} {k : Key} {v : V} (e : H a = some (.dK kvs)) (hl : kvs.length < sizeLine) : DPut H a (kV k) v (upd H a (.dK (putK kvs k v))) := .inl ⟨kvs, k, e, rfl, hl, rfl⟩
theorem DPut.t {H : Hp} {a b : Addr} {kvs : List (List Key × V)} {k : List Key} {v : V} (e : H a = some (.dT kvs)) (eb : H b = some (.tup (k.map kV))) (hl : kvs.length < sizeLine) :
    DPut H a (.ref b) v (upd H a (.dT (putK kvs k v))) := .inr ⟨kvs, k, b, e, rfl, eb, hl, rfl⟩


section
variable {X : Cx} {pins : List (Addr × Obj)} {σ : St} {H : Hp} {s : Shared} {a : Addr} {y v : V} {u r : Value} {o : Option V} {A : Around} {E : Value → Shared → Prop}

theorem Inv.big (I : Inv X pins σ H s) : sysModules < s.heap.objs.size := by
  have h : mainGlobals < s.heap.objs.size := (I.mod.glob.keeps I.bk).lt
  exact Nat.lt_trans (by decide) h

/-- y in d -/
theorem d_in {Q : Value → Shared → Prop} (hu : A.units + 1 < cLine) (I : Inv X pins σ H s) (g : DGet H a y o) (ry : RelV y u) (h : ∀ s', Inv X pins σ H s' → Q (.bool o.isSome) s') :
    wpAny (model X.prog X.w) A (compareOp .In u (.ref a)) Q E s := by
  rcases g with ⟨kvs, k, e, ey, l⟩ | ⟨kvs, k, b, e, ey, eb, l⟩
  · subst ey
    obtain ⟨z, hd, vs, rel, dd⟩ := dk_rd I.hok e
    refine wpAny_in_of (kV_is ry) hd dd.mapOf ?_
    rw [← (rel.val k).isSome_eq, ← l]
    exact h _ (I.tok _)
  · subst ey
    cases (show u = Value.ref b from ry)
    obtain ⟨z, hd, xs, rel, dd⟩ := dt_rd I.hok e
    refine wpAny_in_heap (tupleKind_room_in1 hu) (key_of I.hok eb) hd dd ?_
    have q := (rel.val k).isSome_eq
    rw [Option.isSome_map] at q
    rw [← q, ← l]
    exact h _ (I.tok _)
theorem d_notIn {Q : Value → Shared → Prop} (hu : A.units + 1 < cLine) (I : Inv X pins σ H s) (g : DGet H a y o) (ry : RelV y u) (h : ∀ s', Inv X pins σ H s' → Q (.bool (!o.isSome)) s') :
    wpAny (model X.prog X.w) A (compareOp .NotIn u (.ref a)) Q E s := by
  rcases g with ⟨kvs, k, e, ey, l⟩ | ⟨kvs, k, b, e, ey, eb, l⟩
  · subst ey
    obtain ⟨z, hd, vs, rel, dd⟩ := dk_rd I.hok e
    refine wpAny_notIn_of (kV_is ry) hd dd.mapOf ?_
    rw [← (rel.val k).isSome_eq, ← l]
    exact h _ (I.tok _)
  · subst ey
    cases (show u = Value.ref b from ry)
    obtain ⟨z, hd, xs, rel, dd⟩ := dt_rd I.hok e
    refine wpAny_notIn_heap (tupleKind_room_in1 hu) (key_of I.hok eb) hd dd ?_
    have q := (rel.val k).isSome_eq
    rw [Option.isSome_map] at q
    rw [← q, ← l]
    exact h _ (I.tok _)
/-- a dict's object is replaced -/
theorem d_write {h' : Heap} {t' : Nat} {ob : HO} (I : Inv X pins σ H s) (mu : Mut (H a)) (hs : Heap.SameBut a s.heap h') (he : ∃ q, h'.get? a = some q) (new : ObjOk X.prog X.w (upd H a ob) h' a ob) :
    Inv X pins σ (upd H a ob) { s with heap := h', toks := t' } :=
  I.write (x := a) (e := a) mu (.inl rfl) (fun b q hb z => (hs.2 b hb).trans z) he new
theorem dk_new {P : Program} {w : World} {H' : Hp} {h' : Heap} {kvs : List (Key × V)} {vs : List (Key × Value)} (z : kvs.length ≤ sizeLine) (hd : (a == sysModules) = false) (rel : KV kvs vs) (dd : h'.DictOf (mixKind P w) a vs) :
    ObjOk P w H' h' a (.dK kvs) := ⟨z, hd, vs, rel, dd⟩
/-- d[y] = v -/
theorem d_setItem {H' : Hp} {Q : Unit → Shared → Prop} (hu : A.units + 1 < cLine) (I : Inv X pins σ H s) (g : DPut H a y v H') (ry : RelV y u) (rv : RelV v r) (h : ∀ s', Inv X pins σ H' s' → Q () s') :
    wpAny (model X.prog X.w) A (setItem (.ref a) u r) Q E s := by
  rcases g with ⟨kvs, k, e, ey, l, eH⟩ | ⟨kvs, k, b, e, ey, eb, l, eH⟩
  · subst ey eH
    obtain ⟨z, hd, vs, rel, dd⟩ := dk_of I.hok e
    have hz : vs.length ≤ sizeLine := by rw [← rel.length]; exact z
    have hl : (putK kvs k v).length ≤ sizeLine := by have := length_putK kvs k v; omega
    refine wpAny_setItem_pairs (hsz := hz) (kV_is ry) dd fun h' dd' hs => h _ ?_
    have he : ∃ q, h'.get? a = some q := let ⟨q, _, _, hq, _⟩ := dd'; ⟨q, hq⟩
    exact d_write I (by rw [e]; exact True.intro) hs he (dk_new hl hd (rel.put k rv) dd')
  · subst ey eH
    cases (show u = Value.ref b from ry)
    obtain ⟨z, hd, xs, rel, dd⟩ := dt_of I.hok e
    have hz : xs.length ≤ sizeLine := by rw [← Paired.length rel]; exact z
    have hl : (putK kvs k v).length ≤ sizeLine := by have := length_putK kvs k v; omega
    refine wpAny_setItem_heap (hsz := hz) (tupleKind_room_in1 hu) (key_of I.hok eb) dd fun h' dd' hs => h _ ?_
    obtain ⟨q, es, ep, hq, h2, h3, h4, _, h5⟩ := dd'
    refine d_write I (by rw [e]; exact True.intro) hs ⟨q, hq⟩ ⟨hl, hd, _, (rel.put k eb rv).keeps fun c ys ec => ?_, q, es, ep, hq, h2, h3, h4, h5⟩
    rw [upd_ne (ne_of ec e (fun z => nomatch z))]
    exact ec
end

section
variable {X : Cx} {pins : List (Addr × Obj)} {σ : St} {H : Hp} {s : Shared} {a : Addr} {kvs : List (Key × V)} {k : Key} {u : Value} {A : Around} {E : Value → Shared → Prop}
/-- len(d) -/
theorem d_len {Q : Value → Shared → Prop} (I : Inv X pins σ H s) (e : Rd H a (.dK kvs)) (h : ∀ t s', Inv X pins σ H s' → Q (.int kvs.length t) s') : wpAny (model X.prog X.w) A (call (.builtin "len") [.ref a]) Q E s := by
  obtain ⟨z, hd, vs, rel, dd⟩ := dk_rd I.hok e
  refine call_len_dict hd dd (by rw [← rel.length]; rw [sizeLine_eq] at z; omega) ?_
  rw [← rel.length]
  exact h _ _ (I.tok _)
end


/-! ### readings and rules -/
/-- the element of a subscription, not a slice -/
def NoSl (i : Expr) : Prop := ∀ ov iv, subscripted i false ov iv = operate [ov, iv] (getItem ov iv)
/-- d[y] -/
def tDGet (td ty : TE) : TE := fun σ H Q => td σ H fun x H1 => ty σ H1 fun y H2 => ∃ a v, x = .ref a ∧ DGet H2 a y (some v) ∧ Q v H2
/-- y in d, y not in d -/
def tDIn (ty td : TE) : TE := fun σ H Q => ty σ H fun y H1 => td σ H1 fun x H2 => ∃ a o, x = .ref a ∧ DGet H2 a y o ∧ Q (.bl o.isSome) H2
def tDNotIn (ty td : TE) : TE := fun σ H Q => ty σ H fun y H1 => td σ H1 fun x H2 => ∃ a o, x = .ref a ∧ DGet H2 a y o ∧ Q (.bl (!o.isSome)) H2
/-- d[y] = v -/
def sDPut (td ty tv : TE) : TS := fun D σ H => tv σ H fun v H1 => td σ H1 fun x H2 => ty σ H2 fun y H3 => ∃ a H4, x = .ref a ∧ DPut H3 a y v H4 ∧ D.nx σ H4
/-- d[y] op= v -/
def sDAug (td ty tv : TE) (rd : V → V → Hp → VK → Prop) : TS := fun D σ H => td σ H fun x H1 => ty σ H1 fun y H2 => ∃ a v, x = .ref a ∧ DGet H2 a y (some v) ∧
  tv σ H2 fun y2 H3 => rd v y2 H3 fun z H4 => ∃ H5, DPut H4 a y z H5 ∧ D.nx σ H5
/-- del d[y] -/
def sDDel (td ty : TE) : TS := fun D σ H => td σ H fun x H1 => ty σ H1 fun y H2 => ∃ a kvs k, x = .ref a ∧ H2 a = some (.dK kvs) ∧ y = kV k ∧ (valV kvs k).isSome = true ∧ D.nx σ (upd H2 a (.dK (dropK kvs k)))

section
variable {X : Cx} {o i e value : Expr} {pos pos' tpos : Pos} {td ty tv : TE}
theorem pc_din (hu : X.A.units + 1 < cLine) (hi : PE X i ty) (ho : PE X o td) : PC X .In i o (tDIn ty td) := by
  intro pins s σ H Q I h
  refine thn (hi pins s σ H _ I h) fun iv s1 ⟨y, H1, I1, ry, q1⟩ => thn (ho pins s1 σ H1 _ I1 q1) fun u s2 ⟨x, H2, I2, rx, a, ov, ex, g, q2⟩ => ?_
  subst ex
  obtain rfl : u = Value.ref a := rx
  exact d_in hu I2 g ry fun s3 I3 => ⟨.bl ov.isSome, H2, I3, rfl, q2⟩
theorem pc_dnotin (hu : X.A.units + 1 < cLine) (hi : PE X i ty) (ho : PE X o td) : PC X .NotIn i o (tDNotIn ty td) := by
  intro pins s σ H Q I h
  refine thn (hi pins s σ H _ I h) fun iv s1 ⟨y, H1, I1, ry, q1⟩ => thn (ho pins s1 σ H1 _ I1 q1) fun u s2 ⟨x, H2, I2, rx, a, ov, ex, g, q2⟩ => ?_
  subst ex
  obtain rfl : u = Value.ref a := rx
  exact d_notIn hu I2 g ry fun s3 I3 => ⟨.bl (!ov.isSome), H2, I3, rfl, q2⟩
theorem ps_dput (hu : X.A.units + 1 < cLine) (ho : PE X o td) (hi : PE X i ty) (hv : PE X value tv) (hs : swapsWith value (some (.Subscript o i pos')) pos.line X.env = pure false) :
    PS X (.Assign [.Subscript o i pos'] value pos) (sDPut td ty tv) := by
  intro pins s σ H D I h
  refine wpAny_Assign_Subscript (thn (hv pins s σ H _ I h) fun r s1 ⟨v, H1, I1, rv, q1⟩ => thn (ho pins s1 σ H1 _ I1 q1) fun u s2 ⟨x, H2, I2, rx, q2⟩ => thn (hi pins s2 σ H2 _ I2 q2) fun iv s3 ⟨y, H3, I3, ry, a, H4, ex, g, q3⟩ => ?_) hs
  subst ex
  obtain rfl : u = Value.ref a := rx
  exact d_setItem hu I3 g ry rv fun s4 I4 => ⟨σ, H4, I4, q3⟩
end


/-! ### displays -/
theorem dk_empty {P : Program} {w : World} {H : Hp} (h : Heap) (hb : sysModules < h.objs.size) : ObjOk P w H (h.push { cls := .type "dict", data := .dict #[] }) h.objs.size (.dK []) :=
  ⟨Nat.zero_le _, beq_eq_false_iff_ne.mpr (Ne.symm (Nat.ne_of_lt hb)), [], .nil, Heap.DictOf.new h⟩
/-- {}, to be a dict of the kind that is wanted -/
def tDNewK : TE := fun _ H Q => ∀ p, H p = none → Q (.ref p) (upd H p (.dK []))
def tDNewT : TE := fun _ H Q => ∀ p, H p = none → Q (.ref p) (upd H p (.dT []))
section
variable {X : Cx} {pos : Pos}
end

/-- the pairs of a display, from the left -/
def tPairs : List (TE × TE) → St → Hp → (List (V × V) → Hp → Prop) → Prop
  | [], _, H, Q => Q [] H
  | (tk, tv) :: r, σ, H, Q => tk σ H fun x H1 => tv σ H1 fun y H2 => tPairs r σ H2 fun ps H3 => Q ((x, y) :: ps) H3
abbrev VV : List (V × V) → List (Value × Value) → Prop := Paired fun p q => RelV p.1 q.1 ∧ RelV p.2 q.2
def PPs (X : Cx) (pos : Pos) (keys : List (Option Expr)) (values : List Expr) (trs : List (TE × TE)) : Prop :=
  ∀ (pins : List (Addr × Obj)) (s : Shared) (σ : St) (H : Hp) (Q : List (V × V) → Hp → Prop), Inv X pins σ H s → tPairs trs σ H Q →
    wpAny (model X.prog X.w) X.A (evalPairs (pairTrees keys values X.env pos)) (fun vs s' => ∃ ps H', Inv X pins σ H' s' ∧ VV ps vs ∧ Q ps H') X.xe s
theorem pps_nil {X : Cx} {pos : Pos} : PPs X pos [] [] [] := fun pins s σ H Q I h => pairTrees_nil_walk ⟨[], H, I, .nil, h⟩
theorem pps_cons {X : Cx} {pos : Pos} {k v : Expr} {ks : List (Option Expr)} {vs : List Expr} {tk tv : TE} {trs : List (TE × TE)} (hk : PE X k tk) (hv : PE X v tv) (hr : PPs X pos ks vs trs) :
    PPs X pos (some k :: ks) (v :: vs) ((tk, tv) :: trs) := fun pins s σ H Q I h =>
  pairTrees_cons_walk (thn (hk pins s σ H _ I h) fun u s1 ⟨x, H1, I1, rx, q1⟩ => thn (hv pins s1 σ H1 _ I1 q1) fun w2 s2 ⟨y, H2, I2, ry, q2⟩ =>
    thn (hr pins s2 σ H2 _ I2 q2) fun ws s3 ⟨ps, H3, I3, rel, q3⟩ => ⟨(x, y) :: ps, H3, I3, .cons ⟨rx, ry⟩ rel, q3⟩)

def mergeK (kvs more : List (Key × V)) : List (Key × V) := more.foldl (fun acc kv => putK acc kv.1 kv.2) kvs
theorem KV.merge : ∀ {more : List (Key × V)} {rs : List (Key × Value)} {kvs : List (Key × V)} {vs : List (Key × Value)}, KV more rs → KV kvs vs → KV (mergeK kvs more) (merged vs rs) := by
  intro more rs kvs vs r
  unfold KV at r
  induction r generalizing kvs vs with
  | nil => intro q; exact q
  | @cons p q ps qs h t ih =>
    intro r0
    have e : KV (putK kvs p.1 p.2) (stored vs q.1 q.2) := by
      have := r0.put p.1 h.2
      rw [← h.1]; exact this
    exact ih e
theorem length_mergeK : ∀ (more kvs : List (Key × V)), (mergeK kvs more).length ≤ kvs.length + more.length
  | [], kvs => by show kvs.length ≤ kvs.length + 0; omega
  | p :: r, kvs => by
    have h1 := length_mergeK r (putK kvs p.1 p.2)
    have h2 := length_putK kvs p.1 p.2
    show (mergeK (putK kvs p.1 p.2) r).length ≤ _
    rw [List.length_cons]; omega
theorem carries_of {P : Program} {w : World} : ∀ {kvs : List (Key × V)} {ws : List (Value × Value)}, VV (kvs.map fun kv => (kV kv.1, kv.2)) ws → ∃ rs, Carries (mixKind P w) ws rs ∧ KV kvs rs
  | [], _, r => by rw [List.map_nil] at r; cases r; exact ⟨[], True.intro, .nil⟩
  | p :: kvs, _, r => by
    rw [List.map_cons] at r
    cases r with
    | @cons a b as bs h t =>
      obtain ⟨rs, c, q⟩ := carries_of (P := P) (w := w) t
      obtain ⟨b1, b2⟩ := b
      exact ⟨(p.1, b2) :: rs, ⟨kV_is h.1, rfl, c⟩, .cons ⟨rfl, h.2⟩ q⟩
/-- {k: v, ..} with keys ints and texts; the new dict stands empty while the pairs are made -/
def tDisp (trs : List (TE × TE)) : TE := fun σ H Q => ∀ p, H p = none → tPairs trs σ (upd H p (.dK [])) fun ps H2 => H2 p = some (.dK []) ∧ ∃ kvs : List (Key × V), ps = kvs.map (fun kv => (kV kv.1, kv.2)) ∧ kvs.length ≤ 15 ∧ Q (.ref p) (upd H2 p (.dK (mergeK [] kvs)))
theorem pe_disp {X : Cx} {pos : Pos} {keys : List (Option Expr)} {values : List Expr} {trs : List (TE × TE)} (h : PPs X pos keys values trs) (hall : keys.all (·.isSome) = true) (hl : keys.length = values.length) (h0 : keys ≠ [])
    (h15 : keys.length ≤ 15) : PE X (.Dict keys values pos) (tDisp trs) := by
  intro pins s σ H Q I q
  have hn := I.hok.fresh (Nat.le_refl s.heap.objs.size)
  have I1 := I.laid (a := s.heap.objs.size) (o := .dK []) (h' := s.heap.push { cls := .type "dict", data := .dict #[] }) (t' := s.toks) (fun _ _ q => Heap.get?_push_of_some _ q) (Nat.le_refl _) (dk_empty s.heap I.big)
  refine wpAny_Dict_walk (knd := mixKind X.prog X.w) hall hl h0 h15 (thn (h pins _ σ _ _ I1 (q _ hn)) fun ws s2 ⟨ps, H2, I2, rel, e, kvs, ep, lk, q2⟩ => ?_)
  subst ep
  obtain ⟨rs, c, rk⟩ := carries_of (P := X.prog) (w := X.w) rel
  obtain ⟨z, hd, vs0, r0, dd⟩ := dk_of I2.hok e
  cases r0
  refine ⟨rs, c, dd, fun h' dd' hs => ⟨.ref s.heap.objs.size, _, ?_, rfl, q2⟩⟩
  have hz : (mergeK [] kvs).length ≤ sizeLine := by
    have h1 := length_mergeK kvs []
    rw [List.length_nil] at h1
    rw [sizeLine_eq]; omega
  have he : ∃ q, h'.get? s.heap.objs.size = some q := let ⟨q, _, _, hq, _⟩ := dd'; ⟨q, hq⟩
  exact d_write I2 (by rw [e]; exact True.intro) hs he (dk_new hz hd (rk.merge .nil) dd')


/-! ### methods -/
/-- a method call o.m(e) of a built-in, with one argument: what must be seen of the text -/
structure M1 (X : Cx) (o : Expr) (m : Str) (apos : Pos) (e : Expr) (cpos : Pos) : Prop where
  base : attributeBase o m X.env (eval o X.env) = eval o X.env
  few : ((backTo cpos (starEach [e] X.env)).all (fun x => !x.1) && (backToKw cpos (keywordEach [] X.env)).all (fun x => x.1.isSome)
    && decide (([e] : List Expr).length + ([] : List Keyword).length + (if ([] : List Keyword).isEmpty then 0 else 1) < 30)) = true
  line : (apos.endLine == cpos.line) = true
  trees : backTo cpos (starEach [e] X.env) = [(false, eval e X.env)]
structure M2 (X : Cx) (o : Expr) (m : Str) (apos : Pos) (e f : Expr) (cpos : Pos) : Prop where
  base : attributeBase o m X.env (eval o X.env) = eval o X.env
  few : ((backTo cpos (starEach [e, f] X.env)).all (fun x => !x.1) && (backToKw cpos (keywordEach [] X.env)).all (fun x => x.1.isSome)
    && decide (([e, f] : List Expr).length + ([] : List Keyword).length + (if ([] : List Keyword).isEmpty then 0 else 1) < 30)) = true
  line : (apos.endLine == cpos.line) = true
  trees : backTo cpos (starEach [e, f] X.env) = [(false, eval e X.env), (false, eval f X.env)]

/-- a is a dict, whatever its keys -/
def IsD (H : Hp) (a : Addr) : Prop := (∃ kvs, Rd H a (.dK kvs)) ∨ ∃ kvs, Rd H a (.dT kvs)
section
variable {X : Cx} {pins : List (Addr × Obj)} {σ : St} {H : Hp} {s : Shared} {a : Addr} {y d : V} {u r : Value} {o : Option V} {A : Around} {E : Value → Shared → Prop}
end

def tDGet1 (td ty : TE) : TE := fun σ H Q => td σ H fun x H1 => ∃ a, x = .ref a ∧ IsD H1 a ∧ ty σ H1 fun y H2 => ∃ o, DGet H2 a y o ∧ Q (o.getD .non) H2
def tDGet2 (td ty tx : TE) : TE := fun σ H Q => td σ H fun x H1 => ∃ a, x = .ref a ∧ IsD H1 a ∧ ty σ H1 fun y H2 => tx σ H2 fun z H3 => ∃ o, DGet H3 a y o ∧ Q (o.getD z) H3
/-- d.pop(k): there; d.pop(k, x): there or not -/
def tDPop1 (td ty : TE) : TE := fun σ H Q => td σ H fun x H1 => ∃ a, x = .ref a ∧ IsD H1 a ∧ ty σ H1 fun y H2 => ∃ kvs k v, H2 a = some (.dK kvs) ∧ y = kV k ∧ valV kvs k = some v ∧ Q v (upd H2 a (.dK (dropK kvs k)))
def tDPop2 (td ty tx : TE) : TE := fun σ H Q => td σ H fun x H1 => ∃ a, x = .ref a ∧ IsD H1 a ∧ ty σ H1 fun y H2 => tx σ H2 fun z H3 => ∃ kvs k, H3 a = some (.dK kvs) ∧ y = kV k ∧
  (∀ v, valV kvs k = some v → Q v (upd H3 a (.dK (dropK kvs k)))) ∧ (valV kvs k = none → Q z H3)
section
variable {X : Cx} {o e f : Expr} {apos cpos : Pos} {td ty tx : TE}
end

/-! ### dict(d): a copy -/
section
variable {X : Cx} {pins : List (Addr × Obj)} {σ : St} {H : Hp} {s : Shared} {a : Addr} {kvs : List (Key × V)} {A : Around} {E : Value → Shared → Prop}
end


section
variable {X : Cx} {pins : List (Addr × Obj)} {σ : St} {H : Hp} {s : Shared} {a : Addr} {y : V} {u : Value} {A : Around} {E : Value → Shared → Prop}
end
end L2


namespace Att
open PySem PySem.W PySem.Calls PyProof.Rows

/-! ### the script -/
theorem ints_of_wellAll {P : Params} {h : Heap} : ∀ (ns : List Int) (vs : List Value), WellAll P h vs (ns.map WData.int) → IntsAre vs ns := by
  intro ns
  induction ns with
  | nil =>
    intro vs w
    rw [List.map_nil] at w
    cases w
    exact .nil
  | cons n ns ih =>
    intro vs w
    rw [List.map_cons] at w
    cases w with
    | cons a b =>
      cases a
      exact .cons _ _ (ih _ b)

theorem script_of {l : OpenLaw} {n : Nat} (hn : l.most = some n) {P : Params} {h : Heap} {args : List WData} {vals : List Value}
    (hpre : l.row.toRowW.claim.pre args = true) (hwl : WellAll P h vals args) :
    ∃ a vs ns, vals = [Value.ref a] ∧ args = [WData.list (ns.map WData.int)] ∧ h.get? a = some { cls := .type "list", data := .seq vs.toArray } ∧ IntsAre vs ns ∧ ns.length ≤ n := by
  have hsh : WShape.hasAll [] args [.list .int] = true := (pre_splitW hpre).1
  have hc : l.pre.holds [] { args := args } = true := (pre_splitW hpre).2
  obtain ⟨d, r, rfl, h1, h2⟩ := hasAllW_cons hsh
  obtain rfl := hasAllW_nil h2
  obtain ⟨xs, rfl, h3⟩ := hasW_list h1
  obtain ⟨ns, rfl⟩ := items_int h3
  have hlen : ns.length ≤ n := by
    unfold OpenLaw.pre at hc
    have h4 : (WTm.not (.lt (.lit (.int (n : Int))) (.len (.arg 0)))).holds [] { args := [.list (ns.map .int)] } = true := by
      have h4 := (holds_andW hc).1
      rw [hn] at h4
      exact h4
    have h5 := condW_of h4 (w_not (w_lt w_lit (w_len_list (w_arg rfl))))
    rw [List.length_map] at h5
    refine Nat.le_of_not_lt fun q => ?_
    have q' : (n : Int) < ((ns.length : Nat) : Int) := by omega
    first
      | (rw [decide_eq_true q'] at h5; exact absurd h5 (by decide))
      | (simp at h5; omega)
  cases hwl with
  | cons w1 w2 =>
    cases w2
    cases w1 with
    | list ho hall => exact ⟨_, _, ns, rfl, rfl, ho, ints_of_wellAll ns _ hall, hlen⟩

theorem post_true (l : OpenLaw) (args : List WData) : l.row.toRowW.claim.post args (.bool true) args = true :=
  postW_of (r := l.row.toRowW) (X := (true == true))
    (show WShape.has [] (.bool true) .bool = true by first | rfl | decide | simp [WShape.has, WShape.arms, WShape.armsAll])
    (show (WTm.eq .res (.lit (.bool true))).value [] { args := args, res := some (.bool true), after := args } = some (.bool (true == true)) from w_eq_bool (w_res rfl) w_lit) rfl

/-! ### the attachment: holds_open's last premise (the goal 'hc' behind k_head) from a wpAny of the law's body -/
/-- the same from a codeAny of the CALL (for a layer whose function contracts speak of calls) -/
theorem attach_call {l : OpenLaw} {n : Nat} {q : Program} {loose : List Str} {XP : (Str → Option Value) → Heap → Prop} {YP : World → Heap → Prop} {d : DefRec}
    (hn : l.most = some n) (hdf : d.params.defaults = [])
    (call : ∀ (w : World) (s₀ s₁ : Shared) (mg mb : Str → Option Value) (fa : Addr) (o : Obj) (pm cd doc : Value) (a : Addr) (vs : List Value) (ns : List Int),
      Ground q loose [] XP w s₀ mg mb s₁.heap → YP w s₁.heap →
      s₁.heap.get? fa = some o → o.data = .func (docDef d.name d.params d.body d.scope pm cd doc) → s₁.heap.CodeRec cd d.name → mg d.name = some (.ref fa) →
      s₁.heap.get? a = some { cls := .type "list", data := .seq vs.toArray } → IntsAre vs ns → ns.length ≤ n → s₁.gens = #[] →
      codeAny (model l.prog w) callerA (.call (.ref fa) ⟨[.ref a], []⟩) (fun r s' => r = .ok (.ret (.bool true)) ∧ OldK s₁.heap s'.heap ∧ s'.os = s₁.os ∧ AllBare s'.gens) s₁) :
    WalkO q loose XP YP l.row.toRowW d [] (fun f vs => PySem.call f vs) := by
  intro w s₀ s₁ mg mb G Y fa o pm cd doc dV kV ho hd hcd hD hmg hg args vals as hpre hlay hrd hwl hlo
  obtain rfl : dV = .none := Dflts.none hD hdf
  obtain rfl : kV = .none := Dflts.noKw hD
  obtain ⟨a, vs, ns, rfl, rfl, hobj, hints, hlen⟩ := script_of hn hpre hwl
  refine enter_call (codeAny_mono (call w s₀ s₁ mg mb fa o pm cd doc a vs ns G Y ho (fd_plain hd) hcd hmg hobj hints hlen hg) fun r s' hq => ?_)
  obtain ⟨rfl, h2, h3, h4⟩ := hq
  exact ⟨.inl ⟨.bool true, .bool true, [], rfl, fun _ => rfl, .bool true, post_true l _, fun _ => ⟨List.Pairwise.nil, fun _ hm => (nomatch hm)⟩⟩, h2, h3, h4⟩

/-! ### rules over ANY heap (no ledger) from facts about the written part K: the library's own take a ledger (News) for what they write -/
section
variable {prog : Program} {w : World} {A : Around} {E : Value → Shared → Prop} {s : Shared} {K : Frag}

/-! the whole heap as the ledger: makes every rule that writes through a ledger a rule over any heap -/
def noObjs (h : Heap) : Heap := { h with objs := #[] }
def ledger (h : Heap) (L d : Addr) : List (Addr × Obj) := (List.range h.objs.size).filterMap fun a => if a = L ∨ a = d then none else (h.get? a).map fun o => (a, o)
end
end Att

namespace L2
open PySem PySem.Spec PyProof.Rows

theorem vals_ints : ∀ {vs : List Value} {ns : List Int}, IntsAre vs ns → Vals (ns.map V.int) vs
  | _, _, .nil => .nil
  | _, _, .cons n t h => .cons ⟨t, rfl⟩ (vals_ints h)

/-- nothing is tracked but the script, known to the object (or it is an object of the module) -/
def Only (H : Hp) : Prop := ∀ b, H b = none ∨ ∃ o xs, H b = some (.frz o (.lst xs))

/-- THE HEAD: the law's promise, at the heap behind the top. F, the promise of the law's def, may use that base is part of the heap (so K.In base, base.Ns mainGlobals mg stand in Mod) -/
theorem law_call {P : Program} {w : World} {K : PySem.W.Frag} {mg mb : Str → Option Value} {CX : CXT} {k : Nat} {fa a : Addr} {fd : FuncData} {x : Str} {sp : Sp} {s₁ : Shared} {vs : List Value} {ns : List Int}
    (KX : K.In s₁.heap) (hns : s₁.heap.Ns mainGlobals mg) (hb : s₁.heap.Ns builtinsNs mb) (hbb : ∀ x : Str, x ≠ "__name__" → mb x = bootBuiltins x) (hlim : s₁.heap.NoLimit) (hg : s₁.gens = #[])
    (ha : s₁.heap.get? a = some { cls := .type "list", data := .seq vs.toArray }) (hi : IntsAre vs ns) (hl : ns.length ≤ sizeLine) (hr : Room k callerA)
    (F : ∀ base : Heap, K.In base → base.Ns mainGlobals mg → FnOk P w K mg base CX k fa fd [x] sp) (hbind : ∀ (s : Shared) (u : Value), BindsTo s fd ⟨[u], []⟩ [(x, u)])
    (hsp : ∀ H : Hp, Only H → SqL K H a (ns.map V.int) → sp [.ref a] H (fun v _ => v = .bl true) fun _ _ _ => False)
    (hCX : ∀ H e s', CX [] H s₁ (fun _ _ _ => False) e s' → False) :
    codeAny (model P w) callerA (.call (.ref fa) ⟨[.ref a], []⟩) (fun r s' => r = .ok (.ret (.bool true)) ∧ OldK s₁.heap s'.heap ∧ s'.os = s₁.os ∧ AllBare s'.gens) s₁ := by
  have rv := vals_ints hi
  have lenV := hi.length
  -- from an abstract heap in which nothing but the script may be tracked
  have core : ∀ H : Hp, Only H → SqL K H a (ns.map V.int) → HOk P w H s₁.heap → (∀ b, H b ≠ none → b = a) → (H a ≠ none → K.lookup a = none) →
      codeAny (model P w) callerA (.call (.ref fa) ⟨[.ref a], []⟩) (fun r s' => r = .ok (.ret (.bool true)) ∧ OldK s₁.heap s'.heap ∧ s'.os = s₁.os ∧ AllBare s'.gens) s₁ := by
    intro H hO hS hok hA hK
    have base_of : ∀ {b : Addr} {o : Obj}, s₁.heap.get? b = some o → H b = none → (hidT s₁.heap H).get? b = some o := fun e n => hidT_get e n
    have noA : ∀ {b : Addr} {o : Obj} {es : Array DictEntry} {ep : Nat}, s₁.heap.get? b = some o → o.data = .dict es ep → H b = none := fun {b o es ep} e d => by
      cases q : H b with
      | none => rfl
      | some u =>
        have e' : b = a := hA b (by rw [q]; simp)
        subst e'
        rw [ha] at e; cases e
        have d' : Data.seq vs.toArray _ = Data.dict es ep := d
        cases d'
    have nsK : ∀ {b : Addr} {m : Str → Option Value}, s₁.heap.Ns b m → (hidT s₁.heap H).Ns b m := fun {b m} ⟨o, es, ep, e, d, r⟩ => ⟨o, es, ep, base_of e (noA e d), d, r⟩
    have hKb : K.In (hidT s₁.heap H) := fun b o e => base_of (KX b o e) (by
      cases q : H b with
      | none => rfl
      | some u =>
        have e' : b = a := hA b (by rw [q]; simp)
        subst e'
        rw [hK (by rw [q]; simp)] at e; cases e)
    have hM : Mod K mg (hidT s₁.heap H) := ⟨hKb, nsK hns, ⟨mb, nsK hb, hbb⟩, let ⟨mc, h1, h2⟩ := hlim; ⟨mc, nsK h1, h2⟩⟩
    have e0 : Env0 P w K mg (hidT s₁.heap H) callerA [] s₁ H := ⟨rfl, hM, fun b o e => of_hidT e, Nat.le_of_eq (hidT_size _ _), trivial, fun b hb => absurd (show b ∈ ([] : List Addr) from hb) (by simp), hok, .of_eq hg⟩
    refine codeAny_mono ((F _ hKb (nsK hns)).run callerA [] s₁ H ⟨[.ref a], []⟩ [.ref a] [.ref a] _ _ hr e0 (hbind s₁ (.ref a)) (.cons rfl .nil) (hsp H hO hS)) fun r s' h => ?_
    cases r with
    | error e => exact (hCX H e s' h).elim
    | ok fl =>
      cases fl with
      | next => exact False.elim h
      | brk => exact False.elim h
      | cont => exact False.elim h
      | ret u =>
        obtain ⟨v, H', os, bare, un, hok', r', q⟩ := h
        have q' : v = .bl true := q
        subst q'
        obtain rfl : u = Value.bool true := r'
        refine ⟨rfl, OldK.of_keep fun b o e => ?_, os, bare⟩
        cases q : H b with
        | none => exact un.keep b o e q (by intro z; exact absurd (show b ∈ ([] : List Addr) from z) (by simp)) (by simp)
        | some u =>
          rcases hO b with z | ⟨ob, xs, z⟩
          · rw [q] at z; cases z
          · have z2 := un.frzs b ob _ z
            obtain ⟨e1, _⟩ := hok b _ z
            obtain ⟨e2, _⟩ := hok' b _ z2
            rw [e] at e1; cases e1
            exact e2
  cases hk : K.lookup a with
  | some o =>
    -- the script is one of the module's own objects
    have e := KX a o hk
    rw [ha] at e
    cases e
    refine core (fun _ => none) (fun _ => .inl rfl) (.inr ⟨_, vs.toArray, _, hk, rfl, rfl, rfl, by rw [List.size_toArray, lenV]; exact hl, by simpa using rv⟩) (fun b u z => by have z' : (none : Option HO) = some u := z; cases z') (fun b z => absurd rfl z) fun z => absurd rfl z
  | none =>
    refine core (fun b => if b = a then some (.frz { cls := .type "list", data := .seq vs.toArray } (.lst (ns.map V.int))) else none) (fun b => ?_) (.inl (.inr ⟨{ cls := .type "list", data := .seq vs.toArray }, if_pos rfl⟩)) (fun b u z => ?_) (fun b z => ?_) fun _ => hk
    · by_cases hb : b = a
      · exact .inr ⟨_, _, if_pos hb⟩
      · exact .inl (if_neg hb)
    · by_cases hb : b = a
      · have z' := (if_pos hb).symm.trans z
        cases z'
        subst hb
        exact ⟨ha, by rw [List.length_map]; exact hl, vs, _, rv, ha⟩
      · have z' := (if_neg hb).symm.trans z
        cases z'
    · by_cases hb : b = a
      · exact hb
      · exact absurd (if_neg hb) z
end L2

namespace L2
open PySem PySem.Spec PyProof.Rows

abbrev KOf {K : PySem.W.Frag} {h : Heap} (_ : K.In h) : PySem.W.Frag := K

/-- the goal that k_head leaves (case hc), from the law's promise. F gives the function object fd (K's own) once, then the promise over every base -/
theorem walk_of {l : PySem.W.OpenLaw} {n k : Nat} {q : Program} {loose : List Str} {XP : (Str → Option Value) → Heap → Prop} {YP : World → Heap → Prop} {d : DefRec} {K : Params → PySem.W.Frag} {CX : World → CXT} {sp : World → Sp} {x : Str}
    (hn : l.most = some n) (hn2 : n ≤ sizeLine) (hdf : d.params.defaults = []) (hr : Room k callerA)
    (hY : ∀ (w : World) (h : Heap), YP w h → (K w.params).In h)
    (F : ∀ (w : World) (mg : Str → Option Value) (fa : Addr) (h : Heap), (K w.params).In h → h.Ns mainGlobals mg → mg d.name = some (.ref fa) →
      ∃ fd : FuncData, (∀ (s : Shared) (u : Value), BindsTo s fd ⟨[u], []⟩ [(x, u)]) ∧
        ∀ base : Heap, (K w.params).In base → base.Ns mainGlobals mg → FnOk l.prog w (K w.params) mg base (CX w) k fa fd [x] (sp w))
    (hsp : ∀ (w : World) (H : Hp) (a : Addr) (ns : List Int), ns.length ≤ n → Only H → SqL (K w.params) H a (ns.map V.int) → sp w [.ref a] H (fun v _ => v = .bl true) fun _ _ _ => False)
    (hCX : ∀ (w : World) (H : Hp) (s : Shared) (e : Value) (s' : Shared), CX w [] H s (fun _ _ _ => False) e s' → False) :
    PySem.W.WalkO q loose XP YP l.row.toRowW d [] (fun f vs => PySem.call f vs) := by
  refine Att.attach_call hn hdf fun w s₀ s₁ mg mb fa o pm cd doc a vs ns G Y ho hd hcd hmg hobj hints hlen hg => ?_
  have KX := hY w _ Y
  obtain ⟨fd, hb, hF⟩ := F w mg fa _ KX G.T.g hmg
  exact law_call KX G.T.g G.T.b G.T.builtins G.T.nolimit hg hobj hints (Nat.le_trans hlen hn2) hr hF hb (fun H hO hS => hsp w H a ns hlen hO hS) fun H e s' => hCX w H s₁ e s'
end L2

/- THE LAST THEOREM (shape; LID, My.* are yours):
   My.Adr: a structure of the addresses that your layer names (classes, functions); My.Txt K t: a structure (Prop) of the equations over K;
   My.txt_mk : {K} {implicit addresses ..} (e1 : nsIn K mainGlobals "law" = some (some (.ref f))) (e2 : K.lookup f = some ⟨oc, od, .func (fnOf "law" "law" params body scope dV kV doc pm an cdv ct), sl⟩) (e3 : codeIn K cdv "law" = true) .. : ∃ t, My.Txt K t

set_option maxRecDepth 100000 in
set_option maxHeartbeats 0 in
theorem PySem.Challenge.cw_LID_holds : PySem.Challenge.rw_LID.Holds := by
  w_on; o_law; k_head; (case hw => w_witness2)
  k_fill
  refine L2.walk_of (l := PySem.Challenge.rw_LID) (n := 63) (k := 40) (x := "script") (CX := fun w => ..) (sp := fun _ => My.sp_law) rfl (by decide) rfl ⟨rfl, by decide, by decide⟩ (fun w h Y => PySem.W.kIn_of Y) ?F ?S ?C
  case F =>
    intro w mg fa h KX G hmg
    have T : ∃ t, My.Txt (L2.KOf KX) t := by
      dsimp only [L2.KOf]                          -- K must stand as «<heap const> w.params» for k_is
      refine' My.txt_mk ?e1 ?e2 ?e3 ..
      (case e1 => PySem.W.k_is)                    -- in the order: a name -> its address -> its object -> its parts
      (case e2 => PySem.W.k_is)
      ..
    obtain ⟨t, T⟩ := T
    have e0 := hmg.symm.trans (PySem.W.mg_of KX G T.law)
    cases e0                                       -- fa is the law's own address
    exact ⟨_, fun s u => .of_eq rfl, fun base kb nb => My.law_fn T kb nb⟩     -- if «.of_eq rfl» comes too early: refine' ⟨_, ?b, fun base kb nb => My.law_fn T kb nb⟩; exact fun s u => .of_eq rfl
  case S => exact fun w H a ns hl hO hS => ..
  case C => exact ..
(the tactic k_is has no namespace: write k_is) -/

/-! SHORT WORDS over the layer: a def of the text, its body, what a loop and a test want. -/
namespace L2
open PySem PySem.Spec PyProof.Rows

/-! ### the text by places -/
/-- the j-th statement of a class's body -/
def inClass (s : Stmt) (j : Nat) : Stmt := match s with
  | .ClassDef _ _ _ body _ _ _ _ _ _ _ => body.getD j (.Pass ⟨0, 0, 0, 0⟩)
  | _ => .Pass ⟨0, 0, 0, 0⟩
def defArgs (s : Stmt) : Arguments := match s with
  | .FunctionDef _ a _ _ _ _ _ _ _ _ => a
  | _ => { posonlyargs := [], args := [], vararg := none, kwonlyargs := [], kw_defaults := [], kwarg := none, defaults := [] }
def defBody (s : Stmt) : List Stmt := match s with
  | .FunctionDef _ _ b _ _ _ _ _ _ _ => b
  | _ => []
def defScope (s : Stmt) : Scope := match s with
  | .FunctionDef _ _ _ _ _ _ sc _ _ _ => sc
  | _ => { kind := .function, names := [], isGenerator := false, isCoroutine := false }

/-! ### no exception leaves a def -/
abbrev CX0 : CXT := fun _ _ _ _ _ _ => False
abbrev E0 : XK := fun _ _ _ => False
theorem pass0 {X : Cx} : Passes CX0 X E0 := fun _ _ _ _ _ _ _ h => h.elim

/-! ### a def (or method) of the text as it stands behind the top -/
structure Fun (K : PySem.W.Frag) (x qual : Str) (st : Stmt) (f : Addr) (fd : FuncData) : Prop where
  ex : ∃ (oc : Value) (od : Option Addr) (kV doc pm : Value) (an : Option Addr) (cdv ct : Value) (osl : Array (Option Value)),
    fd = PySem.W.fnOf x qual (defArgs st) (defBody st) (defScope st) .none kV doc pm an cdv ct ∧ K.lookup f = some ⟨oc, od, .func fd, osl⟩ ∧ PySem.W.codeIn K cdv qual = true
  kp : PySem.W.keepIn K (.ref f) = true
section
variable {P : Program} {w : World} {K : PySem.W.Frag} {mg : Str → Option Value} {base : Heap}
/-- THE RULE for a def: its body as a term of rules, and the reading of that term -/
theorem Fun.ok {x qual : Str} {st : Stmt} {f : Addr} {fd : FuncData} {N ps : List Str} {k : Nat} {sp : Sp} (F : Fun K x qual st f fd) (S : FnScope N ps (defScope st)) (len : ∀ vs H Q E, sp vs H Q E → vs.length = ps.length)
    (hbody : ∀ (cdv : Value) (A : Around) (outer : List Env) (s : Shared) (H : Hp) (vs : List V) (Q : VK) (E : XK), Room k (A.deeper (envOfC qual (defScope st) s.heap.objs.size f cdv)) → sp vs H Q E →
      ∃ t, PSs (cxOf CX0 P w K mg base N qual (defScope st) f cdv A outer s H E).nox (defBody st) t ∧ t { nx := fun _ H' => Q .non H', rt := Q } (start N vs) H) : FnOk P w K mg base CX0 (k + 1) f fd ps sp := by
  obtain ⟨oc, od, kV, doc, pm, an, cdv, ct, osl, rfl, lk, hcd⟩ := F.ex
  refine fn_of lk hcd S len fun A outer s H vs Q E hr hsp => ?_
  obtain ⟨t, h, q⟩ := hbody cdv A outer s H vs Q E hr hsp
  exact ⟨t, h.nox, q⟩
/-- how its arguments bind (no defaults): h is «fun _ _ _ _ _ _ us hl => match us, hl with | [_, _], _ => rfl», one _ a parameter -/
theorem Fun.binds {x qual : Str} {st : Stmt} {f : Addr} {fd : FuncData} {ps : List Str} (F : Fun K x qual st f fd)
    (h : ∀ (kV doc pm : Value) (an : Option Addr) (cdv ct : Value) (us : List Value), us.length = ps.length → bindArgs (PySem.W.fnOf x qual (defArgs st) (defBody st) (defScope st) .none kV doc pm an cdv ct) ⟨us, []⟩ = pure (ps.zip us)) : Binds K fd ps [] := by
  obtain ⟨oc, od, kV, doc, pm, an, cdv, ct, osl, rfl, lk, hcd⟩ := F.ex
  exact .all (h kV doc pm an cdv ct)
theorem fun_mk {x qual : Str} {st : Stmt} {f : Addr} {oc : Value} {od an : Option Addr} {osl : Array (Option Value)} {kV doc pm cdv ct : Value} (l : K.lookup f = some ⟨oc, od, .func (PySem.W.fnOf x qual (defArgs st) (defBody st) (defScope st) .none kV doc pm an cdv ct), osl⟩)
    (c : PySem.W.codeIn K cdv qual = true) (k : PySem.W.keepIn K (.ref f) = true) : Fun K x qual st f (PySem.W.fnOf x qual (defArgs st) (defBody st) (defScope st) .none kV doc pm an cdv ct) := ⟨⟨oc, od, kV, doc, pm, an, cdv, ct, osl, rfl, l, c⟩, k⟩
end
theorem hu_of {A : Around} {k : Nat} (hr : Room k A) : A.units + 1 < cLine := Nat.lt_of_le_of_lt (Nat.add_le_add_left (by decide : 1 ≤ 64) _) hr.units
/-! ### expressions in short: the name that stands in the i-th slot -/
section
variable {X : Cx}
theorem pv (i : Nat) {x : Str} {pos : Pos} (hN : X.N[i]? = some x := by rfl) (hv : Vis X.env.scope x := by first | exact Or.inl rfl | exact Or.inr (Or.inl rfl) | exact Or.inr (Or.inr rfl)) (hd : (x == ("__debug__" : Str)) = false := by decide)
    (hcd : (x == ("__classdict__" : Str)) = false := by decide) : PE X (.Name x pos) (tVar i) := pe_var hN hv hd hcd
end

/-! ### tests -/
theorem iteF {A B : Prop} (h : B) : if false = true then A else B := by
  rw [if_neg Bool.false_ne_true]
  exact h
theorem iteT {A B : Prop} (h : A) : if true = true then A else B := by
  rw [if_pos rfl]
  exact h
theorem ite2 {c A B : Prop} [Decidable c] (h1 : c → A) (h2 : ¬ c → B) : if c then A else B := by
  by_cases h : c
  · rw [if_pos h]
    exact h1 h
  · rw [if_neg h]
    exact h2 h
theorem iteNS {c A B : Prop} [Decidable c] (hc : c) (h : B) : if (!decide c) = true then A else B := by
  rw [decide_eq_true hc]
  exact iteF h

/-! ### heaps -/
/-- all that was tracked is as it was -/
def Same (H H' : Hp) : Prop := ∀ b o, H b = some o → H' b = some o
theorem Same.refl (H : Hp) : Same H H := fun _ _ h => h
theorem Same.trans {H H1 H2 : Hp} (a : Same H H1) (b : Same H1 H2) : Same H H2 := fun c o h => b c o (a c o h)
theorem Same.free {H H' : Hp} (e : Same H H') {l : Addr} (h : H' l = Option.none) : H l = Option.none := by
  cases q : H l with
  | none => rfl
  | some o =>
    rw [e l o q] at h
    cases h
theorem Same.seq {K : PySem.W.Frag} {H H' : Hp} {a : Addr} {xs : List V} (e : Same H H') (h : SqL K H a xs) : SqL K H' a xs := by
  rcases h with (h | ⟨o, h⟩) | h
  · exact .inl (.inl (e _ _ h))
  · exact .inl (.inr ⟨o, e _ _ h⟩)
  · exact .inr h

end L2


namespace L2
open PySem PySem.Spec PyProof.Rows
section
variable {X : Cx}
/-- len of a dict -/
theorem call_lenD : CallR X (.builtin "len") (fun xs H Q => ∃ a kvs, xs = [V.ref a] ∧ H a = some (.dK kvs) ∧ Q (.int kvs.length) H) := by
  intro pins s σ H xs us Q I r h
  obtain ⟨a, kvs, rfl, ha, q⟩ := h
  obtain ⟨u, rfl, ru⟩ := vals1 r
  cases ru
  exact d_len I (.inl ha) fun t s' I' => ⟨.int kvs.length, H, I', ⟨t, rfl⟩, q⟩
end
/-! ### a dict's pairs: keys that differ -/
section
variable {κ : Type} [DecidableEq κ]
end
end L2
/-! Exceptions of own classes without fields: raised in a def, left through defs, caught by a try around one call. -/
namespace L2
open PySem PySem.Spec PyProof.Rows

theorem objOk_get {P : Program} {w : World} {H : Hp} {h : Heap} {a : Addr} {o : HO} (x : ObjOk P w H h a o) : ∃ u, h.get? a = some u := by
  cases o with
  | lst xs => obtain ⟨_, _, _, _, e⟩ := x; exact ⟨_, e⟩
  | tup xs => obtain ⟨_, _, _, _, u, e, _⟩ := x; exact ⟨u, e⟩
  | dK kvs => obtain ⟨_, _, _, _, u, _, _, e, _⟩ := x; exact ⟨u, e⟩
  | dT kvs => obtain ⟨_, _, _, _, u, _, _, e, _⟩ := x; exact ⟨u, e⟩
  | set S n => obtain ⟨u, _, _, _, e, _⟩ := x; exact ⟨u, e⟩
  | ins C dx fs => obtain ⟨_, _, _, e, _⟩ := x; exact ⟨_, e⟩
  | own y => exact x
  | xd fs => obtain ⟨_, ⟨u, _, _, e, _⟩, _⟩ := x; exact ⟨u, e⟩
  | rng lo hi => obtain ⟨_, _, _, e⟩ := x; exact ⟨_, e⟩
  | frz ob u => obtain ⟨e, _⟩ := x; exact ⟨_, e⟩
  | tbl ps => exact ⟨_, x⟩
  | met f y => exact ⟨_, x⟩
  | ext φ => obtain ⟨_, e, _⟩ := x; exact e

theorem free_of_none {P : Program} {w : World} {H : Hp} {h : Heap} {a : Addr} (x : HOk P w H h) (e : h.get? a = none) : H a = none := by
  cases q : H a with
  | none => rfl
  | some o =>
    obtain ⟨u, z⟩ := objOk_get (x a o q)
    rw [e] at z
    cases z

/-- an exception lies behind a call: the object a of class cls, in flight through the frames outer; B: all that is sure to stay -/
def CXr (P : Program) (w : World) : CXT := fun outer H s E e s' =>
  ∃ (a t : Addr) (cls : Value) (B : Heap) (H' : Hp), e = .ref a ∧ s'.os = s.os ∧ AllBare s'.gens ∧ Un (frs outer) [] H H' s.heap s'.heap ∧
    (∀ b o, s.heap.get? b = some o → H b = none → b ∉ frs outer → B.get? b = some o) ∧ (∀ b o, s.heap.get? b = some o → b ∉ frs outer → ∃ o', B.get? b = some o') ∧
    HOk P w H' B ∧ Heap.FlyingW B outer a cls (.ref t) s'.heap ∧ s.heap.get? a = none ∧ H' a = none ∧ E cls none H'

theorem passR0 {P : Program} {w : World} {X : Cx} : Passes (CXr P w) X E0 := fun _ _ _ _ _ _ _ h => by
  obtain ⟨_, _, _, _, _, _, _, _, _, _, _, _, _, _, _, z⟩ := h
  exact False.elim z

/-- what is tracked as a caught exception -/
def excO (a : Addr) (cls : Value) : HO := .ext fun h => ∃ o, h.get? a = some o ∧ o.cls = cls
theorem excO_ok {P : Program} {w : World} {H : Hp} {h : Heap} {a : Addr} {cls : Value} {o : Obj} (e : h.get? a = some o) (c : o.cls = cls) : ObjOk P w H h a (excO a cls) :=
  ⟨⟨o, e, c⟩, ⟨o, e⟩, fun _ _ ⟨u, q, z⟩ k => ⟨u, k u q, z⟩⟩

/-- an exception has come to the frame of X; whatever the machine then writes about its way, the frame's state is the told one; ready: the object tracked -/
def Caught (X : Cx) (pins : List (Addr × Obj)) (σ : St) (a : Addr) (cls : Value) (H' : Hp) (s' : Shared) : Prop :=
  ∃ (B : Heap) (t : Addr), Heap.FlyingW B X.stack a cls (.ref t) s'.heap ∧ H' a = none ∧ ∀ h'', Heap.FlyingW B X.stack a cls (.ref t) h'' → s'.heap.UpToSlots h'' →
    Inv X pins σ H' { s' with heap := h'' } ∧ Inv X pins σ (upd H' a (excO a cls)) { s' with heap := h'' }

section
variable {X : Cx} {pins : List (Addr × Obj)} {σ : St} {H : Hp} {s s' : Shared} {E : XK} {e : Value}
theorem fly_inv (I : Inv X pins σ H s) (h : CXr X.prog X.w X.stack H s E e s') : ∃ a cls H', e = .ref a ∧ E cls none H' ∧ Caught X pins σ a cls H' s' := by
  obtain ⟨a, t, cls, B, H', rfl, os, bare, u, kB, tB, hok, fl, na, nH, hE⟩ := h
  refine ⟨a, cls, H', rfl, hE, B, t, fl, nH, fun h'' fl' up => ?_⟩
  have fr := I.stack
  have un : Un (frs X.stack) [] H H' s.heap h'' := by
    refine ⟨fun b o q n hb _ => fl'.1 b o (kB b o q n hb), fun b o q n hb hx => ?_, u.free, fun b o q hx => ?_, u.tups, u.frzs, u.tbls⟩
    · obtain ⟨sl, q1⟩ := u.slot b o q n hb hx
      obtain ⟨_, o2, q2, nf⟩ := fr.mem hb
      rw [q] at q2
      cases q2
      obtain ⟨sl', q3⟩ := up b _ q1 nf
      exact ⟨sl', q3⟩
    · by_cases hb : b ∈ frs X.stack
      · obtain ⟨sl, q1⟩ := u.slot b o q (I.stkFree b hb) hb hx
        obtain ⟨_, o2, q2, nf⟩ := fr.mem hb
        rw [q] at q2
        cases q2
        obtain ⟨sl', q3⟩ := up b _ q1 nf
        exact ⟨_, q3⟩
      · obtain ⟨o', q'⟩ := tB b o q hb
        exact ⟨o', fl'.1 b o' q'⟩
  have ok' : HOk X.prog X.w H' h'' := hok.kept fl'.1
  have neA : ∀ b o, s.heap.get? b = some o → b ≠ a := fun b o q z => by rw [z, na] at q; cases q
  have inS : ∀ b o, H b = some o → b ≠ a := fun b o q => by
    obtain ⟨v, z⟩ := objOk_get (I.hok b o q)
    exact neA b v z
  refine ⟨I.call' (s' := { s' with heap := h'' }) os un ok' bare fun b z => absurd z (by simp), ?_⟩
  refine I.call' (s' := { s' with heap := h'' }) os ⟨un.keep, un.slot, fun b o q n hx => ?_, un.there, fun b xs q => ?_, fun b o v q => ?_, fun b ps q => ?_⟩ (fun b o q => ?_) bare fun b z => absurd z (by simp)
  · rw [upd_ne (neA b o q)]
    exact un.free b o q n hx
  · rw [upd_ne (inS b _ q)]
    exact un.tups b xs q
  · rw [upd_ne (inS b _ q)]
    exact un.frzs b o v q
  · obtain ⟨more, z⟩ := un.tbls b ps q
    exact ⟨more, by rw [upd_ne (inS b _ q)]; exact z⟩
  · by_cases hb : b = a
    · subst hb
      rw [upd_same] at q
      cases q
      obtain ⟨ob, z1, z2⟩ := fl'.there
      exact excO_ok z1 z2
    · rw [upd_ne hb] at q
      refine (ok' b o q).stay (fun c v _ z => z) (fun c z => ?_) fun c xs z => ?_
      · rw [upd_ne (ne_of_none z nH)]
        exact z
      · rw [upd_ne (ne_of_none z nH)]
        exact z
end

section
variable {P : Program} {w : World} {K : PySem.W.Frag} {mg : Str → Option Value} {base : Heap} {N : List Str} {qual : Str} {scope : Scope} {f : Addr} {cd : Value} {A : Around} {outer : List Env} {s₀ : Shared} {H₀ : Hp} {E : XK}
/-- a callee's exception leaves this def, too -/
theorem pass_out : Passes (CXr P w) (cxOf (CXr P w) P w K mg base N qual scope f cd A outer s₀ H₀ E) E := by
  intro pins σ H s e s' I h
  obtain ⟨a, t, cls, B, H', rfl, os, bare, u, kB, tB, hok, fl, na, nH, hE⟩ := h
  have sub : ∀ b, b ∈ frs outer → b ∈ frs (envOfC qual scope s₀.heap.objs.size f cd :: outer) := fun b hb => by
    show b ∈ List.filterMap _ (_ :: outer)
    rw [List.filterMap_cons]
    exact List.mem_cons_of_mem _ hb
  have noL : ∀ b o, s₀.heap.get? b = some o → b ∉ frs outer → b ∉ frs (envOfC qual scope s₀.heap.objs.size f cd :: outer) := fun b o q hb z => by
    rcases List.mem_cons.mp (I.stkSub b z) with z | z
    · exact absurd (Heap.lt_size q) (by rw [z]; exact Nat.lt_irrefl _)
    · exact hb z
  have nex : ∀ b : Addr, b ∉ ([] : List Addr) := fun b z => by simp at z
  have kB' : ∀ b o, s₀.heap.get? b = some o → H₀ b = none → b ∉ frs outer → B.get? b = some o := fun b o q n hb =>
    kB b o (I.base.keep b o q n hb (nex b)) (I.base.free b o q n (nex b)) (noL b o q hb)
  have tB' : ∀ b o, s₀.heap.get? b = some o → b ∉ frs outer → ∃ o', B.get? b = some o' := fun b o q hb => by
    obtain ⟨o1, q1⟩ := I.base.there b o q (nex b)
    exact tB b o1 q1 (noL b o q hb)
  have na' : s₀.heap.get? a = none := by
    cases q : s₀.heap.get? a with
    | none => rfl
    | some o =>
      obtain ⟨o1, q1⟩ := I.base.there a o q (nex a)
      rw [na] at q1
      cases q1
  refine wpAny_leaves_onW I.ok.frames rfl fl fun h' fl' up => ⟨a, t, cls, B, H', rfl, os.trans I.os, bare, ?_, kB', tB', hok, fl', na', nH, hE⟩
  have slot' : ∀ b o, s₀.heap.get? b = some o → H₀ b = none → b ∈ frs outer → ∃ sl, h'.get? b = some { o with slots := sl } := fun b o q n hb => by
    obtain ⟨sl, q1⟩ := I.base.slot b o q n hb (nex b)
    obtain ⟨sl1, q2⟩ := u.slot b _ q1 (I.base.free b o q n (nex b)) (sub b hb) (nex b)
    obtain ⟨_, o2, q3, nf⟩ := I.funs.mem hb
    rw [q1] at q3
    cases q3
    obtain ⟨sl2, q4⟩ := up b _ q2 nf
    exact ⟨sl2, q4⟩
  refine ⟨fun b o q n hb _ => fl'.1 b o (kB' b o q n hb), fun b o q n hb _ => slot' b o q n hb, fun b o q n _ => ?_, fun b o q _ => ?_, fun b xs q => u.tups b xs (I.base.tups b xs q), fun b o v q => u.frzs b o v (I.base.frzs b o v q), fun b ps q => ?_⟩
  · obtain ⟨o1, q1⟩ := I.base.there b o q (nex b)
    exact u.free b o1 q1 (I.base.free b o q n (nex b)) (nex b)
  · by_cases hb : b ∈ frs outer
    · obtain ⟨sl, q1⟩ := slot' b o q (I.ok.frf b hb) hb
      exact ⟨_, q1⟩
    · obtain ⟨o1, q1⟩ := tB' b o q hb
      exact ⟨o1, fl'.1 b o1 q1⟩
  · obtain ⟨m1, q1⟩ := I.base.tbls b ps q
    obtain ⟨m2, q2⟩ := u.tbls b _ q1
    exact ⟨m1 ++ m2, by rw [q2, Array.append_assoc]⟩

/-- what a raise asks of the context -/
def RaiseOut (X : Cx) (E : XK) : Prop := ∀ (pins : List (Addr × Obj)) (σ : St) (H : Hp) (s : Shared) (h' : Heap) (a : Addr) (cls : Value) (vs : List Value),
  Inv X pins σ H s → Heap.MadeExcOf s.heap h' a cls vs → E cls none H → X.xe (.ref a) { s with heap := h' }
theorem raise_out : RaiseOut (cxOf (CXr P w) P w K mg base N qual scope f cd A outer s₀ H₀ E) E := by
  intro pins σ H s h' a cls vs I hx hE
  have nex : ∀ b : Addr, b ∉ ([] : List Addr) := fun b z => by simp at z
  have nfr : ∀ b o, H b = some o → b ∉ frs (envOfC qual scope s₀.heap.objs.size f cd :: outer) := fun b o q z => by
    have := I.stkFree b z
    rw [q] at this
    cases this
  have noL : ∀ b o, s₀.heap.get? b = some o → b ∉ frs outer → b ∉ frs (envOfC qual scope s₀.heap.objs.size f cd :: outer) := fun b o q hb z => by
    rcases List.mem_cons.mp (I.stkSub b z) with z | z
    · exact absurd (Heap.lt_size q) (by rw [z]; exact Nat.lt_irrefl _)
    · exact hb z
  have hokB : HOk P w H (PySem.W.hideAll s.heap (frs (envOfC qual scope s₀.heap.objs.size f cd :: outer))) := fun b o q =>
    (I.hok b o q).stay (fun c v hc z => PySem.W.hideAll_get _ z (by
      rcases hc with hc | hc
      · rw [hc]; exact nfr b o q
      · exact nfr c _ hc)) (fun _ z => z) fun _ _ z => z
  have kB : ∀ b o, s₀.heap.get? b = some o → H₀ b = none → b ∉ frs outer → (PySem.W.hideAll s.heap (frs (envOfC qual scope s₀.heap.objs.size f cd :: outer))).get? b = some o := fun b o q n hb =>
    PySem.W.hideAll_get _ (I.base.keep b o q n hb (nex b)) (noL b o q hb)
  have tB : ∀ b o, s₀.heap.get? b = some o → b ∉ frs outer → ∃ o', (PySem.W.hideAll s.heap (frs (envOfC qual scope s₀.heap.objs.size f cd :: outer))).get? b = some o' := fun b o q hb => by
    obtain ⟨o1, q1⟩ := I.base.there b o q (nex b)
    exact ⟨o1, PySem.W.hideAll_get _ q1 (noL b o q hb)⟩
  have na : s₀.heap.get? a = none := by
    cases q : s₀.heap.get? a with
    | none => rfl
    | some o =>
      obtain ⟨o1, q1⟩ := I.base.there a o q (nex a)
      rw [hx.new] at q1
      cases q1
  refine wpAny_leaves_madeW (s := { s with heap := h' }) I.ok.frames rfl (fun b o q => PySem.W.of_hideAll _ q) (PySem.W.funFrames_hide I.stack fun env he b hb => List.mem_filterMap.mpr ⟨env, he, hb⟩) hx fun h'' t fl _ _ up =>
    ⟨a, t, cls, _, H, rfl, I.os, I.bare, ?_, kB, tB, hokB, fl, na, free_of_none I.hok hx.new, hE⟩
  have slot' : ∀ b o, s₀.heap.get? b = some o → H₀ b = none → b ∈ frs outer → ∃ sl, h''.get? b = some { o with slots := sl } := fun b o q n hb => by
    obtain ⟨sl, q1⟩ := I.base.slot b o q n hb (nex b)
    obtain ⟨_, o2, q3, nf⟩ := I.funs.mem hb
    rw [q1] at q3
    cases q3
    obtain ⟨sl2, q4⟩ := up b _ (hx.keeps b _ q1) nf
    exact ⟨sl2, q4⟩
  refine ⟨fun b o q n hb _ => fl.1 b o (kB b o q n hb), fun b o q n hb _ => slot' b o q n hb, fun b o q n _ => I.base.free b o q n (nex b), fun b o q _ => ?_, I.base.tups, I.base.frzs, I.base.tbls⟩
  by_cases hb : b ∈ frs outer
  · obtain ⟨sl, q1⟩ := slot' b o q (I.ok.frf b hb) hb
    exact ⟨_, q1⟩
  · obtain ⟨o1, q1⟩ := tB b o q hb
    exact ⟨o1, fl.1 b o1 q1⟩
end

/-- a def that may raise -/
theorem okX {P : Program} {w : World} {K : PySem.W.Frag} {mg : Str → Option Value} {base : Heap} {x qual : Str} {st : Stmt} {f : Addr} {fd : FuncData} {N ps : List Str} {k : Nat} {sp : Sp} (F : Fun K x qual st f fd) (S : FnScope N ps (defScope st))
    (len : ∀ vs H Q E, sp vs H Q E → vs.length = ps.length)
    (hbody : ∀ (cdv : Value) (A : Around) (outer : List Env) (s : Shared) (H : Hp) (vs : List V) (Q : VK) (E : XK), Room k (A.deeper (envOfC qual (defScope st) s.heap.objs.size f cdv)) → sp vs H Q E →
      ∃ t, PSs (cxOf (CXr P w) P w K mg base N qual (defScope st) f cdv A outer s H E) (defBody st) t ∧ t { nx := fun _ H' => Q .non H', rt := Q } (start N vs) H) : FnOk P w K mg base (CXr P w) (k + 1) f fd ps sp := by
  obtain ⟨oc, od, kV, doc, pm, an, cdv, ct, osl, rfl, lk, hcd⟩ := F.ex
  exact fn_of lk hcd S len fun A outer s H vs Q E hr hsp => hbody cdv A outer s H vs Q E hr hsp

/-! ### raise C(..), C an own class without __init__ -/
theorem exc_cls {K : PySem.W.Frag} {h : Heap} {C : Addr} {bm : List Value} {newId : String} (X : K.In h) (q : PySem.W.excIn K C bm newId = true) :
    ∃ tl N nm qn bs hdct sn sub ab col dd k0 k1 k2 k3 k5 mN, h.get? C = some (excClassObj nm qn C N bs tl hdct sn sub ab col dd k0 k1 k2 k3 k5 newId) ∧ h.Ns N mN ∧ mN "__init__" = none ∧ OwnTail h bm tl := by
  unfold PySem.W.excIn at q
  split at q
  case h_2 => cases q
  case h_1 dd cd sl ho =>
    split at q
    case h_2 => cases q
    case h_1 C' tl k0 k1 k2 k3 n k5 hm hs =>
      simp only [Bool.and_eq_true, beq_iff_eq, Bool.not_eq_true'] at q
      obtain ⟨⟨⟨⟨⟨e1, e2⟩, hdel⟩, ht⟩, hok⟩, hni⟩ := q
      subst e1
      subst e2
      obtain ⟨nm, bs, mro, ns, qn, hd, sn, sub, ab, col, del⟩ := cd
      obtain ⟨sl⟩ := sl
      dsimp only at hm hdel hok hni hs
      subst hm
      subst hdel
      subst hs
      exact ⟨tl, ns, nm, qn, bs, hd, sn, sub, ab, col, dd, k0, k1, k2, k3, k5, _, X _ _ ho, .of_isNs (PySem.W.isNs_of_in X hok), PySem.W.nsMap_none_of_in X hok hni, PySem.W.tail_of_in X ht⟩

def tRaise (C : Addr) (E : XK) (ta : TA) : TS := fun _ σ H => ta σ H fun vs H1 => vs.length ≤ sizeLine ∧ E (.ref C) none H1
theorem ps_raise {X : Cx} {x : Str} {C : Addr} {e0 : PySem.Expr} {rest : List PySem.Expr} {ta : TA} {B newId initId : String} {bm : List Value} {E : XK} {np cpos pos : Pos} (hg : Gl X x) (hm : X.mg x = some (.ref C)) (q : PySem.W.excIn X.K C bm newId = true)
    (FB : ExcBaseFacts B newId initId bm) (hc : X.calm = true) (ho : RaiseOut X E) (ha : PA X (e0 :: rest) ta) (hdb : (x == ("__debug__" : Str)) = false := by decide)
    (he : starEach (e0 :: rest) X.env = (false, eval e0 X.env) :: starEach rest X.env := by rfl) (hpl : (backTo cpos (starEach rest X.env)).any (·.1) = false := by rfl) :
    PS X (.Raise (some (.Call (.Name x np) (e0 :: rest) [] cpos)) none pos) (tRaise C E ta) := by
  intro pins s σ H D I h
  obtain ⟨tl, N, nm, qn, bs, hdct, sn, sub, ab, col, dd, k0, k1, k2, k3, k5, mN, hC, hN, hni, TL⟩ := exc_cls I.ok.mod.kin q
  refine wpAny_Raise_call_subT (C := C) (nm := nm) (q := qn) (N := N) (bs := bs) (bm := tl) (hdct := hdct) (sn := sn) (sub := sub) (ab := ab) (col := col) (dd := dd) (k0 := k0) (k1 := k1) (k2 := k2) (k3 := k3) (k5 := k5)
    FB (mN := mN) (TL.hasType FB.hasBase) (I.ok.hd hc) ?_ hni (ld_glob I hg hm ⟨rfl, ?_⟩ hdb)
  · rw [he]
    show (false || (backTo cpos (starEach rest X.env)).any (·.1)) = false
    rw [hpl]
    rfl
  · have hargs := ha cpos pins s σ H _ I h
    rw [he] at hargs ⊢
    refine Calls.evalArgs_plain (thn hargs fun us s1 ⟨vs, H1, I1, r, z, q1⟩ => ⟨rfl, ?_, I1.bk _ _ hC, hN.keeps I1.bk, TL.keeps I1.bk, fun h' e hx => ho pins σ H1 s1 h' e _ us I1 hx q1⟩)
    rw [← r.length]
    exact z

/-! ### one call that may raise, and the try around it -/
abbrev TX := St → Hp → VK → XK → Prop
def PX (X : Cx) (e : PySem.Expr) (t : TX) : Prop :=
  ∀ (pins : List (Addr × Obj)) (s : Shared) (σ : St) (H : Hp) (Q : VK) (E : XK) (W : Value → Shared → Prop), Inv X pins σ H s → t σ H Q E → (∀ a cls H' s', Caught X pins σ a cls H' s' → E cls none H' → W (.ref a) s') →
    wpAny (model X.prog X.w) X.A (eval e X.env) (EP X pins σ Q) W s
def tXCall (sp : Sp) (dvs : List V) (t : TA) : TX := fun σ H Q E => t σ H fun vs H1 => sp (vs ++ dvs) H1 Q E
theorem px_call {X : Cx} {k : Nat} {f : Addr} {fd : FuncData} {ps : List Str} {sp : Sp} {dvs : List V} {ds : List Value} {x : Str} {p pos : Pos} {e : PySem.Expr} {es : List PySem.Expr} {t : TA}
    (F : FnOk X.prog X.w X.K X.mg X.base (CXr X.prog X.w) k f fd ps sp) (hr : Room k X.A) (hg : Gl X x) (hm : X.mg x = some (.ref f)) (hk : PySem.W.keepIn X.K (.ref f) = true) (hb : Binds X.K fd ps ds) (hd : Vals dvs ds)
    (ha : PA X.nox (e :: es) t) (hdb : (x == ("__debug__" : Str)) = false := by decide) (he : starEach (e :: es) X.env = (false, eval e X.env) :: starEach es X.env := by rfl) (hpl : (backTo pos (starEach es X.env)).any (·.1) = false := by rfl) :
    PX X (.Call (.Name x p) (e :: es) [] pos) (tXCall sp dvs t) := by
  intro pins s σ H Q E W I h hW
  refine wpAny_Call_Name_kw (ld_glob I hg hm ?_ hdb)
  refine PySem.W.callWith_K (h₀ := X.base) I.ok.mod.kin hk (wpAny_mono (ha pos pins s σ H _ (I.wish _) h) (fun us s1 ⟨vs, H1, I1', r, q⟩ => ?_) fun _ _ z => False.elim z) he hpl
  have I1 : Inv X pins σ H1 s1 := I1'.unwish
  refine ⟨I1.kIn, ?_⟩
  have r2 : Vals (vs ++ dvs) (us ++ ds) := r.append hd
  have hl : (us ++ ds).length = ps.length := by rw [← r2.length]; exact F.len _ _ _ _ q
  refine wpAny_call (codeAny_mono (F.run X.A X.stack s1 H1 ⟨us, []⟩ (us ++ ds) (vs ++ dvs) Q E hr I1.env0 (hb s1 us I1.kIn hl) r2 q) fun r s' hq => ?_)
  cases r with
  | error e =>
    obtain ⟨a, cls, H', e1, hE, c⟩ := fly_inv I1 hq
    subst e1
    exact hW a cls H' s' c hE
  | ok fl =>
    cases fl with
    | ret u => exact I1.after hq
    | next => exact False.elim hq
    | brk => exact False.elim hq
    | cont => exact False.elim hq

abbrev TXS := Ends → St → Hp → XK → Prop
def PXS (X : Cx) (body : List Stmt) (t : TXS) : Prop :=
  ∀ (pins : List (Addr × Obj)) (s : Shared) (σ : St) (H : Hp) (D : Ends) (E : XK) (W : Value → Shared → Prop), Inv X pins σ H s → t D σ H E → (∀ a cls H' s', Caught X pins σ a cls H' s' → E cls none H' → W (.ref a) s') →
    wpAny (model X.prog X.w) X.A (execs body X.env) (SP X pins D) W s
def tXDrop (te : TX) : TXS := fun D σ H E => te σ H (fun _ H1 => D.nx σ H1) E
theorem pxs_expr {X : Cx} {e : PySem.Expr} {te : TX} {pos : Pos} (he : PX X e te) (hs : swapsWith e none pos.line X.env = pure false := by rfl) : PXS X [.Expr e pos] (tXDrop te) := by
  intro pins s σ H D E W I h hW
  refine wpAny_execs_cons (wpAny_Expr_any (thn (he pins s σ H _ E W I h hW) fun v s1 ⟨x, H1, I1, r1, q1⟩ => ?_) I.quiet hs)
  exact wpAny_execs_nil ⟨σ, H1, I1, q1⟩
def tXSet (i : Nat) (te : TX) : TXS := fun D σ H E => te σ H (fun v H1 => D.nx (σ.set i (some v)) H1) E
/-- within an except suite -/
abbrev marked (X : Cx) (a : Addr) : Cx := { X with A := X.A.mark (some (.ref a)), calm := false }
theorem inv_marked {X : Cx} {pins : List (Addr × Obj)} {σ : St} {H : Hp} {s : Shared} (I : Inv X pins σ H s) (a : Addr) : Inv (marked X a) pins σ H s :=
  ⟨⟨I.ok.mod, I.ok.kind, I.ok.glob, I.ok.blt, I.ok.above, I.ok.inj, I.ok.has, I.ok.cab, (fun z => by cases z), I.ok.frames, I.ok.stk, I.ok.exf, I.ok.bs, I.ok.bsz, I.ok.noex, I.ok.exfs, I.ok.funs, I.ok.frf⟩, I.os, I.bare, I.base, I.loc, I.cell, I.free, I.freeC, I.pin, I.hok, I.len⟩
theorem inv_back {X : Cx} {pins : List (Addr × Obj)} {σ : St} {H : Hp} {s : Shared} {a : Addr} (ok : X.Ok) (I : Inv (marked X a) pins σ H s) : Inv X pins σ H s :=
  ⟨ok, I.os, I.bare, I.base, I.loc, I.cell, I.free, I.freeC, I.pin, I.hok, I.len⟩

/-- the name of an except clause goes -/
theorem goes_ok {X : Cx} {M : Model} {A : Around} {W : Value → Shared → Prop} {pins : List (Addr × Obj)} {σ : St} {H : Hp} {s : Shared} {i : Nat} {n : Str} {pos : Pos} {Q : Unit → Shared → Prop} (I : Inv X pins σ H s) (hN : X.N.Nodup) (hi : X.N[i]? = some n)
    (hx : X.env.scope.names.lookup n = some .local) (h : ∀ s', Inv X pins (σ.set i none) H s' → Q () s') : wpAny M A (do bindName X.env n .none; unbindBehindTheSuite X.env n pos) Q W s := by
  obtain ⟨m, hn, hl⟩ := id I.loc
  have hcls : (X.env.scope.kind == .class || (X.env.scope.kind == .module && X.env.locals != X.env.globals)) = false := by rw [I.ok.kind]; rfl
  obtain ⟨oL, _, _, hoL, _⟩ := id hn
  refine wpAny_nameGoes_keeps hx hn hcls fun h' v hn' hs => h _ ?_
  have ne : ∀ b o, X.s₀.heap.get? b = some o → b ≠ X.env.locals := fun b o e => Nat.ne_of_lt (Nat.lt_of_lt_of_le (Heap.lt_size e) I.ok.above)
  refine ⟨I.ok, I.os, I.bare, ⟨fun b o e z hb hx => ?_, fun b o e z hb hx => ?_, I.base.free, fun b o e hx => ?_, I.base.tups, I.base.frzs, I.base.tbls⟩, ⟨_, hn', fun j y v' e1 e2 e3 => ?_⟩, fun y c e => ?_, I.free, I.freeC, fun p hp => ?_, fun b o e => ?_, by simpa using I.len⟩
  · exact (hs.2 b (ne b o e)).trans (I.base.keep b o e z hb hx)
  · obtain ⟨sl, e1⟩ := I.base.slot b o e z hb hx
    exact ⟨sl, (hs.2 b (ne b o e)).trans e1⟩
  · obtain ⟨o', e1⟩ := I.base.there b o e hx
    exact ⟨o', (hs.2 b (ne b o e)).trans e1⟩
  · have hj : j ≠ i := fun z => by
      subst z
      have hlt : j < σ.length := by rw [I.len]; exact (List.getElem?_eq_some_iff.mp hi).1
      rw [List.getElem?_set_self hlt] at e2
      cases e2
    rw [List.getElem?_set_ne (Ne.symm hj)] at e2
    obtain ⟨u', r', q⟩ := hl j y v' e1 e2 e3
    have hy : y ≠ n := fun e => hj (nodup_ix hN e1 (e ▸ hi))
    refine ⟨u', r', ?_⟩
    rcases q with ⟨k, e⟩ | ⟨k, c, e, z⟩
    · exact .inl ⟨k, by simp [hy, e]⟩
    · exact .inr ⟨k, c, e, z.sameBut hs (I.cne y c e)⟩
  · obtain ⟨w', z⟩ := I.cell y c e
    exact ⟨w', z.sameBut hs (I.cne y c e)⟩
  · obtain ⟨e, z, ne', nf, d⟩ := I.pin p hp
    exact ⟨(hs.2 p.1 ne').trans e, z, ne', nf, d⟩
  · refine (I.hok b o e).stay (fun c w' hc q => (hs.2 c ?_).trans q) (fun _ q => q) fun _ _ q => q
    rintro rfl
    rcases hc with rfl | hc
    · rw [I.free] at e; cases e
    · rw [I.free] at hc; cases hc

/-- try: body / except C as n: suite. tb the body's reading, th the suite's for the exception's address -/
def tTry (K : PySem.W.Frag) (C : Addr) (i : Nat) (tb : TXS) (th : Addr → TS) : TS := fun D σ H => tb D σ H fun cls _ H' => PySem.W.exmOne K cls (.ref C) = some true ∧ ∀ a, H' a = none →
  th a { nx := fun σ2 H2 => D.nx (σ2.set i none) H2, rt := D.rt, bk := fun σ2 H2 => D.bk (σ2.set i none) H2, ct := fun σ2 H2 => D.ct (σ2.set i none) H2 } (σ.set i (some (.ref a))) (upd H' a (excO a cls))
theorem ps_try {X : Cx} {body : List Stmt} {y n : Str} {C : Addr} {i : Nat} {b0 : Stmt} {suite : List Stmt} {tb : TXS} {th : Addr → TS} {np hpos pos : Pos} (hN : X.N.Nodup) (hi : X.N[i]? = some n) (hx : X.env.scope.names.lookup n = some .local) (hg : Gl X y) (hm : X.mg y = some (.ref C))
    (hst : X.stack = X.env :: X.outer) (hfr : X.env.frame = some X.env.locals)
    (hb : PXS X body tb) (hs : ∀ a, PSs (marked X a).nox (b0 :: suite) (th a)) (hdb : (y == ("__debug__" : Str)) = false := by decide) :
    PS X (.Try body [.ExceptHandler (some (.Name y np)) (some n) (b0 :: suite) hpos] [] [] pos) (tTry X.K C i tb th) := by
  intro pins s σ H D I h
  refine wpAny_Try_except (wpAny_mono (hb pins s σ H D _ _ I h ?_) (fun f s1 q => ?_) fun _ _ z => z)
  rotate_left
  · cases f with
    | next => exact wpAny_execs_nil q
    | ret v => exact q
    | brk => exact q
    | cont => exact q
  intro a cls H' s' ⟨B, t, fl, nH, inv⟩ ⟨hq, rd⟩
  rw [hst] at fl inv
  refine wpAny_looks_onW (hst ▸ I.ok.frames) hfr fl fun h4 held4 up4 => ?_
  refine wpAny_landsW held4 fun h5 fl5 up5 => ?_
  have up45 := up4.trans up5
  have I5 := (inv h5 fl5 up45).1
  refine wpAny_handleBy_cons (codeAny_handlers_test ?_) (by intro z; cases z)
  refine ld_glob (inv_marked I5 a) hg hm ?_ hdb
  obtain ⟨ob, hob, hoc⟩ := fl5.there
  have LT : PySem.W.Looks (model X.prog X.w) h5 (typeOf (.ref a)) cls := hoc ▸ (PySem.W.Looks.ld hob).andThen .now
  refine (PySem.W.exm_one (I5.kIn) LT hq).at (codeAny_handlers_suite_as ?_)
  refine lands_againW fl5 fun h6 fl6 up6 => ?_
  have I6 := (inv h6 fl6 (up45.trans up6)).2
  refine store_ok (X := (marked X a).nox) (v := .ref a) (Inv.wish (inv_marked I6 a) (fun _ _ => False)) hN hi (.inl hx) rfl (fun s7 I7 => ?_) (.inr hx)
  refine wpAny_mono (hs a pins s7 _ _ _ I7 (rd a nH)) (fun f s8 q8 => ?_) fun _ _ z => False.elim z
  cases f with
  | next =>
    obtain ⟨σ8, H8, I8, d8⟩ := q8
    exact goes_ok (inv_back I.ok (Inv.unwish I8)) hN hi hx fun s9 I9 => ⟨_, H8, I9, d8⟩
  | brk =>
    obtain ⟨σ8, H8, I8, d8⟩ := q8
    exact goes_ok (inv_back I.ok (Inv.unwish I8)) hN hi hx fun s9 I9 => ⟨_, H8, I9, d8⟩
  | cont =>
    obtain ⟨σ8, H8, I8, d8⟩ := q8
    exact goes_ok (inv_back I.ok (Inv.unwish I8)) hN hi hx fun s9 I9 => ⟨_, H8, I9, d8⟩
  | ret u =>
    obtain ⟨v, σ8, H8, I8, rv, d8⟩ := q8
    exact goes_ok (inv_back I.ok (Inv.unwish I8)) hN hi hx fun s9 I9 => ⟨v, _, H8, I9, rv, d8⟩

end L2
/-! List comprehensions of one clause without a test, its target one name. -/
namespace L2
open PySem PySem.Spec PyProof.Rows

def cxComp (X : Cx) (scope : Scope) (cl : List (Str × Addr)) (C : Addr) (Nc : List Str) (ex : List Addr) (pins : List (Addr × Obj)) (s₀ : Shared) (H₀ : Hp) : Cx where
  prog := X.prog
  w := X.w
  K := X.K
  mg := X.mg
  base := X.base
  A := X.A
  N := Nc
  s₀ := s₀
  H₀ := H₀
  env := compEnvC scope cl C X.env
  outer := X.stack
  stack := X.stack
  ex := ex
  fn := fun y => scope.names.lookup y == some .local
  calm := true
  pn := X.pn ++ pins
  xe := fun _ _ => False

/-- what is asked of a comprehension's scope: cl its captured names, cap the names that it sees of the def's (the inner slot, the outer slot) -/
structure CompScope (X : Cx) (scope : Scope) (cl : List (Str × Addr)) (Nc : List Str) (cap : List (Nat × Nat)) : Prop where
  clos : closureFor scope X.env = pure cl
  kind : scope.kind = .function
  names : ∀ y ∈ scope.names, y.2 = .local → scope.names.lookup y.1 = some .local
  nocell : ∀ y ∈ scope.names, y.2 ≠ .cell
  sub : ∀ x c, cl.lookup x = some c → X.env.cells.lookup x = some c ∧ scope.names.lookup x ≠ some .local
  has : ∀ x, ((relabel scope X.env).names.lookup x = some .cell ∨ (relabel scope X.env).names.lookup x = some .free) → ∃ c, cl.lookup x = some c
  caps : ∀ j i, (j, i) ∈ cap → ∃ x c, Nc[j]? = some x ∧ X.N[i]? = some x ∧ cl.lookup x = some c ∧ X.env.scope.names.lookup x = some .cell ∧ (relabel scope X.env).names.lookup x = some .cell

/-- the same from facts about written lists -/
theorem comp_mk {X : Cx} {scope : Scope} {cl : List (Str × Addr)} {Nc : List Str} {cap : List (Nat × Nat)} (clos : closureFor scope X.env = pure cl) (kind : scope.kind = .function) (names : ∀ y ∈ scope.names, y.2 = .local → scope.names.lookup y.1 = some .local) (nocell : ∀ y ∈ scope.names, y.2 ≠ .cell)
    (subs : ∀ p ∈ cl, X.env.cells.lookup p.1 = some p.2 ∧ scope.names.lookup p.1 = some .free) (hass : ((relabel scope X.env).names.all fun p => (p.2 != .cell && p.2 != .free) || (cl.lookup p.1).isSome) = true)
    (caps : ∀ p ∈ cap, ∃ x c, Nc[p.1]? = some x ∧ X.N[p.2]? = some x ∧ cl.lookup x = some c ∧ X.env.scope.names.lookup x = some .cell ∧ (relabel scope X.env).names.lookup x = some .cell) : CompScope X scope cl Nc cap :=
  ⟨clos, kind, names, nocell, fun x c e => ⟨(subs (x, c) (PySem.mem_of_lookup e)).1, fun z => by
    have := (subs (x, c) (PySem.mem_of_lookup e)).2
    rw [z] at this
    cases this⟩, fun x e => by
    have key : ∀ k, (relabel scope X.env).names.lookup x = some k → (k = .cell ∨ k = .free) → ∃ c, cl.lookup x = some c := fun k e hk => by
      have := List.all_eq_true.mp hass (x, k) (PySem.mem_of_lookup e)
      rcases hk with rfl | rfl
      · exact Option.isSome_iff_exists.mp (by simpa using this)
      · exact Option.isSome_iff_exists.mp (by simpa using this)
    rcases e with e | e
    · exact key _ e (.inl rfl)
    · exact key _ e (.inr rfl), fun j i m => caps (j, i) m⟩
/-- the inner slots at the entry -/
def capSt (n : Nat) (cap : List (Nat × Nat)) (σ : St) : St := (List.range n).map fun j => ((cap.find? fun p => p.1 == j).bind fun p => σ[p.2]?).bind id

theorem capSt_get {n : Nat} {cap : List (Nat × Nat)} {σ : St} {j : Nat} {v : V} (h : (capSt n cap σ)[j]? = some (some v)) : ∃ i, (j, i) ∈ cap ∧ σ[i]? = some (some v) := by
  unfold capSt at h
  rw [List.getElem?_map] at h
  cases e : (List.range n)[j]? with
  | none => rw [e] at h; cases h
  | some k =>
    rw [e] at h
    have hk : k = j := by
      obtain ⟨hl, q⟩ := List.getElem?_eq_some_iff.mp e
      rw [List.getElem_range] at q
      exact q.symm
    subst hk
    simp only [Option.map_some, Option.some.injEq] at h
    cases f : cap.find? fun p => p.1 == k with
    | none => rw [f] at h; cases h
    | some p =>
      rw [f] at h
      have h1 := List.mem_of_find?_eq_some f
      have h2 : p.1 = k := by
        have := List.find?_some f
        exact eq_of_beq this
      refine ⟨p.2, ?_, ?_⟩
      · rw [← h2]; exact h1
      · simp only [Option.bind_some] at h
        cases g : σ[p.2]? with
        | none => rw [g] at h; cases h
        | some o => rw [g] at h; simpa using h

section
variable {X : Cx} {pins : List (Addr × Obj)} {σ : St} {H : Hp} {s : Shared} {scope : Scope} {cl : List (Str × Addr)} {Nc : List Str} {cap : List (Nat × Nat)} {fp : List Addr}
theorem inv_comp (I : Inv X pins σ H s) (hcalm : X.calm = true) (S : CompScope X scope cl Nc cap) (hfp : ∀ b ∈ fp, FpOk X pins H b) (hob : ∀ b ∈ fp, ∃ o, s.heap.get? b = some o) {C : Addr} {h1 : Heap} {m : Str → Option Value} {tk : Nat} (hC : s.heap.objs.size ≤ C)
    (hn : h1.Ns C m) (keep : ∀ b o, s.heap.get? b = some o → h1.get? b = some o) : Inv (cxComp X scope cl C Nc fp pins s H) [] (capSt Nc.length cap σ) H { s with heap := h1, toks := tk } := by
  have neC : ∀ b o, s.heap.get? b = some o → b ≠ C := fun b o e => Nat.ne_of_lt (Nat.lt_of_lt_of_le (Heap.lt_size e) hC)
  refine ⟨⟨I.ok.mod, S.kind, I.ok.glob, I.ok.blt, hC, fun x y c e1 e2 => ?_, fun x hx => S.has x hx, fun x c e1 e2 => ?_, fun _ => I.ok.hd hcalm, I.ok.frames, .inl rfl, fun b hb => ⟨?_, fun x c e => ?_⟩, I.bs, Nat.le_trans I.ok.bsz I.sz, fun b o e hb => ?_, fun b hb z => ?_, I.stack, I.stkFree⟩,
    rfl, I.bare, Un.kept keep, ⟨m, hn, fun j x v e1 e2 e3 => ?_⟩, fun x c e => ?_, I.hok.fresh hC, fun x c e => ?_, fun p hp => ?_, I.hok.kept keep, ?_⟩
  · exact I.ok.inj x y c (S.sub x c e1).1 (S.sub y c e2).1
  · exact absurd (beq_iff_eq.mp e1) (S.sub x c e2).2
  · obtain ⟨o, e⟩ := hob b hb
    exact neC b o e
  · exact (hfp b hb).2.2.2.2.1 x c (S.sub x c e).1
  · rcases (hfp b hb).2.2.2.1 with z | z
    · exact I.ok.noex b o e z
    · exact absurd (Nat.lt_of_lt_of_le (Heap.lt_size e) (Nat.le_trans I.ok.bsz z)) (Nat.lt_irrefl _)
  · rcases List.mem_cons.mp (I.stkSub b z) with z | z
    · exact (hfp b hb).2.1 z
    · exact (hfp b hb).2.2.1 z
  · obtain ⟨i, hm, hv⟩ := capSt_get e2
    obtain ⟨x', c, q1, q2, q3, q4, q5⟩ := S.caps j i hm
    have e1' : Nc[j]? = some x := e1
    rw [q1] at e1'
    cases e1'
    obtain ⟨mo, _, hl⟩ := I.loc
    obtain ⟨u, r, l⟩ := hl i x v q2 hv (.inr (.inl q4))
    refine ⟨u, r, ?_⟩
    rcases l with ⟨k, _⟩ | ⟨_, c', e', z⟩
    · have k' : X.env.scope.names.lookup x = some .local := k
      rw [q4] at k'
      cases k'
    · have : c' = c := Option.some.inj (e'.symm.trans (S.sub x c q3).1)
      subst this
      obtain ⟨o, ho, hd⟩ := z
      exact .inr ⟨.inl q5, c', q3, ⟨o, keep _ _ ho, hd⟩⟩
  · obtain ⟨v, o, ho, hd⟩ := I.cell x c (S.sub x c e).1
    exact ⟨v, o, keep _ _ ho, hd⟩
  · exact I.freeC x c (S.sub x c e).1
  · have hp' : p ∈ X.pn ++ pins := by
      have z : p ∈ (X.pn ++ pins) ++ [] := hp
      rw [List.append_nil] at z
      exact z
    obtain ⟨e, n, ne, nf, d⟩ := I.pin p hp'
    refine ⟨keep _ _ e, n, neC _ _ e, fun z => ?_, d⟩
    rcases List.mem_cons.mp (I.stkSub p.1 z) with z | z
    · exact ne z
    · exact nf z
  · show (capSt Nc.length cap σ).length = Nc.length
    unfold capSt
    rw [List.length_map, List.length_range]

/-- back in the def -/
theorem comp_back (I : Inv X pins σ H s) (hfp : ∀ b ∈ fp, FpOk X pins H b) {C : Addr} {σc : St} {H' : Hp} {s' : Shared} {h' : Heap} (J : Inv (cxComp X scope cl C Nc fp pins s H) [] σc H' s') (hs : Heap.SameBut C s'.heap h') : Inv X pins σ H' { s' with heap := h' } := by
  have hC : s.heap.objs.size ≤ C := J.ok.above
  have neC : ∀ b o, s.heap.get? b = some o → b ≠ C := fun b o e => Nat.ne_of_lt (Nat.lt_of_lt_of_le (Heap.lt_size e) hC)
  have u := J.base
  refine I.call' (s' := { s' with heap := h' }) (ch := fp) J.os ⟨fun b o e n hb hx => ?_, fun b o e n hb hx => ?_, u.free, fun b o e hx => ?_, u.tups, u.frzs, u.tbls⟩ (fun b o e => ?_) J.bare fun b hb => ⟨(hfp b hb).2.2.2.1, (hfp b hb).2.1, (hfp b hb).2.2.2.2.1, (hfp b hb).2.2.2.2.2⟩
  · exact (hs.2 b (neC b o e)).trans (u.keep b o e n hb hx)
  · obtain ⟨sl, q⟩ := u.slot b o e n hb hx
    exact ⟨sl, (hs.2 b (neC b o e)).trans q⟩
  · obtain ⟨o', q⟩ := u.there b o e hx
    exact ⟨o', (hs.2 b (neC b o e)).trans q⟩
  · refine (J.hok b o e).stay (fun c v hc q => (hs.2 c ?_).trans q) (fun _ q => q) fun _ _ q => q
    intro z
    subst z
    have fr : H' c = none := J.free
    rcases hc with hc | hc
    · rw [hc] at fr; rw [fr] at e; cases e
    · rw [fr] at hc; cases hc
end

/-- the reading: acc the new list; W: the turn, a measure, what the list holds, the inner slots, the heap -/
def tComp (n : Nat) (cap : List (Nat × Nat)) (wi : TI) (g : TG) (te : TE) : TE := fun σ H Q => wi σ H fun J H1 => ∀ acc, H1 acc = none →
  ∃ W : Nat → Nat → List V → St → Hp → Prop, (∃ m, W 0 m [] (capSt n cap σ) (upd H1 acc (.lst []))) ∧ ∀ i m ys σc H2, W i m ys σc H2 →
    (J.stop i H2 ∧ Q (.ref acc) H2) ∨ (J.go i H2 ∧ ∀ x H3, J.yld i H2 x H3 → g x σc H3 fun σ4 H4 => te σ4 H4 fun v H5 => H5 acc = some (.lst ys) ∧ ys.length < sizeLine ∧ ∃ m', m' < m ∧ W (i + 1) m' (ys ++ [v]) σ4 (upd H5 acc (.lst (ys ++ [v]))))

theorem pe_comp {X : Cx} {elt iter : PySem.Expr} {x : Str} {px pos : Pos} {scope : Scope} {cl : List (Str × Addr)} {Nc : List Str} {cap : List (Nat × Nat)} {wi : TI} {g : TG} {te : TE} (hc : X.calm = true) (hi : PI X (.Name x px) iter wi) (S : CompScope X scope cl Nc cap)
    (hg : ∀ C fp pins s H, PG (cxComp X scope cl C Nc fp pins s H) (.Name x px) g) (he : ∀ C fp pins s H, PE (cxComp X scope cl C Nc fp pins s H) elt te)
    (hs : ∀ y, foldedSetIterable iter X.env y = pure y := by intro _; rfl) : PE X (.ListComp elt [⟨.Name x px, iter, [], 0⟩] scope pos) (tComp Nc.length cap wi g te) := by
  intro pins s σ H Q I h
  rw [eval_ListComp]
  refine wpAny_comprehension_free (use := none) (cl := cl) rfl hs S.clos S.kind S.names ?_
  show wpAny _ _ (eval iter X.env) _ _ _
  refine thn (hi pins s σ H _ I h) fun v s1 h1 => thn h1 fun itv s2 h2 => ?_
  obtain ⟨it, fp, tn, J, H2, e, I2, T, st2, f2, rd⟩ := h2
  subst e
  refine wpAny_newObj_type ?_
  have hacc : H2 s2.heap.objs.size = none := I2.hok.fresh (Nat.le_refl _)
  obtain ⟨W, ⟨m0, w0⟩, turn⟩ := rd s2.heap.objs.size hacc
  -- the list is tracked
  have I3 : Inv X pins σ (upd H2 s2.heap.objs.size (.lst [])) { s2 with heap := s2.heap.push { cls := .type "list", dict := none, data := .seq ([] : List Value).toArray } } :=
    I2.laid (t' := s2.toks) (fun b u e => Heap.get?_push_of_some _ e) (Nat.le_refl _) ⟨Nat.zero_le _, [], 0, .nil, Heap.get?_push_size _ rfl⟩
  have st3 : tn 0 (s2.heap.push { cls := .type "list", dict := none, data := .seq ([] : List Value).toArray }) := T.keep _ _ _ st2 fun b _ o e => Heap.get?_push_of_some _ e
  have f3 : ∀ b ∈ fp, FpOk X pins (upd H2 s2.heap.objs.size (.lst [])) b := fun b hb => by
    obtain ⟨o, e, _⟩ := T.obj _ _ st2 b hb
    refine ⟨?_, (f2 b hb).2⟩
    rw [upd_ne (Nat.ne_of_lt (Heap.lt_size e))]
    exact (f2 b hb).1
  generalize hh3 : s2.heap.push { cls := .type "list", dict := none, data := .seq ([] : List Value).toArray } = h3 at I3 st3 ⊢
  generalize hH3 : upd H2 s2.heap.objs.size (.lst []) = H3 at I3 f3 w0
  generalize s2.heap.objs.size = acc at *
  refine wpAny_newFunctionEnv S.nocell (by intro y hy; simp at hy) (fun h4 hns hsb => ?_) S.kind
  dsimp only at hns hsb ⊢
  have keep : ∀ b o, h3.get? b = some o → h4.get? b = some o := fun b o e => hsb.extBut b o (Nat.ne_of_lt (Heap.lt_size e)) (Heap.get?_push_of_some _ e)
  have f0 : ∀ b ∈ fp, ∃ o, h3.get? b = some o := fun b hb => by
    obtain ⟨o, e, _⟩ := T.obj _ _ st3 b hb
    exact ⟨o, e⟩
  have I4 := inv_comp (tk := s2.toks + ([] : List (Str × Value)).length) I3 hc S f3 f0 (C := h3.objs.size) (Nat.le_refl _) hns keep
  have st4 : tn 0 h4 := T.keep _ _ _ st3 fun b _ o e => keep b o e
  have stat : ∀ {H' : Hp}, (∀ b ∈ fp, H' b = none) → ∀ b ∈ fp, FpOk (cxComp X scope cl h3.objs.size Nc fp pins { s2 with heap := h3 } H3) [] H' b := fun hn b hb => by
    obtain ⟨o, e⟩ := f0 b hb
    refine ⟨hn b hb, Nat.ne_of_lt (Heap.lt_size e), I4.ok.exfs b hb, .inl hb, fun x c q => (f3 b hb).2.2.2.2.1 x c (S.sub x c q).1, fun p hp => ?_⟩
    have z : p ∈ (X.pn ++ pins) ++ [] := hp
    rw [List.append_nil] at z
    exact (f3 b hb).2.2.2.2.2 p z
  have loop : codeAny (model X.prog X.w) X.A (.compLoop (.ListComp elt [⟨.Name x px, iter, [], 0⟩] scope pos) 0 (.ref it) (.ref acc) (compEnvC scope cl h3.objs.size X.env)) (compPost (model X.prog X.w) X.A X.xe none (EP X pins σ Q) (.ref acc) h3.objs.size)
      { s2 with heap := h4, toks := s2.toks + ([] : List (Str × Value)).length } := by
    refine codeAny_compLoop_list (fun n s' => ∃ i ys σ' H', Inv (cxComp X scope cl h3.objs.size Nc fp pins { s2 with heap := h3 } H3) [] σ' H' s' ∧ tn i s'.heap ∧ (∀ b ∈ fp, H' b = none) ∧ W i n ys σ' H') ?_ m0 ⟨0, [], _, H3, I4, st4, fun b hb => (f3 b hb).1, w0⟩
    rintro n s5 ⟨i, ys, σ5, H5, I5, st5, fr5, w5⟩
    rcases turn i n ys σ5 H5 w5 with ⟨stop, qn⟩ | ⟨go, step⟩
    · refine thn (T.done (cxComp X scope cl h3.objs.size Nc fp pins { s2 with heap := h3 } H3) rfl rfl rfl rfl i [] s5 σ5 H5 _ I5 (stat fr5) st5 stop) fun r s6 ⟨hr, I6⟩ => ?_
      subst hr
      obtain ⟨m6, hn6, _⟩ := I6.loc
      exact ⟨m6, hn6, fun h7 hs7 => ⟨.ref acc, H5, comp_back I3 f3 I6 hs7, rfl, qn⟩⟩
    · refine wpAny_mono (T.item (cxComp X scope cl h3.objs.size Nc fp pins { s2 with heap := h3 } H3) rfl rfl rfl rfl i [] s5 σ5 H5 (fun _ _ => False) I5 (stat fr5) st5 go) (fun r s6 ⟨u, hr, h6⟩ => ?_) fun _ _ z => False.elim z
      subst hr
      have ht : letOwnedTupleGo (.Name x px) (.ref it) u = pure () := rfl
      show wpAny (model X.prog X.w) X.A (assign (.Name x px) (compEnvC scope cl h3.objs.size X.env) u) _ _ s6
      have goal : wpAny (model X.prog X.w) X.A (letOwnedTupleGo (.Name x px) (.ref it) u >>= fun _ => assign (.Name x px) (compEnvC scope cl h3.objs.size X.env) u) (fun _ s₂ => wpAny (model X.prog X.w) X.A (eval elt (compEnvC scope cl h3.objs.size X.env)) (fun y s₃ =>
          wpAny (model X.prog X.w) X.A (call (.builtin "list.append") [.ref acc, y]) (fun _ s₄ => ∃ m, m < n ∧ ∃ i ys σ' H', Inv (cxComp X scope cl h3.objs.size Nc fp pins { s2 with heap := h3 } H3) [] σ' H' s₄ ∧ tn i s₄.heap ∧ (∀ b ∈ fp, H' b = none) ∧ W i m ys σ' H') (fun _ _ => False) s₃) (fun _ _ => False) s₂) (fun _ _ => False) s6 := by
        refine wpAny_bind (thn h6 fun _ s7 ⟨y, H7, I7, r7, y7, st7, fr7⟩ => ?_)
        have I7' := I7.pinned (stat fr7) (T.obj _ _ st7)
        have kp : ∀ {σ8 : St} {H8 : Hp} {s8 : Shared}, Inv (cxComp X scope cl h3.objs.size Nc fp pins { s2 with heap := h3 } H3) ([] ++ pinsAt fp s7.heap) σ8 H8 s8 → tn (i + 1) s8.heap ∧ ∀ b ∈ fp, H8 b = none := fun {σ8 H8 s8} I8 =>
          ⟨T.keep _ _ _ st7 fun b hb o e => (I8.pin (b, o) (List.mem_append_right _ (List.mem_append_right _ (mem_pinsAt hb e)))).1, fun b hb => by
            obtain ⟨o, e, d⟩ := T.obj _ _ st7 b hb
            exact (I8.pin (b, o) (List.mem_append_right _ (List.mem_append_right _ (mem_pinsAt hb e)))).2.1⟩
        refine thn (hg _ _ _ _ _ _ s7 σ5 H7 y u _ I7' r7 (step y H7 y7)) fun _ s8 ⟨σ8, H8, I8, q8⟩ => ?_
        refine thn (he _ _ _ _ _ _ s8 σ8 H8 _ I8 q8) fun w9 s9 ⟨v9, H9, I9, r9, e9, l9, m', hm, q9⟩ => ?_
        refine thn (mt_append _ s9 σ8 H9 (.ref acc) [v9] (.ref acc) [w9] (fun _ H10 => W (i + 1) m' (ys ++ [v9]) σ8 H10) I9 rfl (.cons r9 .nil) ⟨acc, ys, v9, rfl, rfl, e9, l9, q9⟩) fun _ s10 ⟨_, H10, I10, _, q10⟩ => ?_
        obtain ⟨st10, fr10⟩ := kp I10
        exact ⟨m', hm, i + 1, ys ++ [v9], σ8, H10, I10.unpinned, st10, fr10, q10⟩
      rw [ht] at goal
      refine wpAny_mono (show wpAny (model X.prog X.w) X.A (assign (.Name x px) (compEnvC scope cl h3.objs.size X.env) u) _ _ s6 from goal) (fun _ s7 h7 => ?_) fun _ _ z => False.elim z
      refine wpAny_mono h7 (fun y s8 h8 => ?_) fun _ _ z => False.elim z
      exact wpAny_mono h8 (fun _ _ z => z) fun _ _ z => False.elim z
  exact codeAny_compStart_list loop (T.self _ 0 _ _ _ st4 loop)
end L2
/-! a list comprehension of one clause with one test -/
namespace L2
open PySem PySem.Spec PyProof.Rows
def tCompF (n : Nat) (cap : List (Nat × Nat)) (wi : TI) (g : TG) (tt : TT) (te : TE) : TE := fun σ H Q => wi σ H fun J H1 => ∀ acc, H1 acc = none →
  ∃ W : Nat → Nat → List V → St → Hp → Prop, (∃ m, W 0 m [] (capSt n cap σ) (upd H1 acc (.lst []))) ∧ ∀ i m ys σc H2, W i m ys σc H2 →
    (J.stop i H2 ∧ Q (.ref acc) H2) ∨ (J.go i H2 ∧ ∀ x H3, J.yld i H2 x H3 → g x σc H3 fun σ4 H4 => tt σ4 H4 fun ok H5 => if ok = true then (te σ4 H5 fun v H6 => H6 acc = some (.lst ys) ∧ ys.length < sizeLine ∧ ∃ m', m' < m ∧ W (i + 1) m' (ys ++ [v]) σ4 (upd H6 acc (.lst (ys ++ [v])))) else ∃ m', m' < m ∧ W (i + 1) m' ys σ4 H5)
theorem pe_compF {X : Cx} {elt ct iter : PySem.Expr} {x : Str} {px pos : Pos} {scope : Scope} {cl : List (Str × Addr)} {Nc : List Str} {cap : List (Nat × Nat)} {wi : TI} {g : TG} {tt : TT} {te : TE} (hc : X.calm = true) (hi : PI X (.Name x px) iter wi) (S : CompScope X scope cl Nc cap)
    (hg : ∀ C fp pins s H, PG (cxComp X scope cl C Nc fp pins s H) (.Name x px) g) (ht : ∀ C fp pins s H, PT (cxComp X scope cl C Nc fp pins s H) ct tt) (he : ∀ C fp pins s H, PE (cxComp X scope cl C Nc fp pins s H) elt te)
    (hs : ∀ y, foldedSetIterable iter X.env y = pure y := by intro _; rfl) : PE X (.ListComp elt [⟨.Name x px, iter, [ct], 0⟩] scope pos) (tCompF Nc.length cap wi g tt te) := by
  intro pins s σ H Q I h
  rw [eval_ListComp]
  refine wpAny_comprehension_free (use := none) (cl := cl) rfl hs S.clos S.kind S.names ?_
  show wpAny _ _ (eval iter X.env) _ _ _
  refine thn (hi pins s σ H _ I h) fun v s1 h1 => thn h1 fun itv s2 h2 => ?_
  obtain ⟨it, fp, tn, J, H2, e, I2, T, st2, f2, rd⟩ := h2
  subst e
  refine wpAny_newObj_type ?_
  have hacc : H2 s2.heap.objs.size = none := I2.hok.fresh (Nat.le_refl _)
  obtain ⟨W, ⟨m0, w0⟩, turn⟩ := rd s2.heap.objs.size hacc
  -- the list is tracked
  have I3 : Inv X pins σ (upd H2 s2.heap.objs.size (.lst [])) { s2 with heap := s2.heap.push { cls := .type "list", dict := none, data := .seq ([] : List Value).toArray } } :=
    I2.laid (t' := s2.toks) (fun b u e => Heap.get?_push_of_some _ e) (Nat.le_refl _) ⟨Nat.zero_le _, [], 0, .nil, Heap.get?_push_size _ rfl⟩
  have st3 : tn 0 (s2.heap.push { cls := .type "list", dict := none, data := .seq ([] : List Value).toArray }) := T.keep _ _ _ st2 fun b _ o e => Heap.get?_push_of_some _ e
  have f3 : ∀ b ∈ fp, FpOk X pins (upd H2 s2.heap.objs.size (.lst [])) b := fun b hb => by
    obtain ⟨o, e, _⟩ := T.obj _ _ st2 b hb
    refine ⟨?_, (f2 b hb).2⟩
    rw [upd_ne (Nat.ne_of_lt (Heap.lt_size e))]
    exact (f2 b hb).1
  generalize hh3 : s2.heap.push { cls := .type "list", dict := none, data := .seq ([] : List Value).toArray } = h3 at I3 st3 ⊢
  generalize hH3 : upd H2 s2.heap.objs.size (.lst []) = H3 at I3 f3 w0
  generalize s2.heap.objs.size = acc at *
  refine wpAny_newFunctionEnv S.nocell (by intro y hy; simp at hy) (fun h4 hns hsb => ?_) S.kind
  dsimp only at hns hsb ⊢
  have keep : ∀ b o, h3.get? b = some o → h4.get? b = some o := fun b o e => hsb.extBut b o (Nat.ne_of_lt (Heap.lt_size e)) (Heap.get?_push_of_some _ e)
  have f0 : ∀ b ∈ fp, ∃ o, h3.get? b = some o := fun b hb => by
    obtain ⟨o, e, _⟩ := T.obj _ _ st3 b hb
    exact ⟨o, e⟩
  have I4 := inv_comp (tk := s2.toks + ([] : List (Str × Value)).length) I3 hc S f3 f0 (C := h3.objs.size) (Nat.le_refl _) hns keep
  have st4 : tn 0 h4 := T.keep _ _ _ st3 fun b _ o e => keep b o e
  have stat : ∀ {H' : Hp}, (∀ b ∈ fp, H' b = none) → ∀ b ∈ fp, FpOk (cxComp X scope cl h3.objs.size Nc fp pins { s2 with heap := h3 } H3) [] H' b := fun hn b hb => by
    obtain ⟨o, e⟩ := f0 b hb
    refine ⟨hn b hb, Nat.ne_of_lt (Heap.lt_size e), I4.ok.exfs b hb, .inl hb, fun x c q => (f3 b hb).2.2.2.2.1 x c (S.sub x c q).1, fun p hp => ?_⟩
    have z : p ∈ (X.pn ++ pins) ++ [] := hp
    rw [List.append_nil] at z
    exact (f3 b hb).2.2.2.2.2 p z
  have loop : codeAny (model X.prog X.w) X.A (.compLoop (.ListComp elt [⟨.Name x px, iter, [ct], 0⟩] scope pos) 0 (.ref it) (.ref acc) (compEnvC scope cl h3.objs.size X.env)) (compPost (model X.prog X.w) X.A X.xe none (EP X pins σ Q) (.ref acc) h3.objs.size)
      { s2 with heap := h4, toks := s2.toks + ([] : List (Str × Value)).length } := by
    refine codeAny_compLoop_tests (fun n s' => ∃ i ys σ' H', Inv (cxComp X scope cl h3.objs.size Nc fp pins { s2 with heap := h3 } H3) [] σ' H' s' ∧ tn i s'.heap ∧ (∀ b ∈ fp, H' b = none) ∧ W i n ys σ' H') ?_ m0 ⟨0, [], _, H3, I4, st4, fun b hb => (f3 b hb).1, w0⟩
    rintro n s5 ⟨i, ys, σ5, H5, I5, st5, fr5, w5⟩
    rcases turn i n ys σ5 H5 w5 with ⟨stop, qn⟩ | ⟨go, step⟩
    · refine thn (T.done (cxComp X scope cl h3.objs.size Nc fp pins { s2 with heap := h3 } H3) rfl rfl rfl rfl i [] s5 σ5 H5 _ I5 (stat fr5) st5 stop) fun r s6 ⟨hr, I6⟩ => ?_
      subst hr
      obtain ⟨m6, hn6, _⟩ := I6.loc
      exact ⟨m6, hn6, fun h7 hs7 => ⟨.ref acc, H5, comp_back I3 f3 I6 hs7, rfl, qn⟩⟩
    · refine wpAny_mono (T.item (cxComp X scope cl h3.objs.size Nc fp pins { s2 with heap := h3 } H3) rfl rfl rfl rfl i [] s5 σ5 H5 (fun _ _ => False) I5 (stat fr5) st5 go) (fun r s6 ⟨u, hr, h6⟩ => ?_) fun _ _ z => False.elim z
      subst hr
      have hto : letOwnedTupleGo (.Name x px) (.ref it) u = pure () := rfl
      show wpAny (model X.prog X.w) X.A (assign (.Name x px) (compEnvC scope cl h3.objs.size X.env) u) _ _ s6
      have goal : wpAny (model X.prog X.w) X.A (letOwnedTupleGo (.Name x px) (.ref it) u >>= fun _ => assign (.Name x px) (compEnvC scope cl h3.objs.size X.env) u) (fun _ s₂ => wpAny (model X.prog X.w) X.A (isTrue ct (compEnvC scope cl h3.objs.size X.env) (eval ct (compEnvC scope cl h3.objs.size X.env))) (fun ok s₃ => if ok = true then
          wpAny (model X.prog X.w) X.A (eval elt (compEnvC scope cl h3.objs.size X.env)) (fun y s₄ => wpAny (model X.prog X.w) X.A (call (.builtin "list.append") [.ref acc, y]) (fun _ s₅ => ∃ m, m < n ∧ ∃ i ys σ' H', Inv (cxComp X scope cl h3.objs.size Nc fp pins { s2 with heap := h3 } H3) [] σ' H' s₅ ∧ tn i s₅.heap ∧ (∀ b ∈ fp, H' b = none) ∧ W i m ys σ' H') (fun _ _ => False) s₄) (fun _ _ => False) s₃
          else ∃ m, m < n ∧ ∃ i ys σ' H', Inv (cxComp X scope cl h3.objs.size Nc fp pins { s2 with heap := h3 } H3) [] σ' H' s₃ ∧ tn i s₃.heap ∧ (∀ b ∈ fp, H' b = none) ∧ W i m ys σ' H') (fun _ _ => False) s₂) (fun _ _ => False) s6 := by
        refine wpAny_bind (thn h6 fun _ s7 ⟨y, H7, I7, r7, y7, st7, fr7⟩ => ?_)
        have I7' := I7.pinned (stat fr7) (T.obj _ _ st7)
        have kp : ∀ {σ8 : St} {H8 : Hp} {s8 : Shared}, Inv (cxComp X scope cl h3.objs.size Nc fp pins { s2 with heap := h3 } H3) ([] ++ pinsAt fp s7.heap) σ8 H8 s8 → tn (i + 1) s8.heap ∧ ∀ b ∈ fp, H8 b = none := fun {σ8 H8 s8} I8 =>
          ⟨T.keep _ _ _ st7 fun b hb o e => (I8.pin (b, o) (List.mem_append_right _ (List.mem_append_right _ (mem_pinsAt hb e)))).1, fun b hb => by
            obtain ⟨o, e, d⟩ := T.obj _ _ st7 b hb
            exact (I8.pin (b, o) (List.mem_append_right _ (List.mem_append_right _ (mem_pinsAt hb e)))).2.1⟩
        refine thn (hg _ _ _ _ _ _ s7 σ5 H7 y u _ I7' r7 (step y H7 y7)) fun _ s8 ⟨σ8, H8, I8, q8⟩ => ?_
        refine thn (ht _ _ _ _ _ _ s8 σ8 H8 _ I8 q8) fun ok s9 ⟨H9, I9, q9⟩ => ?_
        cases ok with
        | false =>
          rw [if_neg Bool.false_ne_true] at q9 ⊢
          obtain ⟨m', hm, w'⟩ := q9
          obtain ⟨st9, fr9⟩ := kp I9
          exact ⟨m', hm, i + 1, ys, σ8, H9, I9.unpinned, st9, fr9, w'⟩
        | true =>
          rw [if_pos rfl] at q9 ⊢
          refine thn (he _ _ _ _ _ _ s9 σ8 H9 _ I9 q9) fun w10 s10 ⟨v10, H10, I10, r10, e10, l10, m', hm, q10⟩ => ?_
          refine thn (mt_append _ s10 σ8 H10 (.ref acc) [v10] (.ref acc) [w10] (fun _ H11 => W (i + 1) m' (ys ++ [v10]) σ8 H11) I10 rfl (.cons r10 .nil) ⟨acc, ys, v10, rfl, rfl, e10, l10, q10⟩) fun _ s11 ⟨_, H11, I11, _, q11⟩ => ?_
          obtain ⟨st11, fr11⟩ := kp I11
          exact ⟨m', hm, i + 1, ys ++ [v10], σ8, H11, I11.unpinned, st11, fr11, q11⟩
      rw [hto] at goal
      refine wpAny_mono (show wpAny (model X.prog X.w) X.A (assign (.Name x px) (compEnvC scope cl h3.objs.size X.env) u) _ _ s6 from goal) (fun _ s7 h7 => ?_) fun _ _ z => False.elim z
      refine wpAny_tests_one (wpAny_mono h7 (fun ok s8 h8 => ?_) fun _ _ z => False.elim z)
      cases ok with
      | false => exact h8
      | true => exact wpAny_mono h8 (fun y s9 h9 => wpAny_mono h9 (fun _ _ z => z) fun _ _ z => False.elim z) fun _ _ z => False.elim z
  exact codeAny_compStart_list loop (T.self _ 0 _ _ _ st4 loop)
end L2
/-! More operations: big products and quotients, range with a step, isinstance, is, all. -/
namespace L2
open PySem PySem.Spec PyProof.Rows
section
variable {X : Cx}
/-- a size that every number of the laws keeps -/
def Big (i : Int) : Prop := i.natAbs < 2 ^ 8000
theorem big_log {i : Int} (h : Big i) : i.natAbs.log2 < 8000 := by
  by_cases z : i.natAbs = 0
  · rw [z]; decide
  · exact (Nat.log2_lt z).mpr h
def CMulB (i j : Int) : Prop := Big i ∧ Big j
def CDivB (_ j : Int) : Prop := j ≠ 0 ∧ Big j
theorem op_fdivB : OpR X (binaryOp .FloorDiv) (rI CDivB fun i j => .int (i.fdiv j)) := opI fun _ _ _ _ _ _ _ hc q => floordiv_int hc.1 q (.inl (PyProof.noPylong_of_log2 (by have := big_log hc.2; omega)))
/-! range(lo, hi, step) -/
def Its (lo step : Int) (n : Nat) : It := ⟨fun i _ => i < n, fun i H x H' => H' = H ∧ x = .int (lo + i * step), fun i _ => n ≤ i⟩
def iRng3 (ta : TA) : TI := fun σ H R => ta σ H fun vs H1 => ∃ i j c : Int, vs = [.int i, .int j, .int c] ∧ 0 < c ∧ c < 1000 ∧ Builtin.Range.small i j c = true ∧ R (Its i c (Builtin.Range.rangeSize i j c).toNat) H1
/-! isinstance -/
def rIsi (K : PySem.W.Frag) (c : V) (cv : Value) : List V → Hp → VK → Prop := fun xs H Q => ∃ x t b, xs = [x, c] ∧ TyOf K H x t ∧ PySem.W.kitOne K t cv = some b ∧ Q (.bl b) H
theorem call_isi {c : V} {cv : Value} (hc : ∀ u, RelV c u → u = cv) : CallR X (.builtin "isinstance") (rIsi X.K c cv) := by
  intro pins s σ H xs us Q I r h
  obtain ⟨x, t, b, rfl, ty, e, q⟩ := h
  obtain ⟨u, w', rfl, r1, r2⟩ := vals2 r
  cases hc w' r2
  exact isinst_ok I r1 ty e fun tk => ⟨.bl b, H, I.tok _, rfl, q⟩
end
end L2
namespace L2
open PySem PySem.Spec PyProof.Rows
theorem bt_isinstance : bootBuiltins "isinstance" = some (.builtin "isinstance") := by decide +kernel
theorem bt_int : bootBuiltins "int" = some (.type "int") := by decide +kernel
theorem bt_bool : bootBuiltins "bool" = some (.type "bool") := by decide +kernel
theorem bt_tuple : bootBuiltins "tuple" = some (.type "tuple") := by decide +kernel
theorem bt_len : bootBuiltins "len" = some (.builtin "len") := by decide +kernel
theorem bt_abs : bootBuiltins "abs" = some (.builtin "abs") := by decide +kernel
theorem bt_min : bootBuiltins "min" = some (.builtin "min") := by decide +kernel
theorem kit_self (K : PySem.W.Frag) (t : Value) : PySem.W.kitOne K t t = some true := by
  unfold PySem.W.kitOne
  rw [if_pos (beq_self_eq_true t)]
theorem kit_int_bool (K : PySem.W.Frag) : PySem.W.kitOne K (.type "int") (.type "bool") = some false := by first | rfl | decide +kernel | kernel_rfl
section
variable {X : Cx}
def rIsiX (K : PySem.W.Frag) (c : V) (cv : Value) : List V → Hp → VK → Prop := fun xs H Q => ∃ a cls, xs = [.ref a, c] ∧ H a = some (excO a cls) ∧ PySem.W.kitOne K cls cv = some true ∧ Q (.bl true) H
end
end L2
/-! all of a list of truths; a loop over zip of two lists -/
namespace L2
open PySem PySem.Spec PyProof.Rows
section
variable {X : Cx}
theorem vals_bl : ∀ {bs : List Bool} {us : List Value}, Vals (bs.map V.bl) us → us = bs.map Value.bool
  | [], _, .nil => rfl
  | b :: r, _, .cons (b := u) h t => by
    have h' : u = Value.bool b := h
    rw [h', vals_bl t]
    rfl
def rAll (K : PySem.W.Frag) : List V → Hp → VK → Prop := fun xs H Q => ∃ (p : Addr) (bs : List Bool), xs = [.ref p] ∧ SqL K H p (bs.map V.bl) ∧ Q (.bl (bs.all id)) H
end
end L2
/-! a loop over enumerate of a tuple; insert; the least of a tuple of numbers; two lists of numbers -/
namespace L2
open PySem PySem.Spec PyProof.Rows
section
variable {prog : Program} {w : World} {A : Around} {E : Value → Shared → Prop} {s : Shared}
set_option maxHeartbeats 1000000 in
theorem meets_enumT (t : Addr) (vs : Array Value) (n : Nat) (dct : Option Addr) (sl : Array (Option Value)) :
    Meets (Builtin.«enumerate.__new__» ⟨[.type "enumerate", .ref t], []⟩) (fun _ R s => s.heap.get? t = some { cls := .type "tuple", dict := dct, data := .seq vs n, slots := sl } ∧
      R (.ok (.ret (.ref (s.heap.push { cls := .type "tuple_iterator", data := .fields #[.ref t, .int 0 0] }).objs.size)))
        { s with heap := (s.heap.push { cls := .type "tuple_iterator", data := .fields #[.ref t, .int 0 0] }).push { cls := .type "enumerate", data := .fields #[.none, .bool false, .ref s.heap.objs.size, rawInt 0, .none, .none] } }) :=
  .of_wp fun prog w A R s h => by
    obtain ⟨hp, g, d, tk, os⟩ := s; obtain ⟨ht, h⟩ := h
    have hsub := sub_enumerate
    have hT : Heap.IsTuple (Shared.heap ⟨hp, g, d, tk, os⟩) t vs := ⟨_, ht, rfl, n, rfl⟩
    wp_walk using AutoSeq1.wpAny_loadPart' ht
    refine wpAny_stack_any fun st => wpAny_pure ?_
    split
    · rename_i c _ _ _ _ _
      cases (c == Value.type "enumerate") <;> (wp_walk using AutoSeq1.wpAny_loadPart' ht, wpAny_pyIter_tuple hT; exact ⟨_, rfl, h⟩)
    · wp_walk using AutoSeq1.wpAny_loadPart' ht, wpAny_pyIter_tuple hT; exact ⟨_, rfl, h⟩
theorem call_enumT {t : Addr} {vs : Array Value} {Q : Value → Shared → Prop} (hT : s.heap.IsTuple t vs)
    (h : ∀ h', IsEnum h' (s.heap.objs.size + 1) s.heap.objs.size 0 .none → h'.IsTupleIter s.heap.objs.size t 0 → (∀ b o, s.heap.get? b = some o → h'.get? b = some o) → Q (.ref (s.heap.objs.size + 1)) { s with heap := h' }) :
    wpAny (model prog w) A (call (.type "enumerate") [.ref t]) Q E s := by
  obtain ⟨⟨c, dct, dt, sl⟩, ht, hc, n, hd⟩ := hT
  obtain rfl : c = .type "tuple" := hc
  obtain rfl : dt = .seq vs n := hd
  refine callType_new PySem.F.called_enumerate (by decide) (PySem.F.typeCall_enumerate_1 _) (PySem.F.newCall_enumerate_1 _) (fun obj => PySem.F.args_object_init_2 obj _) PySem.F.entry_enumerate_new (meets_enumT t vs n dct sl) ⟨ht, ?_⟩
  have z : (s.heap.push { cls := .type "tuple_iterator", data := .fields #[.ref t, .int 0 0] }).objs.size = s.heap.objs.size + 1 := Heap.size_push ..
  show _ ∧ _
  rw [z]
  have he : IsEnum ((s.heap.push { cls := .type "tuple_iterator", data := .fields #[.ref t, .int 0 0] }).push { cls := .type "enumerate", data := .fields #[.none, .bool false, .ref s.heap.objs.size, rawInt 0, .none, .none] }) (s.heap.objs.size + 1) s.heap.objs.size 0 .none := by
    have q := Heap.get?_push_size (s.heap.push { cls := .type "tuple_iterator", data := .fields #[.ref t, .int 0 0] }) (o := { cls := .type "enumerate", data := .fields #[.none, .bool false, .ref s.heap.objs.size, rawInt 0, .none, .none] }) rfl
    rw [z] at q
    exact q
  exact ⟨⟨_, he, rfl⟩, h _ he ⟨_, Heap.get?_push_of_some _ (Heap.get?_push_size _ rfl), rfl, rfl⟩ fun b o q => Heap.get?_push_of_some _ (Heap.get?_push_of_some _ q)⟩
end
section
variable {X : Cx}
/-- enumerate(t), t a tuple -/
def Ite (a : Addr) : It :=
  ⟨fun i H => ∃ xs x, H a = some (.tup xs) ∧ xs[i]? = some x,
   fun i H v H' => ∃ p x, v = .ref p ∧ H p = none ∧ H' = upd H p (.tup [.int i, x]) ∧ ∀ xs, H a = some (.tup xs) → xs[i]? = some x,
   fun i H => ∃ xs, H a = some (.tup xs) ∧ xs.length = i⟩
def iEnum (ta : TA) : TI := fun σ H R => ta σ H fun vs H1 => ∃ a xs, vs = [.ref a] ∧ H1 a = some (.tup xs) ∧ R (Ite a) H1
/-- xs.insert(k, y), k within -/
def rInsert : V → List V → Hp → VK → Prop := fun x vs H Q => ∃ l xs k y, x = .ref l ∧ vs = [.int k, y] ∧ H l = some (.lst xs) ∧ 0 ≤ k ∧ k ≤ xs.length ∧ xs.length < 1000000 ∧ Q .non (upd H l (.lst (xs.take k.toNat ++ y :: xs.drop k.toNat)))
theorem mt_insert : MtM X "list.insert" rInsert := by
  intro pins s σ H x vs v us Q I rx rv h
  obtain ⟨l, xs, k, y, rfl, rfl, hH, k0, k1, hz, q⟩ := h
  cases rx
  obtain ⟨u1, u2, rfl, r1, r2⟩ := vals2 rv
  obtain ⟨t, rfl⟩ := r1
  obtain ⟨z, its, n, r, hl, e⟩ := I.lstM hH
  have hzs : its.length ≤ sizeLine := by rw [← hl]; exact z
  have hfit : ¬ (!Builtin.List.listFitsIndex k) = true := by
    unfold Builtin.List.listFitsIndex
    simp only [Bool.not_eq_true, Bool.not_eq_false', Bool.and_eq_true, decide_eq_true_eq]
    omega
  refine call_meets PySem.F.slot_list_insert ⟨_, e, rfl⟩ PySem.F.entry_list_insert (PySem.F.args_list_insert_3 _ _ _) (AutoSeq1.list_insert_list_int_val_1 l its.toArray n k t u2 hfit (by rw [List.size_toArray]; exact hzs)) ⟨e, ?_⟩
  refine ⟨.non, _, I.lset (its' := its.take k.toNat ++ u2 :: its.drop k.toNat) hH e ?_ ((r.take _).append (.cons r2 (r.drop _))) ?_, rfl, q⟩
  · have hk : ¬ k < 0 := by omega
    have hm : min k.toNat its.toArray.size = k.toNat := by rw [List.size_toArray]; omega
    simp only [if_neg hk, hm]
    apply Array.toList_inj.mp
    simp
    exact List.take_of_length_le (by simp)
  · rw [List.length_append, List.length_cons, List.length_take, List.length_drop]
    rw [sizeLine_eq] at *
    omega

end
end L2
/-! a loop over enumerate of a list -/
namespace L2
open PySem PySem.Spec PyProof.Rows
section
variable {X : Cx}
/-- enumerate(t), t a list -/
def ItEl (a : Addr) : It :=
  ⟨fun i H => ∃ xs x, H a = some (.lst xs) ∧ xs[i]? = some x,
   fun i H v H' => ∃ p x, v = .ref p ∧ H p = none ∧ H' = upd H p (.tup [.int i, x]) ∧ ∀ xs, H a = some (.lst xs) → xs[i]? = some x,
   fun i H => ∃ xs, H a = some (.lst xs) ∧ xs.length = i⟩
def iEnumL (ta : TA) : TI := fun σ H R => ta σ H fun vs H1 => ∃ a xs, vs = [.ref a] ∧ H1 a = some (.lst xs) ∧ R (ItEl a) H1
end
end L2
/-! two tuples of numbers compared -/
namespace L2
open PySem PySem.Spec PyProof.Rows
section
variable {X : Cx}
/-- two tuples of numbers -/
theorem vals_ints' : ∀ {ns : List Int} {us : List Value}, Vals (ns.map V.int) us → IntsAre us ns
  | [], _, .nil => .nil
  | n :: r, _, .cons (b := u) h t => by
    obtain ⟨k, rfl⟩ := h
    exact .cons n k (vals_ints' t)
theorem shaped_tup (ns : List Int) : SeqAt.shaped (.tuple (ns.map PyData.int)) = true := by
  simp [SeqAt.shaped, PyData.canLay0, PyData.depth, PySem.W.ke_canLayAll0, PySem.W.ke_depthAll]
theorem same_tup (ns ms : List Int) : PySem.Spec.same (.tuple (ns.map PyData.int)) (.tuple (ms.map PyData.int)) = decide (ns = ms) := by
  simp only [PySem.Spec.same]
  exact PySem.W.ke_sameAll ns ms
theorem op_ne_tup (hu : X.A.units + 64 < cLine) : OpR X (compareOp .NotEq) (fun x y H Q => ∃ (p q : Addr) (ns ms : List Int), x = .ref p ∧ y = .ref q ∧ H p = some (.tup (ns.map V.int)) ∧ H q = some (.tup (ms.map V.int)) ∧ Q (.bl (!decide (ns = ms))) H) := by
  intro pins s σ H x y v u Q I rx ry h
  obtain ⟨p, q, ns, ms, rfl, rfl, hp, hq, k⟩ := h
  cases rx
  cases ry
  obtain ⟨its, r1, t1, _⟩ := I.tuple (SqT.of (K := X.K) hp)
  obtain ⟨jts, r2, t2, _⟩ := I.tuple (SqT.of (K := X.K) hq)
  refine ne_dataH_same (reads_tuple_ints t1 (vals_ints' r1)) (reads_tuple_ints t2 (vals_ints' r2)) (shaped_tup ns) (shaped_tup ms) hu (SeqAt.noMix_of_shape (.tuples .int) rfl _ _ (tuples_map_has fun _ => rfl) (tuples_map_has fun _ => rfl)) ?_
  rw [same_tup]
  exact ⟨.bl _, H, I, rfl, k⟩
end
end L2
/-! [.. for a, b in ..]: a comprehension that unpacks -/
namespace L2
open PySem PySem.Spec PyProof.Rows
end L2
/-! name = [.. for ..]: the comprehension's own store -/
namespace L2
open PySem PySem.Spec PyProof.Rows
theorem ps_setComp {X : Cx} {i : Nat} {y : Str} {py spos : Pos} {elt iter : PySem.Expr} {x : Str} {px pos : Pos} {scope : Scope} {cl : List (Str × Addr)} {Nc : List Str} {cap : List (Nat × Nat)} {wi : TI} {g : TG} {te : TE} (hN : X.N.Nodup) (hiN : X.N[i]? = some y) (hy : Loc X.env.scope y)
    (hc : X.calm = true) (hi : PI X (.Name x px) iter wi) (S : CompScope X scope cl Nc cap)
    (hg : ∀ C fp pins s H, PG (cxComp X scope cl C Nc fp pins s H) (.Name x px) g) (he : ∀ C fp pins s H, PE (cxComp X scope cl C Nc fp pins s H) elt te)
    (hsw : swapsWith (.ListComp elt [⟨.Name x px, iter, [], 0⟩] scope pos) (some (.Name y py)) spos.line X.env = pure true := by rfl) (hs : ∀ z, foldedSetIterable iter X.env z = pure z := by intro _; rfl)
    (hf : X.fn y = true ∨ X.env.scope.names.lookup y = some .local := by first | exact .inl rfl | exact .inr rfl | assumption) :
    PS X (.Assign [.Name y py] (.ListComp elt [⟨.Name x px, iter, [], 0⟩] scope pos) spos) (tAsg (tComp Nc.length cap wi g te) (gName i)) := by
  intro pins s σ H D I h
  rw [exec_Assign_Name_used _ _ _ _ hsw]
  refine wpAny_bind (wpAny_standAt (wpAny_bind ?_)); show wpAny _ X.A (do let _ ← comprehension (.ListComp elt [⟨.Name x px, iter, [], 0⟩] scope pos) scope X.env _ (newList []) false (eval iter X.env) (some (assign (.Name y py) X.env))) _ _ s
  refine wpAny_bind (wpAny_mono (wpAny_comprehension_free (use := some (assign (.Name y py) X.env)) (cl := cl) (Q := fun _ s' => SP X pins D .next s') rfl hs S.clos S.kind S.names ?_) (fun _ s' hq => wpAny_pure (wpAny_pure hq)) fun _ _ e => e)
  refine thn (hi pins s σ H _ I h) fun v s1 h1 => thn h1 fun itv s2 h2 => ?_
  obtain ⟨it, fp, tn, J, H2, e, I2, T, st2, f2, rd⟩ := h2
  subst e
  refine wpAny_newObj_type ?_
  have hacc : H2 s2.heap.objs.size = none := I2.hok.fresh (Nat.le_refl _)
  obtain ⟨W, ⟨m0, w0⟩, turn⟩ := rd s2.heap.objs.size hacc
  -- the list is tracked
  have I3 : Inv X pins σ (upd H2 s2.heap.objs.size (.lst [])) { s2 with heap := s2.heap.push { cls := .type "list", dict := none, data := .seq ([] : List Value).toArray } } :=
    I2.laid (t' := s2.toks) (fun b u e => Heap.get?_push_of_some _ e) (Nat.le_refl _) ⟨Nat.zero_le _, [], 0, .nil, Heap.get?_push_size _ rfl⟩
  have st3 : tn 0 (s2.heap.push { cls := .type "list", dict := none, data := .seq ([] : List Value).toArray }) := T.keep _ _ _ st2 fun b _ o e => Heap.get?_push_of_some _ e
  have f3 : ∀ b ∈ fp, FpOk X pins (upd H2 s2.heap.objs.size (.lst [])) b := fun b hb => by
    obtain ⟨o, e, _⟩ := T.obj _ _ st2 b hb
    refine ⟨?_, (f2 b hb).2⟩
    rw [upd_ne (Nat.ne_of_lt (Heap.lt_size e))]
    exact (f2 b hb).1
  generalize hh3 : s2.heap.push { cls := .type "list", dict := none, data := .seq ([] : List Value).toArray } = h3 at I3 st3 ⊢
  generalize hH3 : upd H2 s2.heap.objs.size (.lst []) = H3 at I3 f3 w0
  generalize s2.heap.objs.size = acc at *
  refine wpAny_newFunctionEnv S.nocell (by intro y hy; simp at hy) (fun h4 hns hsb => ?_) S.kind
  dsimp only at hns hsb ⊢
  have keep : ∀ b o, h3.get? b = some o → h4.get? b = some o := fun b o e => hsb.extBut b o (Nat.ne_of_lt (Heap.lt_size e)) (Heap.get?_push_of_some _ e)
  have f0 : ∀ b ∈ fp, ∃ o, h3.get? b = some o := fun b hb => by
    obtain ⟨o, e, _⟩ := T.obj _ _ st3 b hb
    exact ⟨o, e⟩
  have I4 := inv_comp (tk := s2.toks + ([] : List (Str × Value)).length) I3 hc S f3 f0 (C := h3.objs.size) (Nat.le_refl _) hns keep
  have st4 : tn 0 h4 := T.keep _ _ _ st3 fun b _ o e => keep b o e
  have stat : ∀ {H' : Hp}, (∀ b ∈ fp, H' b = none) → ∀ b ∈ fp, FpOk (cxComp X scope cl h3.objs.size Nc fp pins { s2 with heap := h3 } H3) [] H' b := fun hn b hb => by
    obtain ⟨o, e⟩ := f0 b hb
    refine ⟨hn b hb, Nat.ne_of_lt (Heap.lt_size e), I4.ok.exfs b hb, .inl hb, fun x c q => (f3 b hb).2.2.2.2.1 x c (S.sub x c q).1, fun p hp => ?_⟩
    have z : p ∈ (X.pn ++ pins) ++ [] := hp
    rw [List.append_nil] at z
    exact (f3 b hb).2.2.2.2.2 p z
  have loop : codeAny (model X.prog X.w) X.A (.compLoop (.ListComp elt [⟨.Name x px, iter, [], 0⟩] scope pos) 0 (.ref it) (.ref acc) (compEnvC scope cl h3.objs.size X.env)) (compPost (model X.prog X.w) X.A X.xe (some (assign (.Name y py) X.env)) (fun _ s' => SP X pins D .next s') (.ref acc) h3.objs.size)
      { s2 with heap := h4, toks := s2.toks + ([] : List (Str × Value)).length } := by
    refine codeAny_compLoop_list (fun n s' => ∃ i ys σ' H', Inv (cxComp X scope cl h3.objs.size Nc fp pins { s2 with heap := h3 } H3) [] σ' H' s' ∧ tn i s'.heap ∧ (∀ b ∈ fp, H' b = none) ∧ W i n ys σ' H') ?_ m0 ⟨0, [], _, H3, I4, st4, fun b hb => (f3 b hb).1, w0⟩
    rintro n s5 ⟨i, ys, σ5, H5, I5, st5, fr5, w5⟩
    rcases turn i n ys σ5 H5 w5 with ⟨stop, qn⟩ | ⟨go, step⟩
    · refine thn (T.done (cxComp X scope cl h3.objs.size Nc fp pins { s2 with heap := h3 } H3) rfl rfl rfl rfl i [] s5 σ5 H5 _ I5 (stat fr5) st5 stop) fun r s6 ⟨hr, I6⟩ => ?_
      subst hr
      obtain ⟨m6, hn6, _⟩ := id I6.loc
      have back : Inv X pins σ H5 s6 := comp_back (h' := s6.heap) I3 f3 I6 ⟨rfl, fun _ _ => rfl⟩
      have fpC : FpOk X pins H5 h3.objs.size := I3.fpOk (Nat.le_refl _) I6.free
      show wpAny (model X.prog X.w) X.A (assign (.Name y py) X.env (.ref acc)) _ X.xe s6
      refine wpAny_assign_Name (store_ok2 (v := .ref acc) back hN hiN hy rfl (fun s7 I7 ⟨a7, sb7, e7⟩ => ?_) hf)
      have nC : h3.objs.size ≠ a7 := by
        rcases e7 with e7 | e7
        · rw [e7]; exact fpC.2.1
        · exact Ne.symm (fpC.2.2.2.2.1 _ _ e7)
      refine ⟨m6, hn6.sameBut sb7 nC, fun h8 hs8 => ⟨_, H5, ?_, qn⟩⟩
      exact I7.turned (t' := s7.toks) (fun b o hb q => (hs8.2 b hb).trans q) fpC.1 fpC.2.1 fpC.2.2.2.1 fpC.2.2.2.2.1 fpC.2.2.2.2.2
    · refine wpAny_mono (T.item (cxComp X scope cl h3.objs.size Nc fp pins { s2 with heap := h3 } H3) rfl rfl rfl rfl i [] s5 σ5 H5 (fun _ _ => False) I5 (stat fr5) st5 go) (fun r s6 ⟨u, hr, h6⟩ => ?_) fun _ _ z => False.elim z
      subst hr
      have ht : letOwnedTupleGo (.Name x px) (.ref it) u = pure () := rfl
      show wpAny (model X.prog X.w) X.A (assign (.Name x px) (compEnvC scope cl h3.objs.size X.env) u) _ _ s6
      have goal : wpAny (model X.prog X.w) X.A (letOwnedTupleGo (.Name x px) (.ref it) u >>= fun _ => assign (.Name x px) (compEnvC scope cl h3.objs.size X.env) u) (fun _ s₂ => wpAny (model X.prog X.w) X.A (eval elt (compEnvC scope cl h3.objs.size X.env)) (fun y s₃ =>
          wpAny (model X.prog X.w) X.A (call (.builtin "list.append") [.ref acc, y]) (fun _ s₄ => ∃ m, m < n ∧ ∃ i ys σ' H', Inv (cxComp X scope cl h3.objs.size Nc fp pins { s2 with heap := h3 } H3) [] σ' H' s₄ ∧ tn i s₄.heap ∧ (∀ b ∈ fp, H' b = none) ∧ W i m ys σ' H') (fun _ _ => False) s₃) (fun _ _ => False) s₂) (fun _ _ => False) s6 := by
        refine wpAny_bind (thn h6 fun _ s7 ⟨y, H7, I7, r7, y7, st7, fr7⟩ => ?_)
        have I7' := I7.pinned (stat fr7) (T.obj _ _ st7)
        have kp : ∀ {σ8 : St} {H8 : Hp} {s8 : Shared}, Inv (cxComp X scope cl h3.objs.size Nc fp pins { s2 with heap := h3 } H3) ([] ++ pinsAt fp s7.heap) σ8 H8 s8 → tn (i + 1) s8.heap ∧ ∀ b ∈ fp, H8 b = none := fun {σ8 H8 s8} I8 =>
          ⟨T.keep _ _ _ st7 fun b hb o e => (I8.pin (b, o) (List.mem_append_right _ (List.mem_append_right _ (mem_pinsAt hb e)))).1, fun b hb => by
            obtain ⟨o, e, d⟩ := T.obj _ _ st7 b hb
            exact (I8.pin (b, o) (List.mem_append_right _ (List.mem_append_right _ (mem_pinsAt hb e)))).2.1⟩
        refine thn (hg _ _ _ _ _ _ s7 σ5 H7 y u _ I7' r7 (step y H7 y7)) fun _ s8 ⟨σ8, H8, I8, q8⟩ => ?_
        refine thn (he _ _ _ _ _ _ s8 σ8 H8 _ I8 q8) fun w9 s9 ⟨v9, H9, I9, r9, e9, l9, m', hm, q9⟩ => ?_
        refine thn (mt_append _ s9 σ8 H9 (.ref acc) [v9] (.ref acc) [w9] (fun _ H10 => W (i + 1) m' (ys ++ [v9]) σ8 H10) I9 rfl (.cons r9 .nil) ⟨acc, ys, v9, rfl, rfl, e9, l9, q9⟩) fun _ s10 ⟨_, H10, I10, _, q10⟩ => ?_
        obtain ⟨st10, fr10⟩ := kp I10
        exact ⟨m', hm, i + 1, ys ++ [v9], σ8, H10, I10.unpinned, st10, fr10, q10⟩
      rw [ht] at goal
      refine wpAny_mono (show wpAny (model X.prog X.w) X.A (assign (.Name x px) (compEnvC scope cl h3.objs.size X.env) u) _ _ s6 from goal) (fun _ s7 h7 => ?_) fun _ _ z => False.elim z
      refine wpAny_mono h7 (fun y s8 h8 => ?_) fun _ _ z => False.elim z
      exact wpAny_mono h8 (fun _ _ z => z) fun _ _ z => False.elim z
  exact codeAny_compStart_list loop (T.self _ 0 _ _ _ st4 loop)
end L2
/-! name = [.. for a, b in ..]: the comprehension's own store -/
namespace L2
open PySem PySem.Spec PyProof.Rows
end L2
/-! zip of two sequences, each a list or a tuple -/
namespace L2
open PySem PySem.Spec PyProof.Rows
/-- a list's iterator, or a tuple's -/
def ItK (t : Bool) (h : Heap) (c a : Addr) (k : Nat) : Prop := if t then h.IsTupleIter c a k else h.IsListIter c a k
def SqK (t : Bool) (h : Heap) (a : Addr) (vs : Array Value) : Prop := if t then h.IsTuple a vs else h.IsList a vs
theorem ItK.ext {t : Bool} {h h' : Heap} {c b a : Addr} {k : Nat} (x : ItK t h c a k) (hs : Heap.ExtBut b h h') (n : c ≠ b) : ItK t h' c a k := by
  cases t
  · exact Heap.IsListIter.extBut x hs n
  · exact Heap.IsTupleIter.extBut x hs n
theorem ItK.at {t : Bool} {h h' : Heap} {c a : Addr} {k : Nat} (x : ItK t h c a k) (e : ∀ o, h.get? c = some o → h'.get? c = some o) : ItK t h' c a k := by
  cases t
  · exact Heap.IsListIter.at x e
  · exact Heap.IsTupleIter.at x e
theorem ItK.obj {t : Bool} {h : Heap} {c a : Addr} {k : Nat} (x : ItK t h c a k) : ∃ o, h.get? c = some o ∧ ∀ v, o.data ≠ .cell v := by
  cases t
  · obtain ⟨o, e, _, d⟩ := x
    exact ⟨o, e, fun v z => by rw [d] at z; cases z⟩
  · obtain ⟨o, e, _, d⟩ := x
    exact ⟨o, e, fun v z => by rw [d] at z; cases z⟩
theorem SqK.ext {t : Bool} {h h' : Heap} {b a : Addr} {vs : Array Value} (x : SqK t h a vs) (hs : Heap.ExtBut b h h') (n : a ≠ b) : SqK t h' a vs := by
  cases t
  · exact Heap.IsList.extBut x hs n
  · exact Heap.IsTuple.extBut x hs n
section
variable {prog : Program} {w : World} {A : Around} {E : Value → Shared → Prop} {s : Shared}
/-- the iterator of a sequence -/
def itO (t : Bool) (l : Addr) : Obj := if t then { cls := .type "tuple_iterator", data := .fields #[.ref l, .int 0 0] } else { cls := .type "list_iterator", data := .fields #[.ref l, .int 0 0] }
abbrev zk2 (t1 t2 : Bool) (h : Heap) (l1 l2 : Addr) : Heap := (h.push (itO t1 l1)).push (itO t2 l2)
abbrev zk4 (t1 t2 : Bool) (h : Heap) (l1 l2 : Addr) : Heap := ((zk2 t1 t2 h l1 l2).push { cls := .type "tuple", data := .seq #[.ref h.objs.size, .ref (h.push (itO t1 l1)).objs.size] }).push { cls := .type "tuple", data := .seq #[.none, .none] }
abbrev zk5 (t1 t2 : Bool) (h : Heap) (l1 l2 : Addr) : Heap := (zk4 t1 t2 h l1 l2).push { cls := .type "zip", data := .fields #[.none, .bool false, .bool false, .ref (zk2 t1 t2 h l1 l2).objs.size, .ref ((zk2 t1 t2 h l1 l2).push { cls := .type "tuple", data := .seq #[.ref h.objs.size, .ref (h.push (itO t1 l1)).objs.size] }).objs.size] }
set_option maxHeartbeats 4000000 in
theorem meets_zipK (t1 t2 : Bool) (l1 l2 : Addr) (xs ys : Array Value) :
    Meets (Builtin.«zip.__new__» ⟨[.type "zip", .ref l1, .ref l2], []⟩) (fun _ R s => SqK t1 s.heap l1 xs ∧ SqK t2 s.heap l2 ys ∧ R (.ok (.ret (.ref (zk4 t1 t2 s.heap l1 l2).objs.size))) { s with heap := zk5 t1 t2 s.heap l1 l2 }) :=
  .of_wp fun prog w A R s h => by
    obtain ⟨hp, g, d, tk, os⟩ := s; obtain ⟨m1, m2, h⟩ := h
    have hsub := sub_zip
    cases t1 <;> cases t2
    · have a1 : Heap.IsList (Shared.heap ⟨hp, g, d, tk, os⟩) l1 xs := m1
      have a2 : Heap.IsList (Shared.heap ⟨hp.push { cls := .type "list_iterator", data := .fields #[.ref l1, .int 0 0] }, g, d, tk, os⟩) l2 ys := Heap.IsList.push m2 _
      wp_walk using wpAny_pyIter_list a1, wpAny_pyIter_list a2
      exact ⟨_, rfl, h⟩
    · have a1 : Heap.IsList (Shared.heap ⟨hp, g, d, tk, os⟩) l1 xs := m1
      have a2 : Heap.IsTuple (Shared.heap ⟨hp.push { cls := .type "list_iterator", data := .fields #[.ref l1, .int 0 0] }, g, d, tk, os⟩) l2 ys := Heap.IsTuple.push m2 _
      wp_walk using wpAny_pyIter_list a1, wpAny_pyIter_tuple a2
      exact ⟨_, rfl, h⟩
    · have a1 : Heap.IsTuple (Shared.heap ⟨hp, g, d, tk, os⟩) l1 xs := m1
      have a2 : Heap.IsList (Shared.heap ⟨hp.push { cls := .type "tuple_iterator", data := .fields #[.ref l1, .int 0 0] }, g, d, tk, os⟩) l2 ys := Heap.IsList.push m2 _
      wp_walk using wpAny_pyIter_tuple a1, wpAny_pyIter_list a2
      exact ⟨_, rfl, h⟩
    · have a1 : Heap.IsTuple (Shared.heap ⟨hp, g, d, tk, os⟩) l1 xs := m1
      have a2 : Heap.IsTuple (Shared.heap ⟨hp.push { cls := .type "tuple_iterator", data := .fields #[.ref l1, .int 0 0] }, g, d, tk, os⟩) l2 ys := Heap.IsTuple.push m2 _
      wp_walk using wpAny_pyIter_tuple a1, wpAny_pyIter_tuple a2
      exact ⟨_, rfl, h⟩
theorem call_zipK {t1 t2 : Bool} {l1 l2 : Addr} {xs ys : Array Value} {Q : Value → Shared → Prop} (m1 : SqK t1 s.heap l1 xs) (m2 : SqK t2 s.heap l2 ys)
    (h : ∀ g, IsZip g (s.heap.objs.size + 4) (s.heap.objs.size + 2) (s.heap.objs.size + 3) .none → IsPair g (s.heap.objs.size + 2) (.ref s.heap.objs.size) (.ref (s.heap.objs.size + 1)) →
      IsPair g (s.heap.objs.size + 3) .none .none → ItK t1 g s.heap.objs.size l1 0 → ItK t2 g (s.heap.objs.size + 1) l2 0 → g.objs.size = s.heap.objs.size + 5 →
      (∀ c o, s.heap.get? c = some o → g.get? c = some o) → Q (.ref (s.heap.objs.size + 4)) { s with heap := g }) :
    wpAny (model prog w) A (call (.type "zip") [.ref l1, .ref l2]) Q E s := by
  refine callType_new PySem.F.called_zip (by decide) (PySem.F.typeCall_zip_2 _ _) (PySem.F.newCall_zip_2 _ _) (fun obj => PySem.F.args_object_init_3 obj _ _) PySem.F.entry_zip_new (meets_zipK t1 t2 l1 l2 xs ys) ⟨m1, m2, ?_⟩
  have y1 : (s.heap.push (itO t1 l1)).objs.size = s.heap.objs.size + 1 := Heap.size_push ..
  have y2 : (zk2 t1 t2 s.heap l1 l2).objs.size = s.heap.objs.size + 2 := by rw [Heap.size_push, y1]
  have y3 : ((zk2 t1 t2 s.heap l1 l2).push { cls := .type "tuple", data := .seq #[.ref s.heap.objs.size, .ref (s.heap.push (itO t1 l1)).objs.size] }).objs.size = s.heap.objs.size + 3 := by rw [Heap.size_push, y2]
  have y4 : (zk4 t1 t2 s.heap l1 l2).objs.size = s.heap.objs.size + 4 := by rw [Heap.size_push, y3]
  have y5 : (zk5 t1 t2 s.heap l1 l2).objs.size = s.heap.objs.size + 5 := by rw [Heap.size_push, y4]
  have f1 : ∀ (t : Bool) (l : Addr), (itO t l).isFreed = false := fun t l => by cases t <;> rfl
  have e5 : (zk5 t1 t2 s.heap l1 l2).get? (zk4 t1 t2 s.heap l1 l2).objs.size = some _ := Heap.get?_push_size _ rfl
  have e4 : (zk5 t1 t2 s.heap l1 l2).get? ((zk2 t1 t2 s.heap l1 l2).push { cls := .type "tuple", data := .seq #[.ref s.heap.objs.size, .ref (s.heap.push (itO t1 l1)).objs.size] }).objs.size = some _ := Heap.get?_push_of_some _ (Heap.get?_push_size _ rfl)
  have e3 : (zk5 t1 t2 s.heap l1 l2).get? (zk2 t1 t2 s.heap l1 l2).objs.size = some _ := Heap.get?_push_of_some _ (Heap.get?_push_of_some _ (Heap.get?_push_size _ rfl))
  have e2 : (zk5 t1 t2 s.heap l1 l2).get? (s.heap.push (itO t1 l1)).objs.size = some (itO t2 l2) := Heap.get?_push_of_some _ (Heap.get?_push_of_some _ (Heap.get?_push_of_some _ (Heap.get?_push_size _ (f1 _ _))))
  have e1 : (zk5 t1 t2 s.heap l1 l2).get? s.heap.objs.size = some (itO t1 l1) := Heap.get?_push_of_some _ (Heap.get?_push_of_some _ (Heap.get?_push_of_some _ (Heap.get?_push_of_some _ (Heap.get?_push_size _ (f1 _ _)))))
  have iK : ∀ (t : Bool) (g : Heap) (c l : Addr), g.get? c = some (itO t l) → ItK t g c l 0 := fun t g c l e => by cases t <;> exact ⟨_, e, rfl, rfl⟩
  show _ ∧ _
  rw [y2, y3, y4] at e5
  rw [y1, y2] at e3
  rw [y3] at e4
  rw [y1] at e2
  rw [y4]
  exact ⟨⟨_, e5, rfl⟩, h _ e5 e3 e4 (iK _ _ _ _ e1) (iK _ _ _ _ e2) y5 fun c o q => Heap.get?_push_of_some _ (Heap.get?_push_of_some _ (Heap.get?_push_of_some _ (Heap.get?_push_of_some _ (Heap.get?_push_of_some _ q))))⟩
end
end L2
/-! loops and comprehensions over zip of two sequences, each a list or a tuple -/
namespace L2
open PySem PySem.Spec PyProof.Rows
section
variable {X : Cx}
def SqS (t : Bool) (K : PySem.W.Frag) (H : Hp) (a : Addr) (xs : List V) : Prop := if t then SqT K H a xs else SqL K H a xs
theorem SqK.lt {t : Bool} {h : Heap} {a : Addr} {vs : Array Value} (x : SqK t h a vs) : a < h.objs.size := by
  cases t
  · obtain ⟨o, e, _⟩ := x
    exact Heap.lt_size e
  · obtain ⟨o, e, _⟩ := x
    exact Heap.lt_size e
theorem SqS.l {K : PySem.W.Frag} {H : Hp} {a : Addr} {xs : List V} (h : H a = some (.lst xs)) : SqS false K H a xs := SqL.of h
theorem SqS.t {K : PySem.W.Frag} {H : Hp} {a : Addr} {xs : List V} (h : H a = some (.tup xs)) : SqS true K H a xs := SqT.of h
/-- zip(l1, l2) -/
def Itk (K : PySem.W.Frag) (t1 t2 : Bool) (a b : Addr) : It :=
  ⟨fun i H => ∃ xs ys x y, SqS t1 K H a xs ∧ SqS t2 K H b ys ∧ xs[i]? = some x ∧ ys[i]? = some y,
   fun i H v H' => ∃ p x y, v = .ref p ∧ H p = none ∧ H' = upd H p (.tup [x, y]) ∧ (∀ xs, SqS t1 K H a xs → xs[i]? = some x) ∧ ∀ ys, SqS t2 K H b ys → ys[i]? = some y,
   fun i H => ∃ xs ys, SqS t1 K H a xs ∧ SqS t2 K H b ys ∧ (xs.length ≤ i ∨ ys.length ≤ i)⟩
def iZipK (K : PySem.W.Frag) (t1 t2 : Bool) (ta : TA) : TI := fun σ H R => ta σ H fun vs H1 => ∃ a b, vs = [.ref a, .ref b] ∧ (∃ xs, SqS t1 K H1 a xs) ∧ (∃ ys, SqS t2 K H1 b ys) ∧ R (Itk K t1 t2 a b) H1
end
end L2
/-! sum of a list of numbers; range downward -/
namespace L2
open PySem PySem.Spec PyProof.Rows
section
variable {X : Cx}
def iRngD (ta : TA) : TI := fun σ H R => ta σ H fun vs H1 => ∃ n : Nat, vs = [.int ((n : Int) - 1), .int (-1), .int (-1)] ∧ n ≤ 1000 ∧ R (Its ((n : Int) - 1) (-1) n) H1
end
end L2
/-! isinstance of a caught exception: its class asked for, too -/
namespace L2
open PySem PySem.Spec PyProof.Rows PySem.W
section
variable {prog : Program} {w : World} {A : Around} {E : Value → Shared → Prop} {K : Frag} {h : Heap} {g : Array GenState} {d : Drawn} {t : Nat} {os : OsState} {a C : Addr} {o : Obj}
/-- what the fragment tells of an exception's class -/
structure XCls (K : Frag) (C : Addr) : Prop where
  ga : findIn K (.ref C) "__getattribute__" = some (some (.builtin "BaseException.__getattribute__"))
  gt : findIn K (.ref C) "__getattr__" = some none
  cl : findIn K (.ref C) "__class__" = some (some (.builtin "object.__class__"))
  gg : specialIn K (.builtin "object.__class__") "__get__" = some (some (.builtin "getset_descriptor.__get__"))
  tk : takesIn K (.builtin "object.__class__") = some true
  mo : mroIn K C (.type "object") = some true
  mb : mroIn K C (.type "BaseException") = some true
  cd : (clsIn K C).isSome = true
theorem xc_get {R : Result → Shared → Prop} (T : XCls K C) (X : K.In h) (hx : h.get? a = some o) (hc : o.cls = .ref C) (hq : R (.ok (.ret (.ref C))) ⟨h, g, d, t, os⟩) :
    codeAny (model prog w) A (.call (.builtin "getset_descriptor.__get__") ⟨[.builtin "object.__class__", .ref a, .ref C], []⟩) R ⟨h, g, d, t, os⟩ := by
  have L0 : Looks (model prog w) h (typeOf (.ref a)) (.ref C) := hc ▸ (Looks.ld hx).andThen .now
  have L1 := looks_mroIn (M := model prog w) X T.mo
  refine codeAny_call_builtin KF.slot_gs.plain KF.entry_gs (KF.slot_gs.check _ _ _ _ _ _ _ _ KF.type_class (KF.args_gs _ _ _) ?_)
  unfold Builtin.«getset_descriptor.__get__» Builtin.Getset_descriptor.descrGet; rw [dga_obj]
  refine wpAny_bind (wpAny_pure ?_); unfold Builtin.Getset_descriptor.descrGetter Builtin.Getset_descriptor.descrCheckInstance Builtin.Getset_descriptor.descrNameAndClass isInstance
  simp only [KF.owner_class]
  repeat lk
  refine ⟨Code.quiet_builtin _ (by decide +kernel), codeAny_builtin KF.entry_class ?_⟩
  unfold Builtin.«object.__class__» shownTypeOf; repeat lk
  exact hq
theorem xc_entry {tk : Tok} {Q : Fin → Shared → Prop} (T : XCls K C) (X : K.In h) (hx : h.get? a = some o) (hc : o.cls = .ref C) (hq : Q (.done (.ret (.ref C))) ⟨h, g, d, t, os⟩) :
    wpAny (model prog w) A (Builtin.«object.__getattribute__» ⟨[.ref a, .str "__class__" tk], []⟩) Q E ⟨h, g, d, t, os⟩ := by
  have L1 := looks_findIn (M := model prog w) X T.cl
  have L2 := looks_specialIn (M := model prog w) X T.gg
  have L3 := looks_takesIn (M := model prog w) X T.tk
  repeat (any_goals (first | assumption | (with_reducible refine wpAny_loadPart_at hx ?_; rw [hc]) | with_reducible refine L1.at ?_ | with_reducible refine L2.at ?_ | with_reducible refine L3.at ?_ | wp_step))
  refine xc_get T X hx hc ?_
  repeat (any_goals (first | assumption | wp_step))
theorem xc_check {nameV : Value} {Q : Unit → Shared → Prop} (T : XCls K C) (X : K.In h) (hx : h.get? a = some o) (hc : o.cls = .ref C) (hq : Q () ⟨h, g, d, t, os⟩) : wpAny (model prog w) A (checkBuiltinCall "BaseException.__getattribute__" ⟨[.ref a, nameV], []⟩) Q E ⟨h, g, d, t, os⟩ := by
  have kd : builtinKind "BaseException.__getattribute__" = some .slot := by decide +kernel
  have sp : splitId "BaseException.__getattribute__" = some ("BaseException", "__getattribute__") := by decide +kernel
  have L1 := looks_mroIn (M := model prog w) X T.mb
  have ar := PySem.F.args_bexc_ga (.ref a) nameV
  simp only [checkBuiltinCall, kd, sp]
  refine wpAny_bind ?_; unfold isInstance
  repeat (first | (with_reducible refine wpAny_loadPart_at hx ?_; rw [hc]) | with_reducible refine L1.at ?_ | wp_step)
  exact hq
theorem xc_call {tk : Tok} {R : Result → Shared → Prop} (T : XCls K C) (X : K.In h) (hx : h.get? a = some o) (hc : o.cls = .ref C) (hq : R (.ok (.ret (.ref C))) ⟨h, g, d, t, os⟩) :
    codeAny (model prog w) A (.call (.builtin "BaseException.__getattribute__") ⟨[.ref a, .str "__class__" tk], []⟩) R ⟨h, g, d, t, os⟩ :=
  codeAny_call_builtin PySem.F.excAttr_ValueError.ga.plain PySem.F.entry_bexc_ga (xc_check T X hx hc (xc_entry T X hx hc hq))
theorem xc_by {tk : Tok} {fill expr : Bool} {Q : Value → Shared → Prop} (T : XCls K C) (X : K.In h) (hx : h.get? a = some o) (hc : o.cls = .ref C) (hq : Q (.ref C) ⟨h, g, d, t, os⟩) :
    wpAny (model prog w) A (getAttrBy (.ref a) (.str "__class__" tk) fill expr) Q E ⟨h, g, d, t, os⟩ := by
  have f3 := PySem.F.excAttr_ValueError.ga.bind (.ref a)
  have y0 : (expr && onTheHeap (Value.builtin "BaseException.__getattribute__")) = false := by cases expr <;> rfl
  have y2 : (Value.builtin "BaseException.__getattribute__" == Value.builtin "object.__getattribute__") = false := by decide +kernel
  have y1 : (onTheHeap (Value.ref C) && Value.builtin "BaseException.__getattribute__" == Value.builtin "object.__getattribute__") = false := by rw [y2]; rfl
  have L1 := looks_findIn (M := model prog w) X T.ga
  have L2 := looks_findIn (M := model prog w) X T.gt
  repeat (any_goals (first | assumption | (with_reducible refine wpAny_loadPart_at hx ?_; rw [hc]) | with_reducible refine L1.at ?_ | with_reducible refine L2.at ?_ | wp_step))
  refine xc_call T X hx hc ?_
  repeat (any_goals (first | assumption | wp_step))
theorem xc_attr {Q : Option Value → Shared → Prop} (T : XCls K C) (X : K.In h) (hx : h.get? a = some o) (hc : o.cls = .ref C) (hq : Q (some (.ref C)) ⟨h, g, d, t + 1, os⟩) :
    wpAny (model prog w) A (getAttr? (.ref a) "__class__") Q E ⟨h, g, d, t, os⟩ := by
  unfold getAttr? getAttrBy?
  refine wpAny_bind (wpAny_mkText (wpAny_bind (wpAny_attempt (xc_by T X hx hc (wpAny_pure hq)))))
theorem kitx_exc (T : XCls K C) : KitX K (.ref a) (.ref C) (fun h => ∃ o, h.get? a = some o ∧ o.cls = .ref C) where
  ty := fun M h _ ⟨o, h1, h2⟩ => h2 ▸ (Looks.ld h1).andThen .now
  it := fun _ _ X _ => by
    obtain ⟨cdD, hcD⟩ := Option.isSome_iff_exists.mp T.cd
    unfold clsIn at hcD
    split at hcD
    · rename_i c' d' cd' sl' ho
      intro A' Q' E' s' k q
      unfold isType loadHead
      exact wpAny_bind (wpAny_loadPart (k _ _ (X _ _ ho)) (wpAny_pure q))
    · cases hcD
  ne := fun h tp dd its n sl X htp => by
    obtain ⟨cdD, hcD⟩ := Option.isSome_iff_exists.mp T.cd
    refine Bool.eq_false_iff.mpr fun q => ?_
    obtain rfl : C = tp := Value.ref.inj (beq_iff_eq.mp q)
    unfold clsIn at hcD
    split at hcD
    · rename_i c' d' cd' sl' ho
      cases (X _ _ ho).symm.trans htp
    · cases hcD
  ca := fun {_ _ _ _ _ s} X p k => by
    obtain ⟨hh, g, d, t, os⟩ := s
    obtain ⟨o, h1, h2⟩ := p
    exact xc_attr T X h1 h2 k
end
section
variable {X : Cx}
/-- isinstance(caught, C), as the fragment decides it -/
def rIsiE (K : PySem.W.Frag) (c : V) (cv : Value) : List V → Hp → VK → Prop := fun xs H Q => ∃ (a C : Addr) (b : Bool), xs = [.ref a, c] ∧ H a = some (excO a (.ref C)) ∧ XCls K C ∧ PySem.W.kitOne K (.ref C) cv = some b ∧ Q (.bl b) H
theorem call_isiE {c : V} {cv : Value} (hc : ∀ u, RelV c u → u = cv) : CallR X (.builtin "isinstance") (rIsiE X.K c cv) := by
  intro pins s σ H xs us Q I r h
  obtain ⟨a, C, b, rfl, ha, T, e, q⟩ := h
  obtain ⟨u, w', rfl, r1, r2⟩ := vals2 r
  cases hc w' r2
  cases r1
  obtain ⟨⟨o, ho, hcl⟩, _, _⟩ := I.hok a _ ha
  exact PySem.W.kia_one (kitx_exc T) I.kIn ⟨o, ho, hcl⟩ e (fun z => nomatch z) fun tk => ⟨.bl b, H, I.tok _, rfl, q⟩
end
end L2
/-! What stands in the heap: rows of rows. A list that is still made is left out of it (del). -/
namespace My
open PySem L2
def del (H : Hp) (a : Addr) : Hp := fun b => if b = a then none else H b
theorem del_self (H : Hp) (a : Addr) : del H a a = none := if_pos rfl
theorem del_ne {H : Hp} {a b : Addr} (h : b ≠ a) : del H a b = H b := if_neg h
theorem del_sub (H : Hp) (a : Addr) : Same (del H a) H := fun b o e => by
  by_cases h : b = a
  · subst h; rw [del_self] at e; cases e
  · rw [del_ne h] at e; exact e
theorem del_mono {H H' : Hp} (a : Addr) (s : Same H H') : Same (del H a) (del H' a) := fun b o e => by
  by_cases h : b = a
  · subst h; rw [del_self] at e; cases e
  · rw [del_ne h] at e ⊢; exact s _ _ e
theorem del_up (H : Hp) (a : Addr) (o : HO) : Same (del H a) (upd H a o) := fun b u e => by
  by_cases h : b = a
  · subst h; rw [del_self] at e; cases e
  · rw [del_ne h] at e; rw [upd_ne h]; exact e
theorem del_upd (H : Hp) (a : Addr) (o : HO) : del (upd H a o) a = del H a := by
  funext b
  by_cases h : b = a
  · subst h; rw [del_self, del_self]
  · rw [del_ne h, del_ne h, upd_ne h]
theorem del_new {H : Hp} {a : Addr} (h : H a = none) : del H a = H := by
  funext b
  by_cases z : b = a
  · subst z; rw [del_self, h]
  · exact del_ne z
theorem del_at {H : Hp} {a b : Addr} {o : HO} (e : H b = some o) (h : b ≠ a) : del H a b = some o := by rw [del_ne h]; exact e
/-! rows -/
section
variable {α : Type} {R : Hp → Addr → α → Prop}
def At (R : Hp → Addr → α → Prop) (H : Hp) (bs : List Addr) (xs : List α) : Prop := bs.length = xs.length ∧ ∀ (i : Nat) (b : Addr) (x : α), bs[i]? = some b → xs[i]? = some x → R H b x
def Mo (R : Hp → Addr → α → Prop) : Prop := ∀ {H H' : Hp} {b : Addr} {x : α}, Same H H' → R H b x → R H' b x
theorem At.nil {H : Hp} : At R H [] [] := ⟨rfl, fun i b x e => by simp at e⟩
theorem At.keep {H H' : Hp} {bs : List Addr} {xs : List α} (h : At R H bs xs) (m : Mo R) (s : Same H H') : At R H' bs xs := ⟨h.1, fun i b x e1 e2 => m s (h.2 i b x e1 e2)⟩
theorem At.snoc {H : Hp} {bs : List Addr} {xs : List α} {b : Addr} {x : α} (h : At R H bs xs) (r : R H b x) : At R H (bs ++ [b]) (xs ++ [x]) := by
  refine ⟨by simp [h.1], fun i c y e1 e2 => ?_⟩
  have hl := h.1
  rcases Nat.lt_or_ge i bs.length with z | z
  · rw [List.getElem?_append_left z] at e1
    rw [List.getElem?_append_left (by omega)] at e2
    exact h.2 i c y e1 e2
  · rw [List.getElem?_append_right z] at e1
    rw [List.getElem?_append_right (by omega)] at e2
    rw [hl] at e1
    cases hi : i - xs.length with
    | zero => rw [hi] at e1 e2; cases e1; cases e2; exact r
    | succ k => rw [hi] at e1; simp at e1
theorem At.app {H : Hp} {bs cs : List Addr} {xs ys : List α} (h : At R H bs xs) (g : At R H cs ys) : At R H (bs ++ cs) (xs ++ ys) := by
  refine ⟨by simp [h.1, g.1], fun i c y e1 e2 => ?_⟩
  have hl := h.1
  rcases Nat.lt_or_ge i bs.length with z | z
  · rw [List.getElem?_append_left z] at e1
    rw [List.getElem?_append_left (by omega)] at e2
    exact h.2 i c y e1 e2
  · rw [List.getElem?_append_right z] at e1
    rw [List.getElem?_append_right (by omega)] at e2
    rw [hl] at e1
    exact g.2 _ c y e1 e2
theorem At.take {H : Hp} {bs : List Addr} {xs : List α} (h : At R H bs xs) (k : Nat) : At R H (bs.take k) (xs.take k) := by
  refine ⟨by simp [h.1], fun i c y e1 e2 => ?_⟩
  rw [List.getElem?_take] at e1 e2
  split at e1
  · rename_i hk; rw [if_pos hk] at e2; exact h.2 i c y e1 e2
  · cases e1
theorem At.drop {H : Hp} {bs : List Addr} {xs : List α} (h : At R H bs xs) (k : Nat) : At R H (bs.drop k) (xs.drop k) := by
  refine ⟨by simp [h.1], fun i c y e1 e2 => ?_⟩
  rw [List.getElem?_drop] at e1 e2
  exact h.2 _ c y e1 e2
theorem At.set {H : Hp} {bs : List Addr} {xs : List α} {b : Addr} {x : α} (h : At R H bs xs) (k : Nat) (r : R H b x) : At R H (bs.set k b) (xs.set k x) := by
  refine ⟨by simp [h.1], fun i c y e1 e2 => ?_⟩
  rw [List.getElem?_set] at e1 e2
  by_cases hk : k = i
  · subst hk
    have hl := h.1
    by_cases hb : k < bs.length
    · rw [if_pos rfl, if_pos hb] at e1
      rw [if_pos rfl, if_pos (by omega)] at e2
      cases e1; cases e2; exact r
    · rw [if_pos rfl, if_neg hb] at e1; cases e1
  · rw [if_neg hk] at e1 e2
    exact h.2 _ c y e1 e2
theorem At.get {H : Hp} {bs : List Addr} {xs : List α} {i : Nat} {x : α} (h : At R H bs xs) (e : xs[i]? = some x) : ∃ b, bs[i]? = some b ∧ R H b x := by
  have hi : i < bs.length := by rw [h.1]; exact (List.getElem?_eq_some_iff.mp e).1
  exact ⟨bs[i], List.getElem?_eq_getElem hi, h.2 i _ x (List.getElem?_eq_getElem hi) e⟩
theorem At.ref {H : Hp} {bs : List Addr} {xs : List α} {i : Nat} {v : V} (h : At R H bs xs) (e : (bs.map V.ref)[i]? = some v) : ∃ b x, v = .ref b ∧ bs[i]? = some b ∧ xs[i]? = some x ∧ R H b x := by
  rw [List.getElem?_map] at e
  cases q : bs[i]? with
  | none => rw [q] at e; cases e
  | some b =>
    rw [q] at e
    have hi : i < xs.length := by rw [← h.1]; exact (List.getElem?_eq_some_iff.mp q).1
    exact ⟨b, xs[i], (Option.some.inj e).symm, rfl, List.getElem?_eq_getElem hi, h.2 i b _ q (List.getElem?_eq_getElem hi)⟩
theorem ref_at {bs : List Addr} {i : Nat} {b : Addr} (h : bs[i]? = some b) : (bs.map V.ref)[i]? = some (.ref b) := by rw [List.getElem?_map, h]; rfl
/-- a tuple, a list of these -/
def TupR (R : Hp → Addr → α → Prop) (H : Hp) (b : Addr) (xs : List α) : Prop := ∃ bs : List Addr, H b = some (.tup (bs.map V.ref)) ∧ At R H bs xs
def LstR (R : Hp → Addr → α → Prop) (H : Hp) (b : Addr) (xs : List α) : Prop := ∃ bs : List Addr, H b = some (.lst (bs.map V.ref)) ∧ At R H bs xs
theorem mo_tup (m : Mo R) : Mo (TupR R) := fun s ⟨bs, e, h⟩ => ⟨bs, s _ _ e, h.keep m s⟩
theorem mo_lst (m : Mo R) : Mo (LstR R) := fun s ⟨bs, e, h⟩ => ⟨bs, s _ _ e, h.keep m s⟩
end
/-- a fraction; a list of whole numbers -/
def FrR (H : Hp) (b : Addr) (q : Rat) : Prop := H b = some (.tup [.int q.num, .int q.den])
def IntsL (H : Hp) (b : Addr) (ns : List Int) : Prop := H b = some (.lst (ns.map V.int))
theorem mo_fr : Mo FrR := fun s h => s _ _ h
theorem mo_ints : Mo IntsL := fun s h => s _ _ h
/-- a fraction is no list -/
theorem FrR.del {H : Hp} {a b : Addr} {q : Rat} {ys : List V} (h : FrR H b q) (e : H a = some (.lst ys)) : FrR (del H a) b q := del_at h fun z => by rw [z] at h; unfold FrR at h; rw [e] at h; cases h
/-! what an iterator yields, while all that was there stays -/
structure Run (J : It) (H1 : Hp) (n : Nat) (f : Nat → Hp → V → Hp → Prop) : Prop where
  go : ∀ i H2, i < n → Same H1 H2 → J.go i H2
  yl : ∀ i H2 x H3, i < n → Same H1 H2 → J.yld i H2 x H3 → f i H2 x H3
  st : ∀ H2, Same H1 H2 → J.stop n H2
section
variable {K : PySem.W.Frag}
theorem run_tup {H : Hp} {a : Addr} {xs : List V} (h : H a = some (.tup xs)) : Run (Itt K a) H xs.length (fun i H2 x H3 => H3 = H2 ∧ xs[i]? = some x) :=
  ⟨fun i H2 hi s => ⟨xs, xs[i], SqT.of (s _ _ h), List.getElem?_eq_getElem hi⟩, fun i H2 x H3 _ s y => ⟨y.1, y.2 _ (SqT.of (s _ _ h))⟩, fun H2 s => ⟨xs, SqT.of (s _ _ h), Nat.le_refl _⟩⟩
theorem run_list {H : Hp} {a : Addr} {xs : List V} (h : H a = some (.lst xs)) : Run (Itl K a) H xs.length (fun i H2 x H3 => H3 = H2 ∧ xs[i]? = some x) :=
  ⟨fun i H2 hi s => ⟨xs, xs[i], SqL.of (s _ _ h), List.getElem?_eq_getElem hi⟩, fun i H2 x H3 _ s y => ⟨y.1, y.2 _ (SqL.of (s _ _ h))⟩, fun H2 s => ⟨xs, SqL.of (s _ _ h), Nat.le_refl _⟩⟩
theorem run_range {H : Hp} {lo : Int} {n : Nat} : Run (Itr lo n) H n (fun i H2 x H3 => H3 = H2 ∧ x = .int (lo + i)) := ⟨fun _ _ hi _ => hi, fun _ _ _ _ _ _ y => y, fun _ _ => Nat.le_refl _⟩
theorem comp_run {J : It} {n : Nat} {H1 : Hp} {f : Nat → Hp → V → Hp → Prop} {acc : Addr} {σ0 : St} {g : TG} {te : TE} {G : Hp → Prop} (r : Run J H1 n f) (hn : n ≤ 1000) (hacc : H1 acc = none) (Iv : Nat → List V → St → Hp → Prop) (h0 : Iv 0 [] σ0 H1)
    (hs : ∀ (i : Nat) (ys : List V) (σ : St) (H2 : Hp) (x : V) (H3 : Hp), i < n → Same H1 H2 → H2 acc = some (.lst ys) → Iv i ys σ (del H2 acc) → f i H2 x H3 → ∀ C : St → VK, (∀ (σ4 : St) (v : V) (H5 : Hp), Same H2 H5 → Iv (i + 1) (ys ++ [v]) σ4 (del H5 acc) → C σ4 v H5) →
      g x σ H3 fun σ4 H4 => te σ4 H4 (C σ4))
    (fin : ∀ (ys : List V) (σ : St) (H2 : Hp), Same H1 H2 → H2 acc = some (.lst ys) → ys.length = n → Iv n ys σ (del H2 acc) → G H2) :
    ∃ W : Nat → Nat → List V → St → Hp → Prop, (∃ m, W 0 m [] σ0 (upd H1 acc (.lst []))) ∧ ∀ i m ys σc H2, W i m ys σc H2 →
      (J.stop i H2 ∧ G H2) ∨ (J.go i H2 ∧ ∀ x H3, J.yld i H2 x H3 → g x σc H3 fun σ4 H4 => te σ4 H4 fun v H5 => H5 acc = some (.lst ys) ∧ ys.length < sizeLine ∧ ∃ m', m' < m ∧ W (i + 1) m' (ys ++ [v]) σ4 (upd H5 acc (.lst (ys ++ [v])))) := by
  refine ⟨fun i m ys σ H2 => m = n - i ∧ i ≤ n ∧ Same H1 H2 ∧ H2 acc = some (.lst ys) ∧ ys.length = i ∧ Iv i ys σ (del H2 acc), ⟨n, rfl, Nat.zero_le _, ?_, upd_same, rfl, ?_⟩, ?_⟩
  · intro b o e; rw [upd_ne (ne_of_none e hacc)]; exact e
  · rw [del_upd, del_new hacc]; exact h0
  · rintro i m ys σc H2 ⟨rfl, hi, sm, ha, hl, iv⟩
    rcases Nat.lt_or_ge i n with hlt | hge
    · refine .inr ⟨r.go i H2 hlt sm, fun x H3 yl => ?_⟩
      refine hs i ys σc H2 x H3 hlt sm ha iv (r.yl i H2 x H3 hlt sm yl) (fun σ4 v H5 => H5 acc = some (.lst ys) ∧ ys.length < sizeLine ∧ ∃ m', m' < n - i ∧ (m' = n - (i + 1) ∧ i + 1 ≤ n ∧ Same H1 (upd H5 acc (.lst (ys ++ [v]))) ∧ (upd H5 acc (.lst (ys ++ [v]))) acc = some (.lst (ys ++ [v])) ∧ (ys ++ [v]).length = i + 1 ∧ Iv (i + 1) (ys ++ [v]) σ4 (del (upd H5 acc (.lst (ys ++ [v]))) acc))) ?_
      intro σ4 v H5 s5 iv5
      refine ⟨s5 _ _ ha, by rw [sizeLine_eq]; omega, n - (i + 1), by omega, rfl, hlt, ?_, upd_same, by simp [hl], ?_⟩
      · intro b o e; rw [upd_ne (ne_of_none e hacc)]; exact s5 _ _ (sm _ _ e)
      · rw [del_upd]; exact iv5
    · obtain rfl : i = n := by omega
      exact .inl ⟨r.st H2 sm, fin ys σc H2 sm ha hl iv⟩
end
end My
/-! rows of fractions compared; a fraction in a list of them -/
namespace My
open PySem L2 PySem.Spec PyProof.Rows
def frD (q : Rat) : PyData := .tuple [.int q.num, .int (q.den : Int)]
section
variable {X : Cx} {pins : List (Addr × Obj)} {σ : L2.St} {H : Hp} {s : Shared}
/-- whether a value is nought, as it is tracked -/
def isNo (H : Hp) : Value → Bool
  | .ref b => match H b with
    | some (.tup [.int n, .int d]) => n == 0 && d == 1
    | _ => false
  | _ => false
end
end My
/-! list.index, x in a list of ints -/
namespace L2
open PySem PySem.Spec PyProof.Rows
section
variable {X : Cx}
/-- xs.index(k), k in xs -/
def rIndex : V → List V → Hp → VK → Prop := fun x vs H Q => ∃ (l : Addr) (ns : List Int) (k : Int), x = .ref l ∧ vs = [.int k] ∧ H l = some (.lst (ns.map V.int)) ∧ k ∈ ns ∧ ns.length ≤ 1000000 ∧ Q (.int ((ns.idxOf k : Nat) : Int)) H
theorem mt_index : MtM X "list.index" rIndex := by
  intro pins s σ H x vs v us Q I rx rv h
  obtain ⟨l, ns, k, rfl, rfl, hH, hk, hz, q⟩ := h
  cases rx
  obtain ⟨u, rfl, ru⟩ := rv.one
  obtain ⟨t, rfl⟩ := ru
  obtain ⟨z, its, n, r, hl, e⟩ := I.lstM hH
  have hi := intsAre_of r
  have hlen := hi.length
  have hj : ns.idxOf k < ns.length := List.idxOf_lt_length_iff.mpr hk
  refine call_meets PySem.F.slot_list_index ⟨_, e, rfl⟩ PySem.F.entry_list_index (PySem.F.args_list_index_2 _ _)
    (MeetsSeq.list_index l its.toArray n (.int k t) (isInt k) (fun y hy => eq_isInt k t hi y (by simpa using hy)) (ns.idxOf k) (by simpa [hlen] using hj) (by omega) ?_ ?_) ⟨e, ⟨.int ((ns.idxOf k : Nat) : Int), H, I.tok _, ⟨_, rfl⟩, q⟩⟩
  · show isInt k its[ns.idxOf k] = true
    rw [isInt_at k hi _ (by omega) hj]
    simpa using List.getElem_idxOf hj
  · intro j hjs hlt
    show isInt k its[j] = false
    rw [isInt_at k hi j (by simpa using hjs) (by omega)]
    exact ne_of_lt_idxOf hlt _
theorem flat_ints (ns : List Int) : (ns.map V.int).all flatV = true := by
  induction ns with
  | nil => rfl
  | cons n ns ih => rw [List.map_cons, List.all_cons, ih]; rfl
theorem inV_ints (k : Int) (ns : List Int) : inV (.int k) (ns.map V.int) = decide (k ∈ ns) := by
  unfold inV
  induction ns with
  | nil => rfl
  | cons n ns ih =>
    rw [List.map_cons, List.any_cons, ih]
    have e : eqV (.int n) (.int k) = decide (k = n) := by
      show decide (n = k) = decide (k = n)
      by_cases h : n = k
      · rw [decide_eq_true h, decide_eq_true h.symm]
      · rw [decide_eq_false h, decide_eq_false (fun z => h z.symm)]
    rw [e]
    by_cases h : k = n
    · simp [h]
    · simp [h]
end
end L2
/-! rules of the layer with the frag by its own name -/
namespace L2
open PySem PySem.Spec PyProof.Rows
section
variable {X : Cx} {K : PySem.W.Frag}
theorem ixT (h : X.K = K := by rfl) : IxR X (rIxT K) := h ▸ ix_tup
theorem ixL (h : X.K = K := by rfl) : IxR X (rIxL K) := h ▸ ix_list
theorem callLen (h : X.K = K := by rfl) : CallR X (.builtin "len") (fun xs H Q => ∃ p ys, xs = [.ref p] ∧ (SqL K H p ys ∨ SqT K H p ys) ∧ Q (.int ys.length) H) := h ▸ call_len_seq
theorem callTup (h : X.K = K := by rfl) : CallR X (.type "tuple") (fun xs H Q => ∃ p ys, xs = [.ref p] ∧ ((SqL K H p ys ∧ ∀ l, H l = none → Q (.ref l) (upd H l (.tup ys))) ∨ (SqT K H p ys ∧ Q (.ref p) H))) := h ▸ call_tuple_of
theorem piTup {tg l : PySem.Expr} {tl : TE} (hl : PE X l tl) (h : X.K = K := by rfl) : PI X tg l (iTup K tl) := h ▸ pi_tup hl
theorem piLst {tg l : PySem.Expr} {tl : TE} (hl : PE X l tl) (h : X.K = K := by rfl) : PI X tg l (iList K tl) := h ▸ pi_list hl
end
end L2
/-! sorted of a tuple of numbers; index in a tuple of numbers -/
namespace L2
open PySem PySem.Spec PyProof.Rows
section
variable {prog : Program} {w : World} {A : Around} {E : Value → Shared → Prop} {s : Shared}
end
section
variable {X : Cx}
end
end L2
/-! index in a tuple of numbers -/
namespace L2
open PySem PySem.Spec PyProof.Rows PySem.SeqAt
section
variable {prog : Program} {w : World} {A : Around} {E : Value → Shared → Prop}
abbrev srch (items : Array Value) (x : Value) : Nat → Option PySem.Fin × PUnit → Sem (ForInStep (Option PySem.Fin × PUnit)) := fun i _ => match items[i]? with
  | some y => do let b ← eqBool y x; if b = true then (do let r ← retInt (i : Int); pure (ForInStep.done (some r, ()))) else pure (ForInStep.yield (none, ()))
  | _ => pure (ForInStep.yield (none, ()))
end
section
variable {X : Cx}
/-- xs.index(k), k in xs, xs a tuple -/
def rIndexT : V → List V → Hp → VK → Prop := fun x vs H Q => ∃ (l : Addr) (ns : List Int) (k : Int), x = .ref l ∧ vs = [.int k] ∧ H l = some (.tup (ns.map V.int)) ∧ k ∈ ns ∧ Q (.int ((ns.idxOf k : Nat) : Int)) H
end
end L2
/-! a slice that is the whole tuple is the tuple itself -/
namespace HT
open PySem PySem.Spec PyProof.Rows L2
section
variable {prog : Program} {w : World} {A : Around} {E : Value → Shared → Prop} {s : Shared}
end
end HT
namespace L2
open PySem PySem.Spec PyProof.Rows
section
variable {X : Cx} {K : PySem.W.Frag}
/-- t[lo:hi], the whole of it or not -/
def rSlTA (K : PySem.W.Frag) : V → Option Int → Option Int → Hp → VK → Prop := fun x lo hi H Q => ∃ a xs, x = .ref a ∧ SqT K H a xs ∧
  ((HT.sIx xs.length 0 lo = 0 ∧ HT.sIx xs.length xs.length hi = xs.length) → Q (.ref a) H) ∧ (¬ (HT.sIx xs.length 0 lo = 0 ∧ HT.sIx xs.length xs.length hi = xs.length) → ∀ p, H p = none → Q (.ref p) (upd H p (.tup (cutV xs lo hi))))
end
end L2
/-! two lists of the same numbers -/
namespace L2
open PySem PySem.Spec PyProof.Rows
section
variable {X : Cx}
end
end L2
/-! a method of a tuple that is tracked -/
namespace L2
open PySem PySem.Spec PyProof.Rows
section
variable {X : Cx}
def tBT (r : V → List V → Hp → VK → Prop) (to : TE) (t : TA) : TE := fun σ H Q => to σ H fun x H1 => (∃ p xs, x = .ref p ∧ H1 p = some (.tup xs)) ∧ t σ H1 fun xs H2 => r x xs H2 Q
variable {o e : Expr} {es : List Expr} {to : TE} {t : TA} {name : Str} {apos cpos : Pos} {id : String} {r : V → List V → Hp → VK → Prop}
end
end L2
/-! data compared: numbers, texts, truths, tuples of such -/
namespace L2
open PySem PySem.Spec PyProof.Rows
/-- a value that is data -/
inductive RdD (H : Hp) : V → PyData → Prop
  | int (i : Int) : RdD H (.int i) (.int i)
  | bl (b : Bool) : RdD H (.bl b) (.bool b)
  | str (z : Str) : RdD H (.str z) (.str z)
  | tup {p : Addr} {xs : List V} {ds : List PyData} (h : H p = some (.tup xs)) (hl : xs.length = ds.length) (hd : ∀ (i : Nat) (x : V) (d : PyData), xs[i]? = some x → ds[i]? = some d → RdD H x d) : RdD H (.ref p) (.tuple ds)
theorem RdD.keep {H H' : Hp} (s : Same H H') {v : V} {d : PyData} (h : RdD H v d) : RdD H' v d := by
  induction h with
  | int i => exact .int i
  | bl b => exact .bl b
  | str z => exact .str z
  | tup h hl hd ih => exact .tup (s _ _ h) hl ih
section
variable {X : Cx} {pins : List (Addr × Obj)} {σ : L2.St} {H : Hp} {s : Shared}
theorem reads_all (h : Heap) : ∀ {xs : List V} {its : List Value} {ds : List PyData}, Vals xs its → xs.length = ds.length → (∀ (i : Nat) (x : V) (d : PyData), xs[i]? = some x → ds[i]? = some d → ∀ u, RelV x u → Reads h u d []) → ReadsAll h its ds []
  | [], _, ds, .nil, hl, _ => by
    have : ds = [] := List.length_eq_zero_iff.mp hl.symm
    subst this
    exact .nil
  | x :: xs, _, [], _, hl, _ => by simp at hl
  | x :: xs, _, d :: ds, .cons r rs, hl, hd =>
    .cons (as := []) (bs := []) (hd 0 x d rfl rfl _ r) (reads_all h rs (by simpa using hl) fun i x' d' e1 e2 => hd (i+1) x' d' (by simpa using e1) (by simpa using e2))
theorem rdD_of (I : Inv X pins σ H s) {v : V} {d : PyData} (h : RdD H v d) : ∀ u, RelV v u → Reads s.heap u d [] := by
  induction h with
  | int i =>
    intro u r
    obtain ⟨t, rfl⟩ := r
    exact .int _ _
  | bl b =>
    intro u r
    cases r
    exact .bool _
  | str z =>
    intro u r
    obtain ⟨t, rfl⟩ := r
    exact .str _ _
  | tup h hl hd ih =>
    intro u r
    cases r
    obtain ⟨its, rv, tp, _⟩ := I.tuple (SqT.of (K := X.K) h)
    obtain ⟨o, ho, hc, n, hd'⟩ := tp
    exact .tuple ho hc hd' (by simpa using reads_all s.heap rv hl ih)
/-- how deep, and that it can be compared -/
inductive Shp : Nat → PyData → Prop
  | int {n : Nat} (i : Int) : Shp n (.int i)
  | bl {n : Nat} (b : Bool) : Shp n (.bool b)
  | tup {n : Nat} {ds : List PyData} (h : ∀ d ∈ ds, Shp n d) : Shp (n+1) (.tuple ds)
theorem lay_all : ∀ {ds : List PyData}, (∀ d ∈ ds, d.canLay0 = true) → PyData.canLayAll0 ds = true
  | [], _ => rfl
  | d :: ds, h => by
    simp only [PyData.canLayAll0, Bool.and_eq_true]
    exact ⟨h d (by simp), lay_all fun x hx => h x (by simp [hx])⟩
theorem deep_all {n : Nat} : ∀ {ds : List PyData}, (∀ d ∈ ds, d.depth ≤ n) → PyData.depthAll ds ≤ n
  | [], _ => Nat.zero_le _
  | d :: ds, h => by
    have := deep_all (ds := ds) fun x hx => h x (by simp [hx])
    have := h d (by simp)
    simp only [PyData.depthAll]
    omega
theorem Shp.ok {n : Nat} {d : PyData} (h : Shp n d) : d.canLay0 = true ∧ d.depth ≤ n + 1 := by
  induction h with
  | int i => exact ⟨rfl, by simp [PyData.depth]⟩
  | bl b => exact ⟨rfl, by simp [PyData.depth]⟩
  | @tup n ds h ih =>
    refine ⟨by simp only [PyData.canLay0]; exact lay_all fun d hd => (ih d hd).1, ?_⟩
    have := deep_all fun d hd => (ih d hd).2
    simp only [PyData.depth]
    omega
theorem Shp.shaped {n : Nat} {d : PyData} (h : Shp n d) (hn : n ≤ 60) : SeqAt.shaped d = true := by
  unfold SeqAt.shaped
  rw [Bool.and_eq_true]
  exact ⟨h.ok.1, decide_eq_true (by have := h.ok.2; omega)⟩
/-- data that is the same -/
def rSameD (b : Bool) : R2 := fun x y H Q => ∃ (n : Nat) (d : PyData), n ≤ 60 ∧ RdD H x d ∧ RdD H y d ∧ Shp n d ∧ Q (.bl b) H
end
end L2
/-! the least of a list of numbers; the keys of a dict in rising order -/
namespace L2
open PySem PySem.Spec PyProof.Rows
section
variable {X : Cx}
end
section
variable {prog : Program} {w : World} {A : Around} {E : Value → Shared → Prop} {s : Shared}
end
section
variable {X : Cx}
end
end L2
/-! list(range(n)) -/
namespace L2
open PySem PySem.Spec PyProof.Rows
def tLsR (ta : TE) : TE := fun σ H Q => ta σ H fun v H1 => ∃ n : Nat, v = .int (n : Int) ∧ n ≤ 1000 ∧ ∀ l, H1 l = none → Q (.ref l) (upd H1 l (.lst ((List.range n).map fun i : Nat => V.int (i : Int))))
theorem vals_get : ∀ {xs : List V} {us : List Value}, xs.length = us.length → (∀ (i : Nat) (x : V) (u : Value), xs[i]? = some x → us[i]? = some u → RelV x u) → Vals xs us
  | [], [], _, _ => .nil
  | [], _ :: _, h, _ => by simp at h
  | _ :: _, [], h, _ => by simp at h
  | x :: xs, u :: us, h, g => .cons (g 0 x u rfl rfl) (vals_get (by simpa using h) fun i y v e1 e2 => g (i+1) y v (by simpa using e1) (by simpa using e2))
theorem bt_list : bootBuiltins "list" = some (.type "list") := by decide +kernel
section
variable {X : Cx}
theorem pe_listRange {a : PySem.Expr} {ta : TE} {p p' rpos pos : Pos} (hc : X.calm = true) (hg : Gl X "list") (hm : X.mg "list" = none) (hg2 : Gl X "range") (hm2 : X.mg "range" = none) (ha : PE X a ta)
    (hs : starEach [.Call (.Name "range" p') [a] [] rpos] X.env = [(false, eval (.Call (.Name "range" p') [a] [] rpos) X.env)] := by rfl) (hs2 : starEach [a] X.env = [(false, eval a X.env)] := by rfl) :
    PE X (.Call (.Name "list" p) [.Call (.Name "range" p') [a] [] rpos] [] pos) (tLsR ta) := by
  intro pins s σ H Q I h
  refine wpAny_Call_Name_kw (ld_blt I hg hm bt_list ?_ (by decide) (by decide))
  refine PyProof.Rows.callWith_type1 ?_ (by rw [hs]; rfl) (by rfl)
  rw [hs]
  refine Calls.spliced_cons ?_
  refine wpAny_Call_Name_kw (ld_blt I hg2 hm2 boot_range ?_ (by decide) (by decide))
  have PAl : PA X [a] (tCons ta tNil) := pa_cons ha pa_nil (by rw [hs2]; rfl)
  have hq : tCons ta tNil σ H (fun vs H1 => match vs with
      | [v] => ∃ n : Nat, v = .int (n : Int) ∧ n ≤ 1000 ∧ ∀ l, H1 l = none → Q (.ref l) (upd H1 l (.lst ((List.range n).map fun i : Nat => V.int (i : Int))))
      | _ => False) := h
  refine PyProof.Rows.callWith_type1 (thn (PAl rpos pins _ σ H _ I hq) fun us s2 ⟨vs, H2, I2, r2, q2⟩ => ?_) (by rw [hs2]; rfl) (by rfl)
  cases r2 with
  | nil => exact False.elim q2
  | cons r rr =>
    cases rr with
    | cons _ _ => exact False.elim q2
    | nil =>
      obtain ⟨n, rfl, hn, q⟩ := q2
      obtain ⟨t, rfl⟩ := r
      refine call_range_1 (Calls.spliced_nil ?_)
      refine call_list_range (n := n) (I2.ok.hd hc) (IsRange.new ..) (small_one (by omega) (by omega) (by omega) (by omega)) (by rw [rangeSize_one]; split <;> omega) (by omega) fun h' tk acc c hk hS hI => ?_
      obtain ⟨hl, hI⟩ := hI
      have hz : ((List.range n).map fun i : Nat => V.int (i : Int)).length ≤ sizeLine := by rw [List.length_map, List.length_range, sizeLine_eq]; omega
      have rv : Vals ((List.range n).map fun i : Nat => V.int (i : Int)) acc.toList := by
        refine vals_get (by rw [List.length_map, List.length_range, Array.length_toList, hl]) fun i x u e1 e2 => ?_
        have hi : i < n := by
          have := (List.getElem?_eq_some_iff.mp e2).1
          rw [Array.length_toList, hl] at this
          exact this
        rw [List.getElem?_map, List.getElem?_range hi] at e1
        obtain ⟨t', ht⟩ := hI i u (by rw [← Array.getElem?_toList]; exact e2)
        cases e1
        exact ⟨t', by rw [ht]; congr 1; omega⟩
      have fin : ∀ h1 : Heap, (∀ b o, s2.heap.get? b = some o → h1.get? b = some o) → (∀ b o, h1.get? b = some o → h'.get? b = some o) → h'.get? h1.objs.size = some { cls := .type "list", dict := none, data := .seq acc c, slots := #[] } → EP X pins σ Q (.ref h1.objs.size) { s2 with heap := h', toks := tk } := fun h1 k1 k2 hS => by
        have I3 := I2.kept (h' := h1) (t' := tk) k1
        exact ⟨.ref _, _, I3.laid (t' := tk) k2 (Nat.le_refl _) (show ObjOk X.prog X.w _ h' _ (.lst _) from ⟨hz, acc.toList, c, rv, hS⟩), rfl, q _ (I3.hok.fresh (Nat.le_refl _))⟩
      exact fin _ (fun b o e => Heap.get?_push_of_some _ e) hk hS
end
end L2
/-! the greatest of a list of numbers; a row among rows -/
namespace L2
open PySem PySem.Spec PyProof.Rows
section
variable {X : Cx}
/-- x in a tuple of data -/
def rInD (neg : Bool) : R2 := fun x y H Q => ∃ (n : Nat) (d : PyData) (ds : List PyData), n ≤ 40 ∧ RdD H x d ∧ RdD H y (.tuple ds) ∧ Shp n d ∧ Shp (n + 1) (.tuple ds) ∧ Q (.bl (if neg then !(ds.any fun y => PyData.eqv y d) else ds.any fun y => PyData.eqv y d)) H
end
end L2
/-! a function held in a name; () + t; any of truths; lists of data compared -/
namespace L2
open PySem PySem.Spec PyProof.Rows
section
variable {X : Cx}
/-- x(..), x a name that holds the function at f -/
def tCallV (f : Addr) (tv : TE) (sp : Sp) (E : XK) (t : TA) : TE := fun σ H Q => tv σ H fun v H1 => v = .ref f ∧ t σ H1 fun vs H2 => sp (vs ++ []) H2 Q E
theorem pe_callV {CX : CXT} {k : Nat} {f : Addr} {fd : FuncData} {ps : List Str} {sp : Sp} {E : XK} {x : Str} {p pos : Pos} {e : PySem.Expr} {es : List PySem.Expr} {tv : TE} {t : TA} (F : FnOk X.prog X.w X.K X.mg X.base CX k f fd ps sp) (hr : Room k X.A) (hv : PE X (.Name x p) tv) (hk : PySem.W.keepIn X.K (.ref f) = true) (hb : Binds X.K fd ps []) (hx : Passes CX X E)
    (ha : PA X (e :: es) t) (he : starEach (e :: es) X.env = (false, eval e X.env) :: starEach es X.env := by rfl) (hpl : (backTo pos (starEach es X.env)).any (·.1) = false := by rfl) :
    PE X (.Call (.Name x p) (e :: es) [] pos) (tCallV f tv sp E t) := by
  intro pins s σ H Q I h
  refine wpAny_Call_Name_kw (thn (hv pins s σ H _ I h) fun u s1 ⟨v, H1, I1, r1, ev, q1⟩ => ?_)
  subst ev
  obtain rfl : u = Value.ref f := r1
  refine PySem.W.callWith_K (h₀ := X.base) I.ok.mod.kin hk (thn (ha pos pins s1 σ H1 _ I1 q1) fun us s2 ⟨vs, H2, I2, r, q⟩ => ⟨I2.kIn, ?_⟩) he hpl
  exact run_fn F hr hb .nil hx I2 r q
/-- t + u, u not empty: t empty gives u itself -/
def rCatA (K : PySem.W.Frag) : R2 := fun x y H Q => ∃ a b xs ys, x = .ref a ∧ y = .ref b ∧ SqT K H a xs ∧ SqT K H b ys ∧ ys ≠ [] ∧ xs.length + ys.length ≤ sizeLine ∧
  (xs = [] → Q (.ref b) H) ∧ (xs ≠ [] → ∀ p, H p = none → Q (.ref p) (upd H p (.tup (xs ++ ys))))
theorem op_catA : OpR X (binaryOp .Add) (rCatA X.K) := by
  intro pins s σ H x y v u Q I rx ry h
  obtain ⟨a, b, xs, ys, rfl, rfl, ha, hb, hy, hz, q1, q2⟩ := h
  by_cases hx : xs = []
  · cases rx
    cases ry
    obtain ⟨its, r1, p1, _⟩ := I.tuple ha
    obtain ⟨its2, r2, p2, _⟩ := I.tuple hb
    have e0 : its = [] := r1.nil_iff.mpr hx
    obtain ⟨⟨cls, dd, data, sl⟩, ho, hc, n, hd⟩ := id p1
    obtain ⟨⟨cls2, dd2, data2, sl2⟩, ho2, hc2, n2, hd2⟩ := id p2
    simp only at hc hd hc2 hd2
    subst hc hd hc2 hd2
    exact concat_meets ⟨_, ho, rfl⟩ ⟨_, ho2, rfl⟩ noFill_tuple_add seq_tuple_add PySem.F.slot_tuple_add PySem.F.entry_tuple_add (PySem.F.args_tuple_add_2 _ _)
      (tuple_addW0 a b its.toArray its2.toArray n n2 dd dd2 sl sl2 (by simp [e0])) ⟨ho, ho2, ⟨.ref b, H, I, rfl, q1 hx⟩⟩
  · exact op_catT pins s σ H _ _ v u Q I rx ry ⟨a, b, xs, ys, rfl, rfl, ha, hb, hx, hz, fun z => absurd z hy, fun _ => q2 hx⟩
def rAny (K : PySem.W.Frag) : List V → Hp → VK → Prop := fun xs H Q => ∃ (p : Addr) (bs : List Bool), xs = [.ref p] ∧ SqL K H p (bs.map V.bl) ∧ Q (.bl (bs.any id)) H
theorem any_range (bs : List Bool) : ((List.range bs.length).any fun i => (bs[i]?).getD true) = bs.any id := by
  rw [Bool.eq_iff_iff, List.any_eq_true, List.any_eq_true]
  constructor
  · rintro ⟨i, hi, h⟩
    have hl := List.mem_range.mp hi
    rw [List.getElem?_eq_getElem hl] at h
    exact ⟨_, List.getElem_mem hl, h⟩
  · rintro ⟨b, hb, h⟩
    obtain ⟨i, hi, rfl⟩ := List.mem_iff_getElem.mp hb
    exact ⟨i, List.mem_range.mpr hi, by rw [List.getElem?_eq_getElem hi]; exact h⟩
theorem bt_any : bootBuiltins "any" = some (.builtin "any") := by decide +kernel
theorem call_anyB (hc : X.calm = true) : CallR X (.builtin "any") (rAny X.K) := by
  intro pins s σ H xs us Q I r h
  obtain ⟨p, bs, rfl, hq, q⟩ := h
  obtain ⟨u, rfl, r1⟩ := vals1 r
  cases r1
  obtain ⟨its, rv, pl, hz⟩ := I.list hq
  have e := vals_bl rv
  subst e
  have hlt : p < s.heap.objs.size := by
    obtain ⟨o, _, ho, _⟩ := pl
    exact Heap.lt_size ho
  refine call_any_walk (wpAny_pyIter_list pl.isList ?_)
  refine ⟨s.heap.objs.size, _, _, _, _, _, fun i => (bs[i]?).getD true, rfl, Walks.list (show X.A.in1.handled = none from I.ok.hd hc) _ p (Nat.ne_of_lt hlt) (bs.map Value.bool).toArray, ⟨⟨_, Heap.get?_push_size _ rfl, rfl, rfl⟩, pl.isList.push _⟩, fun i v s' Q' E' hP hQ' => ?_, fun h' tk k => ?_⟩
  · have hP : (bs.map Value.bool).toArray[i]? = some v := hP
    have hQ' : Q' ((bs[i]?).getD true) s' := hQ'
    rw [List.getElem?_toArray, List.getElem?_map] at hP
    cases e : bs[i]? with
    | none => rw [e] at hP; cases hP
    | some b =>
      rw [e] at hP
      obtain rfl : Value.bool b = v := Option.some.inj hP
      have hQ2 : Q' b s' := by
        rw [e] at hQ'
        exact hQ'
      exact wpAny_pure hQ2
  · refine ⟨.bl (bs.any id), H, I.kept fun b o eb => ?_, ?_, q⟩
    · exact k b o (fun z => by
        have : b = s.heap.objs.size := by simpa using z
        exact absurd (Heap.lt_size eb) (by rw [this]; exact Nat.lt_irrefl _)) (Heap.get?_push_of_some _ eb)
    · show Value.bool _ = Value.bool _
      rw [List.size_toArray, List.length_map, any_range]
/-- two lists of the same data -/
def rSameL : R2 := fun x y H Q => ∃ (n : Nat) (p q : Addr) (xs ys : List V) (ds : List PyData), n ≤ 50 ∧ x = .ref p ∧ y = .ref q ∧ H p = some (.lst xs) ∧ H q = some (.lst ys) ∧ xs.length = ds.length ∧ ys.length = ds.length ∧
  (∀ (i : Nat) (x : V) (d : PyData), xs[i]? = some x → ds[i]? = some d → RdD H x d) ∧ (∀ (i : Nat) (x : V) (d : PyData), ys[i]? = some x → ds[i]? = some d → RdD H x d) ∧ (∀ d ∈ ds, Shp n d) ∧ Q (.bl true) H
theorem op_eqL (hu : X.A.units + 64 < cLine) : OpR X (compareOp .Eq) rSameL := by
  intro pins s σ H x y v u Q I rx ry h
  obtain ⟨n, p, q, xs, ys, ds, hn, rfl, rfl, hp, hq, l1, l2, d1, d2, sh, k⟩ := h
  have lay : (PyData.list ds).canLay0 = true := by simp only [PyData.canLay0]; exact lay_all fun d hd => (sh d hd).ok.1
  have shp : SeqAt.shaped (PyData.list ds) = true := by
    unfold SeqAt.shaped
    rw [Bool.and_eq_true]
    refine ⟨lay, decide_eq_true ?_⟩
    have := deep_all (n := n + 1) fun d hd => (sh d hd).ok.2
    simp only [PyData.depth]
    omega
  have rd : ∀ {p : Addr} {xs : List V}, H p = some (.lst xs) → xs.length = ds.length → (∀ (i : Nat) (x : V) (d : PyData), xs[i]? = some x → ds[i]? = some d → RdD H x d) → Reads s.heap (.ref p) (.list ds) [p] := by
    intro p xs hp l1 d1
    obtain ⟨its, rv, pl, _⟩ := I.list (SqL.of (K := X.K) hp)
    obtain ⟨o, ho, hc, m, hd'⟩ := pl.isList
    exact .list ho hc hd' (by simpa using reads_all s.heap rv l1 fun i x d e1 e2 => rdD_of I (d1 i x d e1 e2))
  cases rx
  cases ry
  refine eq_dataH (rd hp l1 d1) (rd hq l2 d2) shp shp hu ?_
  rw [SeqAt.eqv_refl _ lay]
  exact ⟨.bl true, H, I, rfl, k⟩
end
end L2
namespace Mth
theorem gcd_fmod (a b : Int) : Int.gcd b (a.fmod b) = Int.gcd a b := by
  rw [Int.fmod_def]
  have e : a - b * a.fdiv b = a + b * (-(a.fdiv b)) := by rw [Int.mul_neg, Int.sub_eq_add_neg]
  rw [e, Int.gcd_add_mul_left_right, Int.gcd_comm]
/-- the fraction of two numbers -/
def part (t b : Int) : Int := if b < 0 then -(Int.gcd t b : Int) else (Int.gcd t b : Int)
def frac (t b : Int) : Int × Int := (t.fdiv (part t b), b.fdiv (part t b))
theorem gcd_pos (t b : Int) (h : b ≠ 0) : 0 < Int.gcd t b := Int.gcd_pos_of_ne_zero_right _ h
theorem part_ne (t b : Int) (h : b ≠ 0) : part t b ≠ 0 := by
  have := gcd_pos t b h
  unfold part; split <;> omega
theorem part_dvd_l (t b : Int) : part t b ∣ t := by
  unfold part; split
  · exact Int.neg_dvd.mpr (Int.gcd_dvd_left t b)
  · exact Int.gcd_dvd_left t b
theorem part_dvd_r (t b : Int) : part t b ∣ b := by
  unfold part; split
  · exact Int.neg_dvd.mpr (Int.gcd_dvd_right t b)
  · exact Int.gcd_dvd_right t b
theorem frac_l (t b : Int) : (frac t b).1 * part t b = t := by
  show t.fdiv (part t b) * part t b = t
  rw [Int.fdiv_eq_ediv_of_dvd (part_dvd_l t b), Int.ediv_mul_cancel (part_dvd_l t b)]
theorem frac_r (t b : Int) : (frac t b).2 * part t b = b := by
  show b.fdiv (part t b) * part t b = b
  rw [Int.fdiv_eq_ediv_of_dvd (part_dvd_r t b), Int.ediv_mul_cancel (part_dvd_r t b)]
theorem frac_pos (t b : Int) (h : b ≠ 0) : 0 < (frac t b).2 := by
  have e := frac_r t b
  have g := gcd_pos t b h
  rcases Int.lt_or_lt_of_ne h with h1 | h1
  · have hp : part t b < 0 := by unfold part; rw [if_pos h1]; omega
    rcases Int.lt_or_le 0 (frac t b).2 with q | q
    · exact q
    · have : 0 ≤ (frac t b).2 * part t b := Int.mul_nonneg_of_nonpos_of_nonpos q (Int.le_of_lt hp)
      omega
  · have hp : 0 < part t b := by unfold part; rw [if_neg (by omega)]; omega
    rcases Int.lt_or_le 0 (frac t b).2 with q | q
    · exact q
    · have : (frac t b).2 * part t b ≤ 0 := Int.mul_nonpos_of_nonpos_of_nonneg q (Int.le_of_lt hp)
      omega
theorem frac_cross (t b : Int) : (frac t b).1 * b = t * (frac t b).2 := by
  have e1 := frac_l t b
  have e2 := frac_r t b
  generalize (frac t b).1 = n at *
  generalize (frac t b).2 = d at *
  generalize part t b = p at *
  subst e1
  subst e2
  rw [Int.mul_comm d p, Int.mul_assoc]
theorem frac_gcd (t b : Int) (h : b ≠ 0) : Int.gcd (frac t b).1 (frac t b).2 = 1 := by
  have e1 := frac_l t b
  have e2 := frac_r t b
  have g := gcd_pos t b h
  have hp : (part t b).natAbs = Int.gcd t b := by unfold part; split <;> omega
  have k : Int.gcd ((frac t b).1 * part t b) ((frac t b).2 * part t b) = Int.gcd (frac t b).1 (frac t b).2 * (part t b).natAbs := Int.gcd_mul_right _ _ _
  rw [e1, e2, hp] at k
  have : 1 * Int.gcd t b = Int.gcd (frac t b).1 (frac t b).2 * Int.gcd t b := by rw [Nat.one_mul]; exact k
  exact (Nat.eq_of_mul_eq_mul_right g this).symm
/-- sizes -/
theorem part_le (t b : Int) (h : b ≠ 0) : (part t b).natAbs ≤ b.natAbs := by
  have e : (part t b).natAbs = Int.gcd t b := by unfold part; split <;> omega
  rw [e]
  exact Nat.le_of_dvd (Int.natAbs_pos.mpr h) (by
    have := Int.gcd_dvd_right t b
    exact Int.ofNat_dvd_left.mp this)
end Mth
/-! Rows and their measures: the outer product of rows, over the rationals. A form tells a number for each set of columns, written as a list of truths. -/
namespace Wd
abbrev Vec := Nat → Rat
abbrev Frm := List Bool → Rat
def sh (v : Vec) : Vec := fun j => v (j+1)
def at0 (w : Frm) : Frm := fun T => w (false :: T)
def at1 (w : Frm) : Frm := fun T => w (true :: T)
def wg : Vec → Frm → Frm
  | _, _, [] => 0
  | v, w, false :: S => wg (sh v) (at0 w) S
  | v, w, true :: S => v 0 * w (false :: S) - wg (sh v) (at1 w) S
def one : Frm
  | [] => 1
  | false :: S => one S
  | true :: _ => 0
theorem wg_add_v (S : List Bool) : ∀ (u v : Vec) (w : Frm), wg (fun j => u j + v j) w S = wg u w S + wg v w S := by
  induction S with
  | nil => intro u v w; simp only [wg]; grind
  | cons b S ih =>
    intro u v w
    have h := ih (sh u) (sh v)
    have e : sh (fun j => u j + v j) = fun j => sh u j + sh v j := rfl
    cases b
    · simp only [wg, e, h]
    · simp only [wg, e, h]; grind
theorem wg_smul_v (S : List Bool) : ∀ (c : Rat) (v : Vec) (w : Frm), wg (fun j => c * v j) w S = c * wg v w S := by
  induction S with
  | nil => intro c v w; simp [wg]
  | cons b S ih =>
    intro c v w
    have h := ih c (sh v)
    have e : sh (fun j => c * v j) = fun j => c * sh v j := rfl
    cases b
    · simp only [wg, e, h]
    · simp only [wg, e, h]; grind
theorem wg_add (S : List Bool) : ∀ (v : Vec) (w x : Frm), wg v (fun T => w T + x T) S = wg v w S + wg v x S := by
  induction S with
  | nil => intro v w x; simp only [wg]; grind
  | cons b S ih =>
    intro v w x
    have e0 : at0 (fun T => w T + x T) = fun T => at0 w T + at0 x T := rfl
    have e1 : at1 (fun T => w T + x T) = fun T => at1 w T + at1 x T := rfl
    cases b
    · simp only [wg, e0, ih]
    · simp only [wg, e1, ih]; grind
theorem wg_smul (S : List Bool) : ∀ (c : Rat) (v : Vec) (w : Frm), wg v (fun T => c * w T) S = c * wg v w S := by
  induction S with
  | nil => intro c v w; simp [wg]
  | cons b S ih =>
    intro c v w
    have e0 : at0 (fun T => c * w T) = fun T => c * at0 w T := rfl
    have e1 : at1 (fun T => c * w T) = fun T => c * at1 w T := rfl
    cases b
    · simp only [wg, e0, ih]
    · simp only [wg, e1, ih]; grind
theorem wg_sub (S : List Bool) (v : Vec) (w x : Frm) : wg v (fun T => w T - x T) S = wg v w S - wg v x S := by
  have e : (fun T => w T - x T) = fun T => w T + (fun T => (-1) * x T) T := by funext T; grind
  rw [e, wg_add, wg_smul]; grind
/-- twice the same row is nought -/
theorem wg_wg (S : List Bool) : ∀ (v : Vec) (w : Frm), wg v (wg v w) S = 0 := by
  induction S with
  | nil => intro v w; simp [wg]
  | cons b S ih =>
    intro v w
    cases b
    · have e0 : at0 (wg v w) = wg (sh v) (at0 w) := rfl
      simp only [wg, e0, ih]
    · have e1 : at1 (wg v w) = fun T => v 0 * at0 w T - wg (sh v) (at1 w) T := rfl
      have e2 : (fun T => v 0 * at0 w T) = fun T => v 0 * at0 w T := rfl
      simp only [wg, e1]
      rw [wg_sub (x := wg (sh v) (at1 w)) (w := fun T => v 0 * at0 w T), wg_smul, ih]; grind
theorem wg_comm (u v : Vec) (w : Frm) (S : List Bool) : wg u (wg v w) S = - wg v (wg u w) S := by
  have h := wg_wg S (fun j => u j + v j) w
  have e : wg (fun j => u j + v j) w = fun T => wg u w T + wg v w T := by funext T; exact wg_add_v T u v w
  rw [wg_add_v, e, wg_add, wg_add, wg_wg, wg_wg] at h
  grind
/-- all rows of a list, the first one innermost -/
def wgs : List Vec → Frm → Frm
  | [], w => w
  | v :: L, w => wgs L (wg v w)
theorem wgs_smul (L : List Vec) : ∀ (c : Rat) (w : Frm), wgs L (fun T => c * w T) = fun T => c * wgs L w T := by
  induction L with
  | nil => intro c w; rfl
  | cons v L ih =>
    intro c w
    have e : wg v (fun T => c * w T) = fun T => c * wg v w T := by funext T; exact wg_smul T c v w
    simp only [wgs]; rw [e, ih]
def sg (n : Nat) : Rat := if n % 2 = 0 then 1 else -1
theorem sg_succ (n : Nat) : sg (n+1) = - sg n := by unfold sg; split <;> split <;> first | omega | grind
theorem sg_sq (n : Nat) : sg n * sg n = 1 := by unfold sg; split <;> grind
/-- the vector from its place c on -/
def shn (c : Nat) (v : Vec) : Vec := fun j => v (j + c)
def pre (c : Nat) (w : Frm) : Frm := fun T => w (List.replicate c true ++ T)
theorem wg_pre (c : Nat) : ∀ (v : Vec) (w : Frm) (S : List Bool), (∀ j, j < c → v j = 0) →
    wg v w (List.replicate c true ++ S) = sg c * wg (shn c v) (pre c w) S := by
  induction c with
  | zero => intro v w S _; simp [sg]; rfl
  | succ c ih =>
    intro v w S h
    have h0 := h 0 (by omega)
    have := ih (sh v) (at1 w) S (fun j hj => h (j+1) (by omega))
    simp only [List.replicate_succ, List.cons_append, wg]
    rw [this, h0, sg_succ]
    have e1 : shn c (sh v) = shn (c+1) v := by funext j; simp only [shn, sh]; congr 1
    have e2 : pre c (at1 w) = pre (c+1) w := by funext T; simp [pre, at1, List.replicate_succ]
    rw [e1, e2]; grind
theorem wg_none (S : List Bool) : ∀ (v : Vec) (w : Frm), (∀ b ∈ S, b = false) → wg v w S = 0 := by
  induction S with
  | nil => intro v w _; rfl
  | cons b S ih =>
    intro v w h
    have := h b (by simp)
    subst this
    exact ih _ _ (fun b hb => h b (by simp [hb]))
theorem wg_one (d e : Nat) : ∀ (v : Vec) (w : Frm),
    wg v w (List.replicate d false ++ true :: List.replicate e false) = v d * w (List.replicate (d + 1 + e) false) := by
  induction d with
  | zero =>
    intro v w
    simp only [List.replicate_zero, List.nil_append, wg]
    rw [wg_none _ _ _ (fun b hb => (List.mem_replicate.mp hb).2)]
    have : (0 + 1 + e) = e + 1 := by omega
    rw [this, List.replicate_succ]; grind
  | succ d ih =>
    intro v w
    have := ih (sh v) (at0 w)
    simp only [List.replicate_succ, List.cons_append, wg]
    rw [this]
    have : d + 1 + 1 + e = (d + 1 + e) + 1 := by omega
    rw [this, List.replicate_succ]; rfl
/-- the first c columns; these and column j -/
def Tk (c m : Nat) : List Bool := List.replicate c true ++ List.replicate (m - c) false
def Sj (c j m : Nat) : List Bool := List.replicate c true ++ (List.replicate (j - c) false ++ true :: List.replicate (m - 1 - j) false)
theorem wg_Sj {c j m : Nat} {v : Vec} (w : Frm) (hz : ∀ i, i < c → v i = 0) (h1 : c ≤ j) (h2 : j < m) :
    wg v w (Sj c j m) = sg c * (v j * w (Tk c m)) := by
  unfold Sj
  rw [wg_pre c v w _ hz, wg_one]
  have e : j - c + 1 + (m - 1 - j) = m - c := by omega
  simp only [shn, pre, e, Tk]
  have : j - c + c = j := by omega
  rw [this]
theorem Sj_self {c m : Nat} (h : c < m) : Sj c c m = Tk (c+1) m := by
  unfold Sj Tk
  have e : m - 1 - c = m - (c+1) := by omega
  rw [Nat.sub_self, List.replicate_zero, List.nil_append, e, List.replicate_succ', List.append_assoc]; rfl
def tri : Nat → Rat
  | 0 => 1
  | c+1 => tri c * sg c
theorem tri_sq (c : Nat) : tri c * tri c = 1 := by
  induction c with
  | zero => simp [tri]
  | succ c ih => simp only [tri]; have := sg_sq c; grind
/-- the measure of the first c columns -/
def ld (c m : Nat) (w : Frm) : Rat := tri c * w (Tk c m)
theorem ld_wg {c m : Nat} {v : Vec} (w : Frm) (hz : ∀ i, i < c → v i = 0) (h : c < m) : ld (c+1) m (wg v w) = v c * ld c m w := by
  have := wg_Sj (v := v) w hz (Nat.le_refl c) h
  rw [Sj_self h] at this
  unfold ld
  rw [this]; simp only [tri]; have := sg_sq c; grind
def IsI (x : Rat) : Prop := ∃ n : Int, x = n
theorem IsI.mul {x y : Rat} (h : IsI x) (g : IsI y) : IsI (x * y) := by
  obtain ⟨a, rfl⟩ := h; obtain ⟨b, rfl⟩ := g; exact ⟨a * b, by grind⟩
theorem IsI.sub {x y : Rat} (h : IsI x) (g : IsI y) : IsI (x - y) := by
  obtain ⟨a, rfl⟩ := h; obtain ⟨b, rfl⟩ := g; exact ⟨a - b, by grind⟩
theorem IsI.of (n : Int) : IsI (n : Rat) := ⟨n, rfl⟩
theorem wg_int (S : List Bool) : ∀ (v : Vec) (w : Frm), (∀ j, IsI (v j)) → (∀ T, IsI (w T)) → IsI (wg v w S) := by
  induction S with
  | nil => intro v w _ _; exact ⟨0, rfl⟩
  | cons b S ih =>
    intro v w h g
    cases b
    · exact ih _ _ (fun j => h (j+1)) (fun T => g _)
    · exact ((h 0).mul (g _)).sub (ih _ _ (fun j => h (j+1)) (fun T => g _))
def cnt (S : List Bool) : Nat := (S.filter id).length
theorem wg_deg (S : List Bool) : ∀ (v : Vec) (w : Frm) (d : Nat), (∀ T, cnt T < d → w T = 0) → cnt S < d + 1 → wg v w S = 0 := by
  induction S with
  | nil => intro v w d _ _; rfl
  | cons b S ih =>
    intro v w d h g
    cases b
    · exact ih (sh v) (at0 w) d (fun T hT => h _ (by simpa [cnt] using hT)) (by simpa [cnt] using g)
    · simp only [wg]
      have g1 : cnt S < d := by simp [cnt] at g ⊢; omega
      rw [h (false :: S) (by simpa [cnt] using g1)]
      cases d with
      | zero => omega
      | succ d => rw [ih (sh v) (at1 w) d (fun T hT => h _ (by simp [cnt] at hT ⊢; omega)) g1]; grind
theorem wgs_deg (L : List Vec) : ∀ (w : Frm) (d : Nat), (∀ T, cnt T < d → w T = 0) → ∀ S, cnt S < d + L.length → wgs L w S = 0 := by
  induction L with
  | nil => intro w d h S hS; exact h S (by simpa using hS)
  | cons v L ih =>
    intro w d h S hS
    exact ih (wg v w) (d+1) (fun T hT => wg_deg T v w d h hT) S (by simp at hS; omega)
theorem wgs_pre (c : Nat) (L : List Vec) : ∀ (w : Frm) (S : List Bool), (∀ v ∈ L, ∀ j, j < c → v j = 0) →
    ∃ e : Rat, wgs L w (List.replicate c true ++ S) = e * wgs (L.map (shn c)) (pre c w) S := by
  induction L with
  | nil => intro w S _; exact ⟨1, by simp [wgs, pre]⟩
  | cons v L ih =>
    intro w S h
    obtain ⟨e, he⟩ := ih (wg v w) S (fun u hu => h u (by simp [hu]))
    refine ⟨e * sg c, ?_⟩
    simp only [wgs, List.map_cons]
    rw [he]
    have : pre c (wg v w) = fun T => sg c * wg (shn c v) (pre c w) T := by
      funext T; exact wg_pre c v w T (h v (by simp))
    rw [this, wgs_smul]; grind
/-- too many rows for the columns that are left -/
theorem wgs_few {c n m : Nat} {L : List Vec} (w : Frm) (hz : ∀ v ∈ L, ∀ j, j < c → v j = 0) (h1 : c ≤ n) (h2 : n < c + L.length) : wgs L w (Tk n m) = 0 := by
  have e : Tk n m = List.replicate c true ++ (List.replicate (n - c) true ++ List.replicate (m - n) false) := by
    unfold Tk
    rw [← List.append_assoc, List.replicate_append_replicate]
    congr 2; omega
  obtain ⟨x, hx⟩ := wgs_pre c L w (List.replicate (n - c) true ++ List.replicate (m - n) false) hz
  rw [e, hx, wgs_deg _ _ 0 (fun T hT => by omega)]
  · grind
  · simp [cnt, List.filter_append]; omega
/-- not beyond B either way -/
def Ab (B x : Rat) : Prop := -B ≤ x ∧ x ≤ B
theorem Ab.nn {B x : Rat} (h : Ab B x) : 0 ≤ B := by obtain ⟨a, b⟩ := h; grind
theorem Ab.mul {B C x y : Rat} (h : Ab B x) (g : Ab C y) : Ab (B * C) (x * y) := by
  obtain ⟨h1, h2⟩ := h
  obtain ⟨h3, h4⟩ := g
  have a1 := Rat.mul_nonneg (show 0 ≤ B - x by grind) (show 0 ≤ C + y by grind)
  have a2 := Rat.mul_nonneg (show 0 ≤ B + x by grind) (show 0 ≤ C - y by grind)
  have a3 := Rat.mul_nonneg (show 0 ≤ B - x by grind) (show 0 ≤ C - y by grind)
  have a4 := Rat.mul_nonneg (show 0 ≤ B + x by grind) (show 0 ≤ C + y by grind)
  constructor <;> grind
theorem Ab.sub {B C x y : Rat} (h : Ab B x) (g : Ab C y) : Ab (B + C) (x - y) := by
  obtain ⟨h1, h2⟩ := h
  obtain ⟨h3, h4⟩ := g
  constructor <;> grind
theorem Ab.le {B C x : Rat} (h : Ab B x) (g : B ≤ C) : Ab C x := by
  obtain ⟨h1, h2⟩ := h
  constructor <;> grind
theorem Ab.neg {B x : Rat} (h : Ab B x) : Ab B (-1 * x) := by
  obtain ⟨h1, h2⟩ := h
  constructor <;> grind
theorem wg_bd {V W : Rat} (S : List Bool) : ∀ (v : Vec) (w : Frm), (∀ j, Ab V (v j)) → (∀ T : List Bool, T.length = S.length → Ab W (w T)) → Ab ((S.length : Nat) * (V * W)) (wg v w S) := by
  induction S with
  | nil => intro v w _ _; simp only [wg, List.length_nil]; constructor <;> grind
  | cons b S ih =>
    intro v w h g
    have hW := (g (b :: S) rfl).nn
    have hV := (h 0).nn
    have hVW := Rat.mul_nonneg hV hW
    have e : (((b :: S).length : Nat) : Rat) = (S.length : Nat) + 1 := by rw [List.length_cons]; grind
    cases b
    · have := ih (sh v) (at0 w) (fun j => h (j+1)) (fun T hT => g _ (by simp [hT]))
      simp only [wg]
      refine this.le ?_
      rw [e]; grind
    · have h1 := ih (sh v) (at1 w) (fun j => h (j+1)) (fun T hT => g _ (by simp [hT]))
      have h2 := (h 0).mul (g (false :: S) (by simp))
      simp only [wg]
      refine (h2.sub h1).le ?_
      rw [e]; grind
end Wd
namespace Wd
def vr (r : List Int) : Vec := fun j => ((r.getD j 0 : Int) : Rat)
def swr (row lead : List Int) (k : Nat) (p : Int) : List Int := List.zipWith (fun x y => (lead.getD k 0 * x - row.getD k 0 * y).fdiv p) row lead
structure Lin (f : Vec → Rat) : Prop where
  add : ∀ u v : Vec, f (fun j => u j + v j) = f u + f v
  smul : ∀ (c : Rat) (v : Vec), f (fun j => c * v j) = c * f v
structure Bi (B n m k : Nat) (A0 : List Vec) (top : List (List Int)) (Z : List (List Int × Vec)) (p : Int) (w : Frm) : Prop where
  lenT : top.length = k
  lenZ : k + Z.length = n
  nm : n ≤ m
  colT : ∀ r ∈ top, r.length = m
  colZ : ∀ z ∈ Z, z.1.length = m
  pz : p ≠ 0
  pl : ld k m w = p
  rel : ∀ z ∈ Z, ∀ S, p * wg z.2 w S = wg (vr z.1) w S
  zer : ∀ z ∈ Z, ∀ j, j < k → vr z.1 j = 0
  intw : ∀ S, IsI (w S)
  inta : ∀ z ∈ Z, ∀ j, IsI (z.2 j)
  all : wgs (Z.map (·.2)) w = wgs A0 one
  dia : ∀ i, i < k → (top.getD i []).getD i 0 ≠ 0 ∧ ∀ j, j < i → (top.getD i []).getD j 0 = 0
  last : 0 < k → (top.getD (k-1) []).getD (k-1) 0 = p
  bda : ∀ z ∈ Z, ∀ j, Ab B (z.2 j)
  bdw : ∀ T, Ab ((T.length * B) ^ k : Nat) (w T)
  bdt : ∀ r ∈ top, ∀ j, Ab ((m * B) ^ n : Nat) (vr r j)
  b1 : 1 ≤ B
  lin : ∀ f, Lin f → (∀ a ∈ A0, f a = 0) → (∀ r ∈ top, f (vr r) = 0) ∧ ∀ z ∈ Z, f (vr z.1) = 0
  lin2 : ∀ f, Lin f → (∀ r ∈ top, f (vr r) = 0) → (∀ z ∈ Z, f (vr z.1) = 0) → ∀ a ∈ A0, f a = 0
def ng (z : List Int × Vec) : List Int × Vec := (z.1.map (fun x => -x), fun j => (-1) * z.2 j)
/-- p a∧w' = r∧w' -/
theorem rel_up {p : Rat} {a b z r : Vec} {w : Frm} (hp : p ≠ 0) (ha : ∀ S, p * wg a w S = wg r w S) (hb : ∀ S, p * wg b w S = wg z w S) (S : List Bool) :
    p * wg a (wg b w) S = wg r (wg b w) S := by
  have h1 : wg a (wg z w) S = p * wg a (wg b w) S := by
    have : wg z w = fun T => p * wg b w T := by funext T; exact (hb T).symm
    rw [this, wg_smul]
  have h2 : wg z (wg r w) S = p * wg z (wg a w) S := by
    have : wg r w = fun T => p * wg a w T := by funext T; exact (ha T).symm
    rw [this, wg_smul]
  have h3 : wg r (wg z w) S = p * wg r (wg b w) S := by
    have : wg z w = fun T => p * wg b w T := by funext T; exact (hb T).symm
    rw [this, wg_smul]
  have h4 := wg_comm a z w S
  have h5 := wg_comm z r w S
  have : p * (p * wg a (wg b w) S) = p * wg r (wg b w) S := by grind
  grind
theorem self_up {p : Rat} {b z : Vec} {w : Frm} (hb : ∀ S, p * wg b w S = wg z w S) (S : List Bool) : wg z (wg b w) S = 0 := by
  rw [wg_comm]
  have : wg z w = fun T => p * wg b w T := by funext T; exact (hb T).symm
  rw [this, wg_smul, wg_wg]; grind
theorem swr_len {row lead : List Int} {k m : Nat} {p : Int} (h1 : row.length = m) (h2 : lead.length = m) : (swr row lead k p).length = m := by
  simp [swr, h1, h2]
theorem swr_get {row lead : List Int} {k m : Nat} {p : Int} (h1 : row.length = m) (h2 : lead.length = m) (j : Nat) :
    (swr row lead k p).getD j 0 = (lead.getD k 0 * row.getD j 0 - row.getD k 0 * lead.getD j 0).fdiv p := by
  by_cases hj : j < m
  · have a1 : row.getD j 0 = row[j] := by rw [List.getD_eq_getElem?_getD, List.getElem?_eq_getElem (by omega)]; rfl
    have a2 : lead.getD j 0 = lead[j] := by rw [List.getD_eq_getElem?_getD, List.getElem?_eq_getElem (by omega)]; rfl
    have hl : j < (swr row lead k p).length := by rw [swr_len h1 h2]; exact hj
    rw [a1, a2, List.getD_eq_getElem?_getD, List.getElem?_eq_getElem hl]
    simp [swr]
  · have o : ∀ l : List Int, l.length = m → l.getD j 0 = 0 := by
      intro l hl
      rw [List.getD_eq_getElem?_getD, List.getElem?_eq_none (by omega)]; rfl
    rw [o _ (swr_len h1 h2), o row h1, o lead h2]
    simp
theorem vr_zero_of {r : List Int} {j : Nat} (h : vr r j = 0) : r.getD j 0 = 0 := by
  simp only [vr] at h; exact_mod_cast h
/-- the division leaves no rest -/
theorem swr_exact {m k : Nat} {a b : Vec} {r z : List Int} {p : Int} {w : Frm} (hk : k < m) (hr : r.length = m) (hzl : z.length = m) (hp : p ≠ 0) (hpl : ld k m w = p)
    (ha : ∀ S, (p : Rat) * wg a w S = wg (vr r) w S) (hb : ∀ S, (p : Rat) * wg b w S = wg (vr z) w S) (zr : ∀ j, j < k → vr r j = 0) (zz : ∀ j, j < k → vr z j = 0)
    (hq : z.getD k 0 ≠ 0) (iw : ∀ S, IsI (w S)) (ia : ∀ j, IsI (a j)) (ib : ∀ j, IsI (b j)) :
    ld (k+1) m (wg b w) = z.getD k 0 ∧ (∀ j, (p : Rat) * vr (swr r z k p) j = (z.getD k 0 : Int) * vr r j - (r.getD k 0 : Int) * vr z j) ∧
    (∀ S, ((z.getD k 0 : Int) : Rat) * wg a (wg b w) S = wg (vr (swr r z k p)) (wg b w) S) ∧ ∀ j, j < k + 1 → vr (swr r z k p) j = 0 := by
  have hp' : (p : Rat) ≠ 0 := by exact_mod_cast hp
  have hq' : ((z.getD k 0 : Int) : Rat) ≠ 0 := by exact_mod_cast hq
  have l1 : ld (k+1) m (wg b w) = z.getD k 0 := by
    have h1 := ld_wg w zz hk
    have h2 : ld (k+1) m (wg (vr z) w) = p * ld (k+1) m (wg b w) := by
      unfold ld; rw [← hb]; grind
    rw [h2, hpl] at h1
    have : vr z k = ((z.getD k 0 : Int) : Rat) := rfl
    rw [this] at h1; grind
  -- the row ahead of the division
  let M : Vec := fun j => ((z.getD k 0 : Int) : Rat) * vr r j + (-((r.getD k 0 : Int) : Rat)) * vr z j
  have hM : ∀ S, wg M (wg b w) S = ((z.getD k 0 : Int) : Rat) * (p * wg a (wg b w) S) := by
    intro S
    have e := wg_add_v S (fun j => ((z.getD k 0 : Int) : Rat) * vr r j) (fun j => (-((r.getD k 0 : Int) : Rat)) * vr z j) (wg b w)
    rw [wg_smul_v, wg_smul_v, self_up hb S, ← rel_up hp' ha hb S] at e
    show wg M (wg b w) S = _
    rw [show M = fun j => ((z.getD k 0 : Int) : Rat) * vr r j + (-((r.getD k 0 : Int) : Rat)) * vr z j from rfl, e]; grind
  have zM : ∀ j, j < k + 1 → M j = 0 := by
    intro j hj
    show ((z.getD k 0 : Int) : Rat) * vr r j + (-((r.getD k 0 : Int) : Rat)) * vr z j = 0
    rcases Nat.lt_or_ge j k with h | h
    · rw [zr j h, zz j h]; grind
    · have : j = k := by omega
      subst this
      show ((z.getD j 0 : Int) : Rat) * ((r.getD j 0 : Int) : Rat) + (-((r.getD j 0 : Int) : Rat)) * ((z.getD j 0 : Int) : Rat) = 0
      grind
  have dv : ∀ j, ∃ c : Int, M j = p * c := by
    intro j
    rcases Nat.lt_or_ge j (k+1) with h | h
    · exact ⟨0, by rw [zM j h]; grind⟩
    · rcases Nat.lt_or_ge j m with h2 | h2
      · have h3 := wg_Sj (v := M) (wg b w) zM h h2
        rw [hM] at h3
        obtain ⟨c, hc⟩ := wg_int (Sj (k+1) j m) a (wg b w) ia (fun T => wg_int T b w ib iw)
        have h4 : wg b w (Tk (k+1) m) = tri (k+1) * ((z.getD k 0 : Int) : Rat) := by
          have := tri_sq (k+1)
          rw [← l1]; unfold ld; grind
        rw [h4] at h3
        have h5 := tri_sq (k+1)
        have h6 := sg_sq (k+1)
        have ht : IsI (sg (k+1) * tri (k+1)) := by
          have i1 : ∀ c, IsI (sg c) := by intro c; unfold sg; split; exact ⟨1, rfl⟩; exact ⟨-1, rfl⟩
          have i2 : ∀ c, IsI (tri c) := by
            intro c; induction c with
            | zero => exact ⟨1, rfl⟩
            | succ c ih => exact ih.mul (i1 c)
          exact (i1 _).mul (i2 _)
        obtain ⟨t, ht⟩ := ht
        refine ⟨t * c, ?_⟩
        rw [hc] at h3
        have : M j = sg (k+1) * tri (k+1) * (p * c) := by
          have : ((z.getD k 0 : Int) : Rat) * (M j) = ((z.getD k 0 : Int) : Rat) * (sg (k+1) * tri (k+1) * (p * c)) := by grind
          grind
        rw [this, ht]; grind
      · refine ⟨0, ?_⟩
        show ((z.getD k 0 : Int) : Rat) * vr r j + (-((r.getD k 0 : Int) : Rat)) * vr z j = _
        have e1 : r.getD j 0 = 0 := by rw [List.getD_eq_getElem?_getD, List.getElem?_eq_none (by omega)]; rfl
        have e2 : z.getD j 0 = 0 := by rw [List.getD_eq_getElem?_getD, List.getElem?_eq_none (by omega)]; rfl
        simp only [vr, e1, e2]; grind
  have ex : ∀ j, (p : Rat) * vr (swr r z k p) j = M j := by
    intro j
    obtain ⟨c, hc⟩ := dv j
    have hMi : M j = ((z.getD k 0 * r.getD j 0 - r.getD k 0 * z.getD j 0 : Int) : Rat) := by
      show ((z.getD k 0 : Int) : Rat) * ((r.getD j 0 : Int) : Rat) + (-((r.getD k 0 : Int) : Rat)) * ((z.getD j 0 : Int) : Rat) = _
      grind
    have hi : z.getD k 0 * r.getD j 0 - r.getD k 0 * z.getD j 0 = p * c := by
      rw [hMi] at hc; exact_mod_cast hc
    simp only [vr]
    rw [swr_get hr hzl, hi, hc, Int.fdiv_eq_ediv_of_dvd (Int.dvd_mul_right p c), Int.mul_ediv_cancel_left _ hp]
  have eN : (fun j => (p : Rat) * vr (swr r z k p) j) = M := funext ex
  refine ⟨l1, ?_, ?_, ?_⟩
  · intro j; rw [ex j]
    show ((z.getD k 0 : Int) : Rat) * vr r j + (-((r.getD k 0 : Int) : Rat)) * vr z j = _
    grind
  · intro S
    have h := hM S
    rw [← eN, wg_smul_v] at h
    grind
  · intro j hj
    have h := ex j
    rw [zM j hj] at h
    grind
/-- how great the rows' numbers are -/
theorem Bi.ent {B0 n m k : Nat} {A0 : List Vec} {top : List (List Int)} {Z : List (List Int × Vec)} {p : Int} {w : Frm} (B : Bi B0 n m k A0 top Z p w)
    {z : List Int × Vec} (hz : z ∈ Z) (j : Nat) : Ab ((m * B0) ^ (k+1) : Nat) (vr z.1 j) := by
  have nnr : ∀ a : Nat, (0 : Rat) ≤ (a : Rat) := fun a => by exact_mod_cast Nat.zero_le a
  have z0 : Ab ((m * B0) ^ (k+1) : Nat) (0 : Rat) := by have := nnr ((m * B0) ^ (k+1)); constructor <;> grind
  have hkn := B.lenZ
  have hnm := B.nm
  have hl : 0 < Z.length := List.length_pos_of_mem hz
  rcases Nat.lt_or_ge j k with h | h
  · rw [B.zer z hz j h]; exact z0
  · rcases Nat.lt_or_ge j m with h2 | h2
    · have e := wg_Sj (v := vr z.1) w (B.zer z hz) h h2
      rw [← B.rel z hz] at e
      have hp : (p : Rat) ≠ 0 := by have := B.pz; exact_mod_cast this
      have ht : w (Tk k m) = tri k * p := by
        have := tri_sq k
        have := B.pl
        unfold ld at this; grind
      rw [ht] at e
      have e2 : vr z.1 j = sg k * tri k * wg z.2 w (Sj k j m) := by
        have h5 := tri_sq k
        have h6 := sg_sq k
        have : p * (vr z.1 j) = p * (sg k * tri k * wg z.2 w (Sj k j m)) := by grind
        grind
      have ls : (Sj k j m).length = m := by unfold Sj; simp; omega
      have bd := wg_bd (V := (B0 : Nat)) (W := ((m * B0) ^ k : Nat)) (Sj k j m) z.2 w (B.bda z hz) (fun T hT => by have := B.bdw T; rw [hT, ls] at this; exact this)
      rw [ls] at bd
      have eb : ((m : Nat) : Rat) * (((B0 : Nat) : Rat) * (((m * B0) ^ k : Nat) : Rat)) = (((m * B0) ^ (k+1) : Nat) : Rat) := by
        rw [Nat.pow_succ]
        have : m * (B0 * (m * B0) ^ k) = (m * B0) ^ k * (m * B0) := by rw [← Nat.mul_assoc, Nat.mul_comm]
        rw [← this]; simp [Rat.natCast_mul]
      rw [eb] at bd
      rw [e2]
      have s1 : ∀ c, sg c = 1 ∨ sg c = -1 := by intro c; unfold sg; split; exact .inl rfl; exact .inr rfl
      have s2 : ∀ c, tri c = 1 ∨ tri c = -1 := by
        intro c; induction c with
        | zero => exact .inl rfl
        | succ c ih =>
          simp only [tri]
          rcases ih with a | a <;> rcases s1 c with b | b <;> rw [a, b] <;> grind
      rcases s1 k with a | a <;> rcases s2 k with b | b <;> rw [a, b]
      · simpa using bd
      · have := bd.neg; simpa using this
      · have := bd.neg; simpa using this
      · rw [show (-1 : Rat) * -1 * wg z.2 w (Sj k j m) = wg z.2 w (Sj k j m) by grind]; exact bd
    · have e1 : z.1.getD j 0 = 0 := by rw [List.getD_eq_getElem?_getD, List.getElem?_eq_none (by rw [B.colZ z hz]; omega)]; rfl
      have : vr z.1 j = 0 := by simp only [vr, e1]; rfl
      rw [this]; exact z0
theorem pow_up {a i n : Nat} (h : 1 ≤ a) (hi : i ≤ n) : a ^ i ≤ a ^ n := Nat.pow_le_pow_right h hi
theorem Bi.step {B0 n m k : Nat} {A0 : List Vec} {top : List (List Int)} {z : List Int × Vec} {Z : List (List Int × Vec)} {p : Int} {w : Frm}
    (B : Bi B0 n m k A0 top (z :: Z) p w) (hq : z.1.getD k 0 ≠ 0) :
    Bi B0 n m (k+1) A0 (top ++ [z.1]) (Z.map fun y => (swr y.1 z.1 k p, y.2)) (z.1.getD k 0) (wg z.2 w) := by
  have hkn := B.lenZ
  have hnm := B.nm
  simp at hkn
  have hkm : k < m := by omega
  have hz : z ∈ z :: Z := by simp
  have key : ∀ y ∈ Z, _ := fun y hy => swr_exact hkm (B.colZ y (by simp [hy])) (B.colZ z hz) B.pz B.pl (B.rel y (by simp [hy])) (B.rel z hz) (B.zer y (by simp [hy])) (B.zer z hz) hq B.intw (B.inta y (by simp [hy])) (B.inta z hz)
  have l1 := (swr_exact hkm (B.colZ z hz) (B.colZ z hz) B.pz B.pl (B.rel z hz) (B.rel z hz) (B.zer z hz) (B.zer z hz) hq B.intw (B.inta z hz) (B.inta z hz)).1
  have hp' : (p : Rat) ≠ 0 := by have := B.pz; exact_mod_cast this
  have hlT := B.lenT
  refine { lenT := by simp [B.lenT], lenZ := by simp; omega, nm := B.nm, colT := ?_, colZ := ?_, pz := hq, pl := l1, rel := ?_, zer := ?_, intw := fun S => wg_int S z.2 w (B.inta z hz) B.intw, inta := ?_, all := ?_, dia := ?_, last := ?_, bda := ?_, bdw := ?_, bdt := ?_, b1 := B.b1, lin := ?_, lin2 := ?_ }
  · intro r hr; simp at hr; rcases hr with h | h
    · exact B.colT r h
    · subst h; exact B.colZ z hz
  · intro y hy; simp at hy; obtain ⟨a, b, hab, rfl⟩ := hy
    exact swr_len (B.colZ (a, b) (by simp [hab])) (B.colZ z hz)
  · intro y hy S; simp at hy; obtain ⟨a, b, hab, rfl⟩ := hy
    exact (key (a, b) hab).2.2.1 S
  · intro y hy; simp at hy; obtain ⟨a, b, hab, rfl⟩ := hy
    exact (key (a, b) hab).2.2.2
  · intro y hy; simp at hy; obtain ⟨a, b, hab, rfl⟩ := hy
    exact B.inta (a, b) (by simp [hab])
  · rw [← B.all]; simp [wgs, Function.comp_def]
  · intro i hi
    rcases Nat.lt_or_ge i k with h | h
    · have : (top ++ [z.1]).getD i [] = top.getD i [] := by
        rw [List.getD_eq_getElem?_getD, List.getD_eq_getElem?_getD, List.getElem?_append_left (by omega)]
      rw [this]; exact B.dia i h
    · have : i = k := by omega
      subst this
      have : (top ++ [z.1]).getD i [] = z.1 := by
        rw [List.getD_eq_getElem?_getD, List.getElem?_append_right (by omega), hlT]; simp
      rw [this]
      exact ⟨hq, fun j hj => vr_zero_of (B.zer z hz j hj)⟩
  · intro _
    have : (top ++ [z.1]).getD (k + 1 - 1) [] = z.1 := by
      rw [List.getD_eq_getElem?_getD, List.getElem?_append_right (by omega)]; simp [hlT]
    rw [this]; rfl
  · intro y hy; simp at hy; obtain ⟨a, b, hab, rfl⟩ := hy
    exact B.bda (a, b) (by simp [hab])
  · intro T
    have bd := wg_bd (V := (B0 : Nat)) (W := ((T.length * B0) ^ k : Nat)) T z.2 w (B.bda z hz) (fun U hU => by have := B.bdw U; rw [hU] at this; exact this)
    have eb : ((T.length : Nat) : Rat) * (((B0 : Nat) : Rat) * (((T.length * B0) ^ k : Nat) : Rat)) = (((T.length * B0) ^ (k+1) : Nat) : Rat) := by
      rw [Nat.pow_succ]
      have : T.length * (B0 * (T.length * B0) ^ k) = (T.length * B0) ^ k * (T.length * B0) := by rw [← Nat.mul_assoc, Nat.mul_comm]
      rw [← this]; simp [Rat.natCast_mul]
    rw [eb] at bd
    exact bd
  · intro r hr j; simp at hr; rcases hr with h | h
    · exact B.bdt r h j
    · subst h
      refine (B.ent hz j).le ?_
      have := B.b1
      have h1 : 1 ≤ m * B0 := Nat.mul_pos (by omega) (by omega)
      exact_mod_cast pow_up h1 (by omega)
  · intro f hf h0
    have hl := B.lin f hf h0
    refine ⟨?_, ?_⟩
    · intro r hr; simp at hr; rcases hr with h | h
      · exact hl.1 r h
      · subst h; exact hl.2 z hz
    · intro y hy; simp at hy; obtain ⟨a, b, hab, rfl⟩ := hy
      have h1 := (key (a, b) hab).2.1
      have e : (fun j => (p : Rat) * vr (swr a z.1 k p) j) = fun j => (fun j => ((z.1.getD k 0 : Int) : Rat) * vr a j) j + (fun j => (-((a.getD k 0 : Int) : Rat)) * vr z.1 j) j := by
        funext j; rw [h1 j]; grind
      have h2 := congrArg f e
      rw [hf.smul, hf.add, hf.smul, hf.smul, hl.2 z hz, hl.2 (a, b) (by simp [hab])] at h2
      grind
  · intro f hf h1 h2
    have fz : f (vr z.1) = 0 := h1 z.1 (by simp)
    have hq' : ((z.1.getD k 0 : Int) : Rat) ≠ 0 := by exact_mod_cast hq
    refine B.lin2 f hf (fun r hr => h1 r (by simp [hr])) fun y hy => ?_
    rcases List.mem_cons.mp hy with h | h
    · subst h; exact fz
    · have e1 := (key y h).2.1
      have e : (fun j => (p : Rat) * vr (swr y.1 z.1 k p) j) = fun j => (fun j => ((z.1.getD k 0 : Int) : Rat) * vr y.1 j) j + (fun j => (-((y.1.getD k 0 : Int) : Rat)) * vr z.1 j) j := by
        funext j; rw [e1 j]; grind
      have h3 := congrArg f e
      rw [hf.smul, hf.add, hf.smul, hf.smul, fz, h2 _ (List.mem_map_of_mem h)] at h3
      grind
/-- no row leads: the measure is nought -/
theorem pow_rel (Z : List (List Int × Vec)) : ∀ {p : Rat} {w : Frm}, p ≠ 0 → (∀ z ∈ Z, ∀ S, p * wg z.2 w S = wg (vr z.1) w S) →
    ∃ c : Rat, c ≠ 0 ∧ ∀ S, c * wgs (Z.map (·.2)) w S = wgs (Z.map (fun z => vr z.1)) w S := by
  induction Z with
  | nil => intro p w _ _; exact ⟨1, by grind, fun S => by simp [wgs]⟩
  | cons z Z ih =>
    intro p w hp h
    obtain ⟨c, hc, hS⟩ := ih (p := p) (w := wg z.2 w) hp (fun y hy S => rel_up hp (h y (by simp [hy])) (h z (by simp)) S)
    refine ⟨p * c, by grind, fun S => ?_⟩
    simp only [List.map_cons, wgs]
    have e : wg (vr z.1) w = fun T => p * wg z.2 w T := by funext T; exact (h z (by simp) T).symm
    rw [e, wgs_smul]
    simp only []
    rw [← hS]; grind
theorem Bi.none {B0 n m k : Nat} {A0 : List Vec} {top : List (List Int)} {Z : List (List Int × Vec)} {p : Int} {w : Frm}
    (B : Bi B0 n m k A0 top Z p w) (hkn : k < n) (h0 : ∀ z ∈ Z, z.1.getD k 0 = 0) : ld n m (wgs A0 one) = 0 := by
  have hp' : (p : Rat) ≠ 0 := by have := B.pz; exact_mod_cast this
  obtain ⟨c, hc, hS⟩ := pow_rel Z hp' B.rel
  have h := wgs_few (c := k+1) (n := n) (m := m) (L := Z.map (fun z => vr z.1)) w ?_ (by omega) (by have := B.lenZ; simp; omega)
  · rw [← hS, B.all] at h
    unfold ld; grind
  · intro v hv j hj
    rw [List.mem_map] at hv
    obtain ⟨z, hz, rfl⟩ := hv
    rcases Nat.lt_or_ge j k with h | h
    · exact B.zer _ hz j h
    · have : j = k := by omega
      subst this
      have := h0 _ hz
      simp only [vr]; rw [this]; rfl
/-- at last -/
theorem Bi.fin {B0 n m : Nat} {A0 : List Vec} {top : List (List Int)} {Z : List (List Int × Vec)} {p : Int} {w : Frm}
    (B : Bi B0 n m n A0 top Z p w) : Z = [] ∧ ld n m (wgs A0 one) = p := by
  have : Z = [] := by have := B.lenZ; exact List.length_eq_zero_iff.mp (by omega)
  subst this
  refine ⟨rfl, ?_⟩
  rw [← B.all]; exact B.pl
end Wd
/-! Fractions as rationals -/
namespace Mth
theorem frac_rat (t b : Int) (h : b ≠ 0) : frac t b = (((t : Rat) / (b : Rat)).num, (((t : Rat) / (b : Rat)).den : Int)) := by
  have g := frac_gcd t b h
  have p := frac_pos t b h
  have c := frac_cross t b
  generalize (frac t b) = x at *
  obtain ⟨n, d⟩ := x
  simp only at g p c
  have hd : d = (d.toNat : Int) := by omega
  have hn : d.toNat ≠ 0 := by omega
  have hc : n.natAbs.Coprime d.toNat := by
    have : Int.gcd n d = n.natAbs.gcd d.toNat := by rw [Int.gcd]; congr 1; omega
    unfold Nat.Coprime; rw [← this]; exact g
  let r : Rat := ⟨n, d.toNat, hn, hc⟩
  have hr : r * (d : Rat) = n := by
    have h1 : r = (n : Rat) / ((d.toNat : Nat) : Rat) := by
      have := Rat.num_divInt_den r
      rw [← this, Rat.divInt_eq_div]; rfl
    have h2 : ((d.toNat : Nat) : Rat) = (d : Rat) := by
      have : ((d.toNat : Nat) : Rat) = (((d.toNat : Nat) : Int) : Rat) := rfl
      rw [this, ← hd]
    have h3 : (d : Rat) ≠ 0 := by have : d ≠ 0 := by omega
                                  exact_mod_cast this
    rw [h1, h2]; grind
  have hb : (b : Rat) ≠ 0 := by exact_mod_cast h
  have hd0 : (d : Rat) ≠ 0 := by have : d ≠ 0 := by omega
                                 exact_mod_cast this
  have cr : (n : Rat) * b = t * d := by exact_mod_cast c
  have e : (t : Rat) / (b : Rat) = r := by grind
  rw [e]
  show (n, d) = (n, ((d.toNat : Nat) : Int))
  rw [← hd]
/-- the fraction's numbers -/
def fr (q : Rat) : Int × Int := (q.num, q.den)
theorem rat_num (q : Rat) : q * ((q.den : Nat) : Rat) = q.num := by
  have h1 := Rat.num_divInt_den q
  rw [Rat.divInt_eq_div] at h1
  have : ((q.den : Nat) : Rat) ≠ 0 := by exact_mod_cast q.den_nz
  have h2 : (((q.den : Nat) : Int) : Rat) = ((q.den : Nat) : Rat) := rfl
  rw [h2] at h1
  grind
theorem rat_den_ne (q : Rat) : ((q.den : Nat) : Rat) ≠ 0 := by exact_mod_cast q.den_nz
theorem ic (n : Nat) : (((n : Nat) : Int) : Rat) = ((n : Nat) : Rat) := rfl
theorem fr_add (p q : Rat) : frac (p.num * q.den + q.num * p.den) (p.den * q.den) = fr (p + q) := by
  have hp := p.den_nz
  have hq := q.den_nz
  have h : ((p.den : Int) * (q.den : Int)) ≠ 0 := Int.mul_ne_zero (by omega) (by omega)
  rw [frac_rat _ _ h]
  have e : (((p.num * q.den + q.num * p.den : Int)) : Rat) / (((p.den : Int) * (q.den : Int) : Int) : Rat) = p + q := by
    have := rat_num p; have := rat_num q; have := rat_den_ne p; have := rat_den_ne q
    simp only [Rat.intCast_add, Rat.intCast_mul, ic]
    grind
  rw [e]; rfl
theorem fr_sub (p q : Rat) : frac (p.num * q.den - q.num * p.den) (p.den * q.den) = fr (p - q) := by
  have hp := p.den_nz
  have hq := q.den_nz
  have h : ((p.den : Int) * (q.den : Int)) ≠ 0 := Int.mul_ne_zero (by omega) (by omega)
  rw [frac_rat _ _ h]
  have e : (((p.num * q.den - q.num * p.den : Int)) : Rat) / (((p.den : Int) * (q.den : Int) : Int) : Rat) = p - q := by
    have := rat_num p; have := rat_num q; have := rat_den_ne p; have := rat_den_ne q
    simp only [Rat.intCast_sub, Rat.intCast_mul, ic]
    grind
  rw [e]; rfl
theorem fr_mul (p q : Rat) : frac (p.num * q.num) (p.den * q.den) = fr (p * q) := by
  have hp := p.den_nz
  have hq := q.den_nz
  have h : ((p.den : Int) * (q.den : Int)) ≠ 0 := Int.mul_ne_zero (by omega) (by omega)
  rw [frac_rat _ _ h]
  have e : (((p.num * q.num : Int)) : Rat) / (((p.den : Int) * (q.den : Int) : Int) : Rat) = p * q := by
    have := rat_num p; have := rat_num q; have := rat_den_ne p; have := rat_den_ne q
    simp only [Rat.intCast_mul, ic]
    grind
  rw [e]; rfl
/-- how many figures, above and below -/
def Sb (n d : Nat) (q : Rat) : Prop := q.num.natAbs ≤ 2 ^ n ∧ q.den ≤ 2 ^ d
theorem frac_le {t b : Int} (h : b ≠ 0) : (frac t b).1.natAbs ≤ t.natAbs ∧ (frac t b).2.natAbs ≤ b.natAbs := by
  have h1 := frac_l t b
  have h2 := frac_r t b
  have h3 := part_ne t b h
  have a1 : t.natAbs = (frac t b).1.natAbs * (part t b).natAbs := by rw [← Int.natAbs_mul, h1]
  have a2 : b.natAbs = (frac t b).2.natAbs * (part t b).natAbs := by rw [← Int.natAbs_mul, h2]
  have a3 : 1 ≤ (part t b).natAbs := by omega
  rw [a1, a2]
  exact ⟨Nat.le_mul_of_pos_right _ a3, Nat.le_mul_of_pos_right _ a3⟩
theorem sb_of {t b : Int} {n d : Nat} (h : b ≠ 0) (h1 : t.natAbs ≤ 2 ^ n) (h2 : b.natAbs ≤ 2 ^ d) {q : Rat} (e : frac t b = fr q) : Sb n d q := by
  have := frac_le (t := t) h
  rw [e] at this
  simp only [fr, Int.natAbs_natCast] at this
  exact ⟨by omega, by omega⟩
theorem pmul {a b m n : Nat} (h : a ≤ 2 ^ m) (g : b ≤ 2 ^ n) : a * b ≤ 2 ^ (m + n) := by rw [Nat.pow_add]; exact Nat.mul_le_mul h g
theorem dnz (p q : Rat) : ((p.den : Int) * (q.den : Int)) ≠ 0 := by
  have hp := p.den_nz
  have hq := q.den_nz
  exact Int.mul_ne_zero (by omega) (by omega)
theorem Sb.mul {n d n' d' : Nat} {p q : Rat} (h : Sb n d p) (g : Sb n' d' q) : Sb (n + n') (d + d') (p * q) := by
  refine sb_of (dnz p q) ?_ ?_ (fr_mul p q)
  · rw [Int.natAbs_mul]; exact pmul h.1 g.1
  · rw [Int.natAbs_mul, Int.natAbs_natCast, Int.natAbs_natCast]; exact pmul h.2 g.2
theorem Sb.add {n d n' d' N : Nat} {p q : Rat} (h : Sb n d p) (g : Sb n' d' q) (h1 : n + d' ≤ N) (h2 : n' + d ≤ N) : Sb (N + 1) (d + d') (p + q) := by
  refine sb_of (dnz p q) ?_ ?_ (fr_add p q)
  · have a1 : (p.num * q.den).natAbs ≤ 2 ^ N := by
      rw [Int.natAbs_mul, Int.natAbs_natCast]
      exact Nat.le_trans (pmul h.1 g.2) (Nat.pow_le_pow_right (by decide) h1)
    have a2 : (q.num * p.den).natAbs ≤ 2 ^ N := by
      rw [Int.natAbs_mul, Int.natAbs_natCast]
      exact Nat.le_trans (pmul g.1 h.2) (Nat.pow_le_pow_right (by decide) h2)
    have := Int.natAbs_add_le (p.num * q.den) (q.num * p.den)
    rw [Nat.pow_succ]; omega
  · rw [Int.natAbs_mul, Int.natAbs_natCast, Int.natAbs_natCast]; exact pmul h.2 g.2
theorem Sb.sub {n d n' d' N : Nat} {p q : Rat} (h : Sb n d p) (g : Sb n' d' q) (h1 : n + d' ≤ N) (h2 : n' + d ≤ N) : Sb (N + 1) (d + d') (p - q) := by
  refine sb_of (dnz p q) ?_ ?_ (fr_sub p q)
  · have a1 : (p.num * q.den).natAbs ≤ 2 ^ N := by
      rw [Int.natAbs_mul, Int.natAbs_natCast]
      exact Nat.le_trans (pmul h.1 g.2) (Nat.pow_le_pow_right (by decide) h1)
    have a2 : (q.num * p.den).natAbs ≤ 2 ^ N := by
      rw [Int.natAbs_mul, Int.natAbs_natCast]
      exact Nat.le_trans (pmul g.1 h.2) (Nat.pow_le_pow_right (by decide) h2)
    have := Int.natAbs_sub_le (p.num * q.den) (q.num * p.den)
    rw [Nat.pow_succ]; omega
  · rw [Int.natAbs_mul, Int.natAbs_natCast, Int.natAbs_natCast]; exact pmul h.2 g.2
theorem Sb.mono {n d n' d' : Nat} {p : Rat} (h : Sb n d p) (h1 : n ≤ n') (h2 : d ≤ d') : Sb n' d' p :=
  ⟨Nat.le_trans h.1 (Nat.pow_le_pow_right (by decide) h1), Nat.le_trans h.2 (Nat.pow_le_pow_right (by decide) h2)⟩
theorem Sb.zero : Sb 0 0 0 := by constructor <;> decide
theorem Sb.one : Sb 0 0 1 := by constructor <;> decide
/-- the common bottom of a row -/
def cb1 (c : Int) (q : Rat) : Int := c.fdiv (Int.gcd c q.den : Int) * q.den
def cb (r : List Rat) : Int := r.foldl cb1 1
/-- times a number that its bottom divides -/
def wh (b : Int) (q : Rat) : Int := q.num * b.fdiv q.den
end Mth
/-! The measure of a table: its sweeping, its rows times numbers -/
namespace Wd
open Mth
/-- two rows exchanged, the one with its signs turned -/
def ledR (R : List (List Int)) (k i : Nat) : List (List Int) := if i = k then R else (R.set k (R.getD i [])).set i ((R.getD k []).map fun x => -x)
/-- the rows of rationals -/
def vq (r : List Rat) : Vec := fun j => r.getD j 0
def dt (n m : Nat) (T : List (List Rat)) : Rat := ld n m (wgs (T.map vq) one)
def prodB : List Int → Int
  | [] => 1
  | b :: L => b * prodB L
end Wd
/-! A table that is a product of two triangular ones; its rows turned round, exchanged, doubled, scaled -/
namespace Wd
open Mth
def sumQ (f : Nat → Rat) : Nat → Rat
  | 0 => 0
  | n+1 => sumQ f n + f n
def wn (V : Nat → Vec) : Nat → Frm
  | 0 => one
  | i+1 => wg (V i) (wn V i)
def prodQ (f : Nat → Rat) : Nat → Rat
  | 0 => 1
  | n+1 => prodQ f n * f n
def rowF (T : List (List Rat)) (i : Nat) : Vec := vq (T.getD i [])
def en (T : List (List Rat)) (i j : Nat) : Rat := (T.getD i []).getD j 0
/-- the product -/
def mulT (n : Nat) (L U : List (List Rat)) : List (List Rat) := (List.range n).map fun i => (List.range n).map fun j => sumQ (fun l => en L i l * en U l j) n
structure Tri (n : Nat) (L U : List (List Rat)) : Prop where
  lL : L.length = n
  lU : U.length = n
  cL : ∀ r ∈ L, r.length = n
  cU : ∀ r ∈ U, r.length = n
  l1 : ∀ i, i < n → en L i i = 1
  l0 : ∀ i j, i < n → i < j → en L i j = 0
  u0 : ∀ i j, i < n → j < i → en U i j = 0
/-! the rows changed -/
end Wd
/-! The answer of a table and a right row: told by sweeping, whole when times the measure -/
namespace Wd
def fx (n : Nat) (x : Nat → Rat) : Vec → Rat := fun v => sumQ (fun j => v j * x j) n - v n
/-! a vector that all rows are square to -/
def ct : Vec → Frm → Frm
  | _, _, [] => 0
  | y, w, false :: S => y 0 * w (true :: S) + ct (sh y) (at0 w) S
  | y, w, true :: S => - ct (sh y) (at1 w) S
def dotv (u y : Vec) : Nat → Rat
  | 0 => 0
  | n+1 => u 0 * y 0 + dotv (sh u) (sh y) n
/-- the measure times an answer is the form at other columns -/
def crS (n j : Nat) : List Bool := List.replicate j true ++ false :: (List.replicate (n - 1 - j) true ++ [true])
def crC (n j : Nat) : Rat := tri n * sg (n - 1 - j)
end Wd
/-! the common bottom is the least one; bottoms that divide -/
namespace Mth
/-- a value's own size -/
def Vb (v : Nat) (q : Rat) : Prop := Wd.Ab ((2 ^ v : Nat) : Rat) q
theorem Vb.mul {v u : Nat} {p q : Rat} (h : Vb v p) (g : Vb u q) : Vb (v + u) (p * q) := by
  have := Wd.Ab.mul h g
  have e : (((2 ^ v : Nat)) : Rat) * ((2 ^ u : Nat) : Rat) = ((2 ^ (v + u) : Nat) : Rat) := by rw [Nat.pow_add, Rat.natCast_mul]
  rw [e] at this
  exact this
theorem Vb.add {v : Nat} {p q : Rat} (h : Vb v p) (g : Vb v q) : Vb (v + 1) (p + q) := by
  obtain ⟨a, b⟩ := h
  obtain ⟨c, d⟩ := g
  have e : ((2 ^ (v + 1) : Nat) : Rat) = ((2 ^ v : Nat) : Rat) + ((2 ^ v : Nat) : Rat) := by
    rw [Nat.pow_succ, Nat.mul_two, Rat.natCast_add]
  unfold Vb Wd.Ab
  rw [e]
  constructor <;> grind
theorem Vb.mono {v u : Nat} {p : Rat} (h : Vb v p) (hv : v ≤ u) : Vb u p := by
  refine Wd.Ab.le h ?_
  exact_mod_cast Nat.pow_le_pow_right (by decide) hv
end Mth
/-! a table with a right row behind it, which a drawn row answers -/
namespace Wd
open Mth
/-- what the row comes to -/
def comes (n : Nat) (row dq : List Rat) : Rat := sumQ (fun j => row.getD j 0 * dq.getD j 0) n
end Wd
/-! the table of eases -/
namespace Wd
open Mth
def setE (T : List (List Rat)) (i j : Nat) (v : Rat) : List (List Rat) := T.set i ((T.getD i []).set j v)
structure Sq (n : Nat) (T : List (List Rat)) : Prop where
  len : T.length = n
  col : ∀ r ∈ T, r.length = n
theorem Sq.row {n : Nat} {T : List (List Rat)} (h : Sq n T) {i : Nat} (hi : i < n) : (T.getD i []).length = n ∧ T[i]? = some (T.getD i []) := by
  have e : T[i]? = some (T[i]'(by rw [h.len]; exact hi)) := List.getElem?_eq_getElem _
  have e2 : T.getD i [] = T[i]'(by rw [h.len]; exact hi) := by rw [List.getD_eq_getElem?_getD, e]; rfl
  rw [e2]
  exact ⟨h.col _ (List.getElem_mem _), e⟩
theorem Sq.set {n : Nat} {T : List (List Rat)} (h : Sq n T) {i j : Nat} {v : Rat} (hi : i < n) : Sq n (setE T i j v) := by
  refine ⟨by unfold setE; rw [List.length_set]; exact h.len, fun r hr => ?_⟩
  unfold setE at hr
  rcases List.mem_or_eq_of_mem_set hr with h1 | h1
  · exact h.col r h1
  · rw [h1, List.length_set]; exact (h.row hi).1
abbrev Rope := Nat × Nat × Rat
/-- one rope into the table -/
def lapStep (T : List (List Rat)) (r : Rope) : List (List Rat) :=
  if r.1 = r.2.1 then T else
  let T1 := setE T r.1 r.1 (en T r.1 r.1 + r.2.2)
  let T2 := setE T1 r.2.1 r.2.1 (en T1 r.2.1 r.2.1 + r.2.2)
  let T3 := setE T2 r.1 r.2.1 (en T2 r.1 r.2.1 - r.2.2)
  setE T3 r.2.1 r.1 (en T3 r.2.1 r.1 - r.2.2)
def zeroT (n : Nat) : List (List Rat) := List.replicate n (List.replicate n 0)
def lapT (n : Nat) (rs : List Rope) : List (List Rat) := rs.foldl lapStep (zeroT n)
/-- what a rope brings to the entry -/
def lapR (r : Rope) (i j : Nat) : Rat :=
  if r.1 = r.2.1 then 0 else (if i = r.1 ∧ j = r.1 then r.2.2 else 0) + (if i = r.2.1 ∧ j = r.2.1 then r.2.2 else 0) - (if i = r.1 ∧ j = r.2.1 then r.2.2 else 0) - (if i = r.2.1 ∧ j = r.1 then r.2.2 else 0)
end Wd
/-! A table of measure nought brings some row that is not nought to nought -/
namespace Wd
open Mth
end Wd
/-! A net that hangs together: its table is not of measure nought; what its heights keep -/
namespace Wd
open Mth
/-- what runs away from place i through the rope, by the levels X -/
def runs (X : Nat → Rat) (r : Rope) : Rat := r.2.2 * (X r.1 - X r.2.1)
def away (X : Nat → Rat) (i : Nat) (r : Rope) : Rat := (if i = r.1 then runs X r else 0) - (if i = r.2.1 then runs X r else 0)
def outs (X : Nat → Rat) (rs : List Rope) (i : Nat) : Rat := (rs.map (away X i)).sum
/-- all places hang together with place 0 -/
def Hang (n : Nat) (rs : List Rope) : Prop := ∀ S : Nat → Prop, S 0 → (∀ r ∈ rs, S r.1 ↔ S r.2.1) → ∀ p, p < n → S p
/-- the rows and numbers of the poles left out -/
def cutT (T : List (List Rat)) : List (List Rat) := (T.drop 2).map (·.drop 2)
def lift2 (a b : Rat) (x : Nat → Rat) : Nat → Rat
  | 0 => a
  | 1 => b
  | j+2 => x j
/-- the right row, and what its answer means -/
def rightT (T : List (List Rat)) : List Rat := (T.drop 2).map fun r => 0 - r.getD 0 0
end Wd
/-! How great a net's numbers are -/
namespace Wd
open Mth
theorem IsI.add {x y : Rat} (h : IsI x) (g : IsI y) : IsI (x + y) := by
  obtain ⟨a, rfl⟩ := h; obtain ⟨b, rfl⟩ := g; exact ⟨a + b, by grind⟩
theorem IsI.neg {x : Rat} (h : IsI x) : IsI (-x) := by
  obtain ⟨a, rfl⟩ := h; exact ⟨-a, by grind⟩
theorem IsI.zero : IsI 0 := ⟨0, rfl⟩
theorem Ab.add {B C x y : Rat} (h : Ab B x) (g : Ab C y) : Ab (B + C) (x + y) := by
  obtain ⟨h1, h2⟩ := h; obtain ⟨g1, g2⟩ := g
  constructor <;> grind
def denP : List Rope → Nat
  | [] => 1
  | r :: rs => r.2.2.den * denP rs
end Wd
/-! Nets that grow: ends stand in the turns of their places, all hangs together -/
namespace Wd
open Mth
def inT (ts : List (List Int)) (p : Nat) (x : Int) : Prop := ∃ t, ts[p]? = some t ∧ x ∈ t
def insL (t : List Int) (a : Nat) (x : Int) : List Int := t.take a ++ x :: t.drop a
theorem insL_perm (t : List Int) (a : Nat) (x : Int) : (insL t a x).Perm (x :: t) := by
  unfold insL
  have h := List.perm_middle (a := x) (l₁ := t.take a) (l₂ := t.drop a)
  rwa [List.take_append_drop] at h
theorem insL_mem {t : List Int} {a : Nat} {x y : Int} : y ∈ insL t a x ↔ y = x ∨ y ∈ t := by
  rw [(insL_perm t a x).mem_iff, List.mem_cons]
theorem insL_nd {t : List Int} {a : Nat} {x : Int} (h : t.Nodup) (hx : x ∉ t) : (insL t a x).Nodup := by
  rw [(insL_perm t a x).nodup_iff, List.nodup_cons]
  exact ⟨hx, h⟩
theorem insL_len (t : List Int) (a : Nat) (x : Int) : (insL t a x).length = t.length + 1 := by
  rw [(insL_perm t a x).length_eq]; rfl
theorem inT_ins {ts : List (List Int)} {p a q : Nat} {x y : Int} {t : List Int} (h : ts[p]? = some t) : inT (ts.set p (insL t a x)) q y ↔ inT ts q y ∨ (q = p ∧ y = x) := by
  have hp : p < ts.length := (List.getElem?_eq_some_iff.mp h).1
  unfold inT
  by_cases e : p = q
  · subst e
    rw [List.getElem?_set_self hp, h]
    constructor
    · rintro ⟨t', e1, e2⟩
      cases e1
      rcases insL_mem.mp e2 with z | z
      · exact .inr ⟨rfl, z⟩
      · exact .inl ⟨t, rfl, z⟩
    · rintro (⟨t', e1, e2⟩ | ⟨_, e2⟩)
      · cases e1
        exact ⟨_, rfl, insL_mem.mpr (.inr e2)⟩
      · exact ⟨_, rfl, insL_mem.mpr (.inl e2)⟩
  · rw [List.getElem?_set_ne e]
    constructor
    · intro h; exact .inl h
    · rintro (h | ⟨h, _⟩)
      · exact h
      · exact absurd h.symm e
theorem inT_app {ts : List (List Int)} {u : List Int} {q : Nat} {y : Int} : inT (ts ++ [u]) q y ↔ inT ts q y ∨ (q = ts.length ∧ y ∈ u) := by
  unfold inT
  rcases Nat.lt_trichotomy q ts.length with h | h | h
  · rw [List.getElem?_append_left h]
    constructor
    · intro z; exact .inl z
    · rintro (z | ⟨z, _⟩)
      · exact z
      · omega
  · subst h
    rw [List.getElem?_concat_length]
    constructor
    · rintro ⟨t, e1, e2⟩; cases e1; exact .inr ⟨rfl, e2⟩
    · rintro (⟨t, e1, e2⟩ | ⟨_, e2⟩)
      · rw [List.getElem?_eq_none (Nat.le_refl _)] at e1; cases e1
      · exact ⟨_, rfl, e2⟩
  · constructor
    · rintro ⟨t, e1, e2⟩
      have : q < (ts ++ [u]).length := (List.getElem?_eq_some_iff.mp e1).1
      rw [List.length_append, List.length_singleton] at this; omega
    · rintro (⟨t, e1, e2⟩ | ⟨z, _⟩)
      · have := (List.getElem?_eq_some_iff.mp e1).1; omega
      · omega
theorem nd_ix {t : List Int} (h : t.Nodup) {i j : Nat} {x : Int} (h1 : t[i]? = some x) (h2 : t[j]? = some x) : i = j := by
  obtain ⟨i1, e1⟩ := List.getElem?_eq_some_iff.mp h1
  obtain ⟨j1, e2⟩ := List.getElem?_eq_some_iff.mp h2
  have hp := List.pairwise_iff_getElem.mp h
  rcases Nat.lt_trichotomy i j with z | z | z
  · exact absurd (e1.trans e2.symm) (hp i j i1 j1 z)
  · exact z
  · exact absurd (e2.trans e1.symm) (hp j i j1 i1 z)
theorem set_mem {t : List Int} (h : t.Nodup) {a : Nat} {o v y : Int} (ha : t[a]? = some o) : y ∈ t.set a v ↔ (y ∈ t ∧ y ≠ o) ∨ y = v := by
  have hl : a < t.length := (List.getElem?_eq_some_iff.mp ha).1
  constructor
  · intro hy
    obtain ⟨i, hi, e⟩ := List.getElem_of_mem hy
    have e' : (t.set a v)[i]? = some y := by rw [List.getElem?_eq_getElem hi, e]
    by_cases z : a = i
    · subst z
      rw [List.getElem?_set_self hl] at e'
      cases e'; exact .inr rfl
    · rw [List.getElem?_set_ne z] at e'
      exact .inl ⟨List.mem_of_getElem? e', fun w => z (nd_ix h ha (by rw [e', w]))⟩
  · rintro (⟨h1, h2⟩ | h1)
    · obtain ⟨i, hi, e⟩ := List.getElem_of_mem h1
      have e' : t[i]? = some y := by rw [List.getElem?_eq_getElem hi, e]
      have z : a ≠ i := fun w => h2 (by subst w; rw [ha] at e'; exact (Option.some.inj e').symm)
      exact List.mem_of_getElem? (by rw [List.getElem?_set_ne z]; exact e')
    · rw [h1]; exact List.mem_of_getElem? (List.getElem?_set_self hl)
theorem set_nd {t : List Int} (h : t.Nodup) {a : Nat} {v : Int} (hv : v ∉ t) : (t.set a v).Nodup := by
  have hp := List.pairwise_iff_getElem.mp h
  refine List.pairwise_iff_getElem.mpr fun i j hi hj hij => ?_
  rw [List.length_set] at hi hj
  rw [List.getElem_set, List.getElem_set]
  split
  · split
    · omega
    · intro z; exact hv (z ▸ List.getElem_mem _)
  · split
    · intro z; exact hv (z ▸ List.getElem_mem _)
    · exact hp i j hi hj hij
theorem inT_set {ts : List (List Int)} {p a q : Nat} {o v y : Int} {t : List Int} (h : ts[p]? = some t) (hn : t.Nodup) (ha : t[a]? = some o) : inT (ts.set p (t.set a v)) q y ↔ (inT ts q y ∧ ¬ (q = p ∧ y = o)) ∨ (q = p ∧ y = v) := by
  have hp : p < ts.length := (List.getElem?_eq_some_iff.mp h).1
  unfold inT
  by_cases e : p = q
  · subst e
    rw [List.getElem?_set_self hp, h]
    constructor
    · rintro ⟨t', e1, e2⟩
      cases e1
      rcases (set_mem hn ha).mp e2 with z | z
      · exact .inl ⟨⟨t, rfl, z.1⟩, fun w => z.2 w.2⟩
      · exact .inr ⟨rfl, z⟩
    · rintro (⟨⟨t', e1, e2⟩, e3⟩ | ⟨_, e2⟩)
      · cases e1
        exact ⟨_, rfl, (set_mem hn ha).mpr (.inl ⟨e2, fun w => e3 ⟨rfl, w⟩⟩)⟩
      · exact ⟨_, rfl, (set_mem hn ha).mpr (.inr e2)⟩
  · rw [List.getElem?_set_ne e]
    constructor
    · intro h; exact .inl ⟨h, fun w => e w.1.symm⟩
    · rintro (h | ⟨h, _⟩)
      · exact h.1
      · exact absurd h.symm e
/-- a net under way -/
structure Gi (ts : List (List Int)) (rs : List Rope) : Prop where
  two : 2 ≤ ts.length
  few : ts.length ≤ rs.length + 1
  ends : ∀ r ∈ rs, r.1 < ts.length ∧ r.2.1 < ts.length ∧ Sb 30 17 r.2.2
  pos : ∀ r ∈ rs, 0 < r.2.2
  hang : Hang ts.length rs
  odd : ∀ (k : Nat) (r : Rope), rs[k]? = some r → ∀ p : Nat, inT ts p (2 * (k : Int) + 1) ↔ p = r.2.1
  less : ∀ (p : Nat) (x : Int), inT ts p x → x < 2 * (rs.length : Int)
  nd : ∀ t ∈ ts, t.Nodup
  ne : ∀ t ∈ ts, t ≠ []
  lens : ∀ t ∈ ts, t.length ≤ 2 * rs.length
theorem set_all {P : List Int → Prop} {ts : List (List Int)} {p : Nat} {t : List Int} (h : ∀ t ∈ ts, P t) (ht : P t) : ∀ u ∈ ts.set p t, P u := fun u hu => by
  rcases List.mem_or_eq_of_mem_set hu with z | z
  · exact h u z
  · rw [z]; exact ht
theorem app_all {P : List Int → Prop} {ts : List (List Int)} {t : List Int} (h : ∀ t ∈ ts, P t) (ht : P t) : ∀ u ∈ ts ++ [t], P u := fun u hu => by
  rcases List.mem_append.mp hu with z | z
  · exact h u z
  · rw [List.mem_singleton.mp z]; exact ht
theorem hang_app {n : Nat} {rs : List Rope} {r : Rope} (h : Hang n rs) : Hang n (rs ++ [r]) := fun S s0 hs p hp => h S s0 (fun x hx => hs x (List.mem_append.mpr (.inl hx))) p hp
theorem snoc_at {rs : List Rope} {r x : Rope} {k : Nat} (h : (rs ++ [r])[k]? = some x) : rs[k]? = some x ∨ (k = rs.length ∧ x = r) := by
  rcases Nat.lt_trichotomy k rs.length with z | z | z
  · rw [List.getElem?_append_left z] at h; exact .inl h
  · subst z; rw [List.getElem?_concat_length] at h; exact .inr ⟨rfl, (Option.some.inj h).symm⟩
  · have := (List.getElem?_eq_some_iff.mp h).1
    rw [List.length_append, List.length_singleton] at this; omega
theorem len_snoc (rs : List Rope) (r : Rope) : (rs ++ [r]).length = rs.length + 1 := by rw [List.length_append]; rfl
/-- a rope between two places of it -/
theorem Gi.chord {ts : List (List Int)} {rs : List Rope} (g : Gi ts rs) {p q a b : Nat} {t u : List Int} {e : Rat} (hp : ts[p]? = some t) (hq : (ts.set p (insL t a (2 * (rs.length : Int))))[q]? = some u) (he : Sb 30 17 e) (h0 : 0 < e) :
    Gi ((ts.set p (insL t a (2 * (rs.length : Int)))).set q (insL u b (2 * (rs.length : Int) + 1))) (rs ++ [(p, q, e)]) := by
  have lp : p < ts.length := (List.getElem?_eq_some_iff.mp hp).1
  have lq : q < ts.length := by have := (List.getElem?_eq_some_iff.mp hq).1; rwa [List.length_set] at this
  have tn : ∀ x, x ∈ t → x < 2 * (rs.length : Int) := fun x hx => g.less p x ⟨t, hp, hx⟩
  have l1 : ∀ x r, inT (ts.set p (insL t a (2 * (rs.length : Int)))) r x → x < 2 * (rs.length : Int) + 1 := fun x r h => by
    rcases (inT_ins hp).mp h with z | z
    · have := g.less _ _ z; omega
    · omega
  have un : ∀ x, x ∈ u → x < 2 * (rs.length : Int) + 1 := fun x hx => l1 x q ⟨u, hq, hx⟩
  have tm := List.mem_of_getElem? hp
  have nd1 : ∀ v ∈ ts.set p (insL t a (2 * (rs.length : Int))), v.Nodup := set_all g.nd (insL_nd (g.nd t tm) fun z => by have := tn _ z; omega)
  have ne1 : ∀ v ∈ ts.set p (insL t a (2 * (rs.length : Int))), v ≠ [] := set_all g.ne (fun z => by have := congrArg List.length z; rw [insL_len] at this; simp at this)
  have ln1 : ∀ v ∈ ts.set p (insL t a (2 * (rs.length : Int))), v.length ≤ 2 * rs.length + 1 := set_all (fun v hv => by have := g.lens v hv; omega) (by rw [insL_len]; have := g.lens t tm; omega)
  have um := List.mem_of_getElem? hq
  have L : ((ts.set p (insL t a (2 * (rs.length : Int)))).set q (insL u b (2 * (rs.length : Int) + 1))).length = ts.length := by rw [List.length_set, List.length_set]
  refine ⟨by rw [L]; exact g.two, by rw [L, len_snoc]; have := g.few; omega, ?_, ?_, by rw [L]; exact hang_app g.hang, ?_, ?_, ?_, ?_, ?_⟩
  · intro r hr
    rw [L]
    rcases List.mem_append.mp hr with z | z
    · exact g.ends r z
    · rw [List.mem_singleton.mp z]; exact ⟨lp, lq, he⟩
  · intro r hr
    rcases List.mem_append.mp hr with z | z
    · exact g.pos r z
    · rw [List.mem_singleton.mp z]; exact h0
  · intro k r hk x
    rw [inT_ins hq, inT_ins hp]
    rcases snoc_at hk with z | ⟨z1, z2⟩
    · have lk : k < rs.length := (List.getElem?_eq_some_iff.mp z).1
      rw [g.odd k r z x]
      constructor
      · rintro ((h | ⟨_, h⟩) | ⟨_, h⟩)
        · exact h
        · omega
        · omega
      · intro h; exact .inl (.inl h)
    · subst z1 z2
      constructor
      · rintro ((h | ⟨_, h⟩) | ⟨h, _⟩)
        · have := g.less _ _ h; omega
        · omega
        · exact h
      · intro h; exact .inr ⟨h, rfl⟩
  · intro r x h
    rw [len_snoc]
    rcases (inT_ins hq).mp h with z | z
    · have := l1 _ _ z; omega
    · omega
  · exact set_all nd1 (insL_nd (nd1 u um) fun z => by have := un _ z; omega)
  · exact set_all ne1 (fun z => by have := congrArg List.length z; rw [insL_len] at this; simp at this)
  · rw [len_snoc]
    exact set_all (fun v hv => by have := ln1 v hv; omega) (by rw [insL_len]; have := ln1 u um; omega)
/-- a new place hung up -/
theorem Gi.hung {ts : List (List Int)} {rs : List Rope} (g : Gi ts rs) {p a : Nat} {t : List Int} {e : Rat} (hp : ts[p]? = some t) (he : Sb 30 17 e) (h0 : 0 < e) :
    Gi ((ts ++ [[2 * (rs.length : Int) + 1]]).set p (insL t a (2 * (rs.length : Int)))) (rs ++ [(p, ts.length, e)]) := by
  have lp : p < ts.length := (List.getElem?_eq_some_iff.mp hp).1
  have hp' : (ts ++ [[2 * (rs.length : Int) + 1]])[p]? = some t := by rw [List.getElem?_append_left lp]; exact hp
  have tn : ∀ x, x ∈ t → x < 2 * (rs.length : Int) := fun x hx => g.less p x ⟨t, hp, hx⟩
  have tm := List.mem_of_getElem? hp
  have L : ((ts ++ [[2 * (rs.length : Int) + 1]]).set p (insL t a (2 * (rs.length : Int)))).length = ts.length + 1 := by rw [List.length_set, List.length_append]; rfl
  have two := g.two
  refine ⟨by omega, by rw [L, len_snoc]; have := g.few; omega, ?_, ?_, ?_, ?_, ?_, ?_, ?_, ?_⟩
  · intro r hr
    rw [L]
    rcases List.mem_append.mp hr with z | z
    · obtain ⟨h1, h2, h3⟩ := g.ends r z
      exact ⟨by omega, by omega, h3⟩
    · rw [List.mem_singleton.mp z]; exact ⟨show p < ts.length + 1 by omega, show ts.length < ts.length + 1 by omega, he⟩
  · intro r hr
    rcases List.mem_append.mp hr with z | z
    · exact g.pos r z
    · rw [List.mem_singleton.mp z]; exact h0
  · rw [L]
    intro S s0 hs x hx
    have old : ∀ y, y < ts.length → S y := g.hang S s0 (fun r hr => hs r (List.mem_append.mpr (.inl hr)))
    rcases Nat.lt_or_ge x ts.length with z | z
    · exact old x z
    · obtain rfl : x = ts.length := by omega
      exact (hs (p, ts.length, e) (List.mem_append.mpr (.inr (List.mem_singleton.mpr rfl)))).mp (old p lp)
  · intro k r hk x
    rw [inT_ins hp', inT_app]
    rcases snoc_at hk with z | ⟨z1, z2⟩
    · have lk : k < rs.length := (List.getElem?_eq_some_iff.mp z).1
      rw [g.odd k r z x]
      constructor
      · rintro ((h | ⟨_, h⟩) | ⟨_, h⟩)
        · exact h
        · rw [List.mem_singleton] at h; omega
        · omega
      · intro h; exact .inl (.inl h)
    · subst z1 z2
      constructor
      · rintro ((h | ⟨h, _⟩) | ⟨_, h⟩)
        · have := g.less _ _ h; omega
        · exact h
        · omega
      · intro h; exact .inl (.inr ⟨h, List.mem_singleton.mpr rfl⟩)
  · intro r x h
    rw [len_snoc]
    rcases (inT_ins hp').mp h with z | z
    · rcases inT_app.mp z with z | z
      · have := g.less _ _ z; omega
      · have := List.mem_singleton.mp z.2; omega
    · omega
  · exact set_all (app_all g.nd (by simp)) (insL_nd (g.nd t tm) fun z => by have := tn _ z; omega)
  · exact set_all (app_all g.ne (by simp)) (fun z => by have := congrArg List.length z; rw [insL_len] at this; simp at this)
  · rw [len_snoc]
    exact set_all (app_all (fun v hv => by have := g.lens v hv; omega) (by simp; omega)) (by rw [insL_len]; have := g.lens t tm; omega)
/-- a rope parted by a new place -/
theorem Gi.part {ts : List (List Int)} {rs : List Rope} (g : Gi ts rs) {k a : Nat} {r : Rope} {t : List Int} {e : Rat} (hk : rs[k]? = some r) (hp : ts[r.2.1]? = some t) (ha : t[a]? = some (2 * (k : Int) + 1)) (he : Sb 30 17 e) (h0 : 0 < e) :
    Gi (ts.set r.2.1 (t.set a (2 * (rs.length : Int) + 1)) ++ [[2 * (k : Int) + 1, 2 * (rs.length : Int)]]) (rs.set k (r.1, ts.length, r.2.2) ++ [(ts.length, r.2.1, e)]) := by
  have lk : k < rs.length := (List.getElem?_eq_some_iff.mp hk).1
  have lp : r.2.1 < ts.length := (List.getElem?_eq_some_iff.mp hp).1
  have rm := List.mem_of_getElem? hk
  have tm := List.mem_of_getElem? hp
  have tn : ∀ x, x ∈ t → x < 2 * (rs.length : Int) := fun x hx => g.less _ x ⟨t, hp, hx⟩
  have L : (ts.set r.2.1 (t.set a (2 * (rs.length : Int) + 1)) ++ [[2 * (k : Int) + 1, 2 * (rs.length : Int)]]).length = ts.length + 1 := by rw [List.length_append, List.length_set]; rfl
  have Lr : (rs.set k (r.1, ts.length, r.2.2) ++ [(ts.length, r.2.1, e)]).length = rs.length + 1 := by rw [len_snoc, List.length_set]
  have two := g.two
  have ne : ts.length ≠ r.2.1 := by omega
  refine ⟨by omega, by rw [L, Lr]; have := g.few; omega, ?_, ?_, ?_, ?_, ?_, ?_, ?_, ?_⟩
  · intro x hx
    rw [L]
    rcases List.mem_append.mp hx with z | z
    · rcases List.mem_or_eq_of_mem_set z with w | w
      · obtain ⟨h1, h2, h3⟩ := g.ends x w
        exact ⟨by omega, by omega, h3⟩
      · obtain ⟨h1, h2, h3⟩ := g.ends r rm
        rw [w]; exact ⟨show r.1 < ts.length + 1 by omega, show ts.length < ts.length + 1 by omega, h3⟩
    · rw [List.mem_singleton.mp z]; exact ⟨show ts.length < ts.length + 1 by omega, show r.2.1 < ts.length + 1 by omega, he⟩
  · intro x hx
    rcases List.mem_append.mp hx with z | z
    · rcases List.mem_or_eq_of_mem_set z with w | w
      · exact g.pos x w
      · rw [w]; exact g.pos r rm
    · rw [List.mem_singleton.mp z]; exact h0
  · rw [L]
    intro S s0 hs x hx
    have n1 : S r.1 ↔ S ts.length := hs (r.1, ts.length, r.2.2) (List.mem_append.mpr (.inl (List.mem_of_getElem? (List.getElem?_set_self lk))))
    have n2 : S ts.length ↔ S r.2.1 := hs (ts.length, r.2.1, e) (List.mem_append.mpr (.inr (List.mem_singleton.mpr rfl)))
    have old : ∀ y, y < ts.length → S y := g.hang S s0 (fun q hq => by
      obtain ⟨j, hj, ej⟩ := List.getElem_of_mem hq
      by_cases z : k = j
      · subst z
        have : q = r := by rw [List.getElem?_eq_getElem hj, ej] at hk; exact Option.some.inj hk
        rw [this]; exact n1.trans n2
      · exact hs q (List.mem_append.mpr (.inl (List.mem_of_getElem? (i := j) (by rw [List.getElem?_set_ne z, List.getElem?_eq_getElem hj, ej])))))
    rcases Nat.lt_or_ge x ts.length with z | z
    · exact old x z
    · obtain rfl : x = ts.length := by omega
      exact n2.mpr (old _ lp)
  · intro j q hj x
    rw [inT_app, inT_set hp (g.nd t tm) ha, List.length_set]
    rcases snoc_at hj with z | ⟨z1, z2⟩
    · have lj : j < rs.length := by have := (List.getElem?_eq_some_iff.mp z).1; rwa [List.length_set] at this
      by_cases w : k = j
      · subst w
        rw [List.getElem?_set_self lk] at z
        cases z
        constructor
        · rintro ((⟨h1, h2⟩ | ⟨_, h⟩) | ⟨h, _⟩)
          · exact absurd ⟨(g.odd k r hk x).mp h1, rfl⟩ h2
          · omega
          · exact h
        · intro h; exact .inr ⟨h, List.mem_cons.mpr (.inl rfl)⟩
      · rw [List.getElem?_set_ne w] at z
        rw [g.odd j q z x]
        constructor
        · rintro ((⟨h1, _⟩ | ⟨_, h⟩) | ⟨_, h⟩)
          · exact h1
          · omega
          · simp only [List.mem_cons, List.not_mem_nil, or_false] at h; omega
        · intro h; exact .inl (.inl ⟨h, fun y => by omega⟩)
    · rw [List.length_set] at z1
      subst z1 z2
      constructor
      · rintro ((⟨h1, _⟩ | ⟨h, _⟩) | ⟨_, h⟩)
        · have := g.less _ _ h1; omega
        · exact h
        · simp only [List.mem_cons, List.not_mem_nil, or_false] at h; omega
      · intro h; exact .inl (.inr ⟨h, rfl⟩)
  · intro p x h
    rw [Lr]
    rcases inT_app.mp h with z | z
    · rcases (inT_set hp (g.nd t tm) ha).mp z with w | w
      · have := g.less _ _ w.1; omega
      · omega
    · have := z.2
      simp only [List.mem_cons, List.not_mem_nil, or_false] at this; omega
  · refine app_all (set_all g.nd (set_nd (g.nd t tm) fun z => by have := tn _ z; omega)) ?_
    simp; omega
  · refine app_all (set_all g.ne (fun z => ?_)) (by simp)
    have := congrArg List.length z
    rw [List.length_set] at this
    exact g.ne t tm (List.length_eq_zero_iff.mp this)
  · rw [Lr]
    refine app_all (set_all (fun v hv => by have := g.lens v hv; omega) (by rw [List.length_set]; have := g.lens t tm; omega)) (by simp; omega)
theorem Gi.first {e : Rat} (he : Sb 30 17 e) (h0 : 0 < e) : Gi [[0, -2], [1, -1]] [(0, 1, e)] := by
  have cases2 : ∀ p (x : Int), inT [[0, -2], [1, -1]] p x ↔ (p = 0 ∧ (x = 0 ∨ x = -2)) ∨ (p = 1 ∧ (x = 1 ∨ x = -1)) := by
    intro p x
    unfold inT
    match p with
    | 0 => simp
    | 1 => simp
    | p+2 => simp
  refine ⟨by simp, by simp, ?_, ?_, ?_, ?_, ?_, by simp, by simp, by simp⟩
  · intro r hr
    rw [List.mem_singleton.mp hr]
    exact ⟨by simp, by simp, he⟩
  · intro r hr
    rw [List.mem_singleton.mp hr]; exact h0
  · intro S s0 hs p hp
    have := (hs (0, 1, e) (by simp)).mp s0
    match p, hp with
    | 0, _ => exact s0
    | 1, _ => exact this
    | p+2, hp => simp at hp; omega
  · intro k r hk p
    have : k = 0 := by have := (List.getElem?_eq_some_iff.mp hk).1; simpa using this
    subst this
    simp only [List.getElem?_cons_zero] at hk
    cases hk
    rw [cases2]
    simp
  · intro p x h
    rw [cases2] at h
    simp
    omega
end Wd
/-! rings of ends: orbits of a one-to-one map of 0 .. n - 1, and the row of all of them -/
namespace Mth
theorem len_le : ∀ (n : Nat) (l : List Int), l.Nodup → (∀ x ∈ l, 0 ≤ x ∧ x < n) → l.length ≤ n
  | 0, l, _, h => by
    cases l with
    | nil => exact Nat.le_refl _
    | cons a r =>
      have := h a (List.mem_cons_self ..)
      omega
  | n + 1, l, hn, h => by
    by_cases hm : (n : Int) ∈ l
    · have h1 := len_le n (l.erase (n : Int)) (hn.erase _) (fun x hx => by
        have hx1 := List.mem_of_mem_erase hx
        have hx2 : x ≠ (n : Int) := fun z => by
          rw [z] at hx
          exact (List.Nodup.not_mem_erase hn) hx
        have := h x hx1
        omega)
      have h2 := List.length_erase_of_mem hm
      have : 0 < l.length := List.length_pos_of_mem hm
      omega
    · have h1 := len_le n l hn (fun x hx => by
        have hx2 : x ≠ (n : Int) := fun z => hm (z ▸ hx)
        have := h x hx
        omega)
      omega

theorem sub_len : ∀ (l l' : List Int), l.Nodup → (∀ x ∈ l, x ∈ l') → l.length ≤ l'.length
  | [], _, _, _ => Nat.zero_le _
  | a :: r, l', hn, h => by
    have h1 := List.nodup_cons.mp hn
    have h2 := sub_len r (l'.erase a) h1.2 fun x hx => (List.mem_erase_of_ne (fun z : x = a => h1.1 (z ▸ hx))).mpr (h x (List.mem_cons_of_mem _ hx))
    have hm := h a (List.mem_cons_self ..)
    have h3 := List.length_erase_of_mem hm
    have := List.length_pos_of_mem hm
    rw [List.length_cons]
    omega
abbrev InR (n : Nat) (e : Int) : Prop := 0 ≤ e ∧ e < n
def itn (φ : Int → Int) : Nat → Int → Int
  | 0, s => s
  | k + 1, s => φ (itn φ k s)
/-- one-to-one on 0 .. n - 1 -/
structure Perm1 (φ : Int → Int) (n : Nat) : Prop where
  into : ∀ e, InR n e → InR n (φ e)
  inj : ∀ a b, InR n a → InR n b → φ a = φ b → a = b
section
variable {φ : Int → Int} {n : Nat} (P : Perm1 φ n)
include P
/-- comes back first behind m steps -/
def Per (φ : Int → Int) (s : Int) (m : Nat) : Prop := 1 ≤ m ∧ itn φ m s = s ∧ ∀ k, 1 ≤ k → k < m → itn φ k s ≠ s
omit P in
def ringL (φ : Int → Int) (s : Int) (m : Nat) : List Int := (List.range m).map fun k => itn φ k s
omit P in
open Classical in
noncomputable def per (φ : Int → Int) (s : Int) : Nat := if h : ∃ m, Per φ s m then h.choose else 1
noncomputable def ring (φ : Int → Int) (s : Int) : List Int := ringL φ s (per φ s)
open Classical in
/-- the rings of the ends below i -/
noncomputable def landsF (φ : Int → Int) : Nat → List (List Int)
  | 0 => []
  | i + 1 => if (i : Int) ∈ (landsF φ i).flatten then landsF φ i else landsF φ i ++ [ring φ i]
omit P in
/-- what holds of the rings of the ends below i -/
structure Lands (φ : Int → Int) (n i : Nat) (R : List (List Int)) : Prop where
  of : ∀ r ∈ R, ∃ s, InR n s ∧ s < i ∧ r = ring φ s ∧ ∀ x ∈ r, s ≤ x
  nd : R.flatten.Nodup
  all : ∀ e, 0 ≤ e → e < (i : Int) → e ∈ R.flatten
  rise : R.Pairwise fun r r' => ∀ s s', r = ring φ s → InR n s → r' = ring φ s' → InR n s' → (∀ x ∈ r, s ≤ x) → (∀ x ∈ r', s' ≤ x) → s < s'
end
end Mth
/-! turns, the ends ahead in them, and the numbers of the rings, as lists of pairs -/
namespace Mth
def prevAt (row : List Int) (k : Nat) : Int := row.getD (if k = 0 then row.length - 1 else k - 1) 0
def rowP (row : List Int) : List (Int × Int) := (List.range row.length).map fun k => (row.getD k 0, prevAt row k)
def aheadL (ts : List (List Int)) : List (Int × Int) := (ts.map rowP).flatten
theorem range_getD (row : List Int) : (List.range row.length).map (fun k => row.getD k 0) = row := by
  refine List.ext_getElem (by simp) fun i h1 h2 => ?_
  simp [List.getD, h2]
theorem rowP_fst (row : List Int) : (rowP row).map (·.1) = row := by
  unfold rowP
  rw [List.map_map]
  exact range_getD row
theorem rowP_snoc (r : List Int) (l : Int) : (rowP (r ++ [l])).map (·.2) = l :: r := by
  unfold rowP
  rw [List.map_map]
  have hl : (r ++ [l]).length = r.length + 1 := by simp
  rw [hl, List.range_succ_eq_map, List.map_cons, List.map_map]
  congr 1
  · show prevAt (r ++ [l]) 0 = l
    unfold prevAt
    rw [if_pos rfl, hl]
    simp [List.getD]
  · refine List.ext_getElem (by simp) fun i h1 h2 => ?_
    simp [prevAt, List.getD, List.getElem?_append_left h2, h2]
theorem rowP_snd (row : List Int) : ((rowP row).map (·.2)).Perm row := by
  rcases List.eq_nil_or_concat row with h | ⟨r, l, h⟩
  · subst h
    exact .nil
  · rw [List.concat_eq_append] at h
    subst h
    rw [rowP_snoc]
    exact (List.perm_append_singleton l r).symm
theorem aheadL_fst : ∀ ts : List (List Int), (aheadL ts).map (·.1) = ts.flatten
  | [] => rfl
  | r :: ts => by
    have ih := aheadL_fst ts
    unfold aheadL at *
    rw [List.map_cons, List.flatten_cons, List.map_append, rowP_fst, ih, List.flatten_cons]
theorem aheadL_snd : ∀ ts : List (List Int), ((aheadL ts).map (·.2)).Perm ts.flatten
  | [] => .nil
  | r :: ts => by
    have ih := aheadL_snd ts
    unfold aheadL at *
    rw [List.map_cons, List.flatten_cons, List.map_append, List.flatten_cons]
    exact (rowP_snd r).append ih
def lk (L : List (Int × Int)) (e : Int) : Option Int := (L.find? fun p => decide (p.1 = e)).map (·.2)
theorem lk_mem {L : List (Int × Int)} {e v : Int} (h : lk L e = some v) : (e, v) ∈ L := by
  unfold lk at h
  cases q : L.find? fun p => decide (p.1 = e) with
  | none => rw [q] at h; cases h
  | some p =>
    rw [q] at h
    have h1 := List.mem_of_find?_eq_some q
    have h2 := List.find?_some q
    have h3 : p.1 = e := of_decide_eq_true h2
    have h4 : p.2 = v := Option.some.inj h
    rw [← h3, ← h4]
    exact h1
theorem lk_some {L : List (Int × Int)} {e : Int} (h : e ∈ L.map (·.1)) : ∃ v, lk L e = some v := by
  obtain ⟨p, hp, e1⟩ := List.mem_map.mp h
  unfold lk
  cases q : L.find? fun p => decide (p.1 = e) with
  | none =>
    have := List.find?_eq_none.mp q p hp
    exact absurd (decide_eq_true e1) this
  | some p => exact ⟨p.2, rfl⟩
/-- turns in which the ends 0 to n - 1 stand, each once -/
structure Turns (n : Nat) (ts : List (List Int)) : Prop where
  nd : ts.flatten.Nodup
  mem : ∀ e, e ∈ ts.flatten ↔ InR n e
  even : n % 2 = 0
def oth (e : Int) : Int := if e % 2 = 0 then e + 1 else e - 1
/-- the next end -/
def nxt (ts : List (List Int)) (e : Int) : Int := (lk (aheadL ts) (oth e)).getD 0
section
variable {n : Nat} {ts : List (List Int)} (T : Turns n ts)
include T
theorem Turns.len : ts.flatten.length = n := by
  have h1 := len_le n _ T.nd fun x hx => (T.mem x).mp hx
  have h2 : ((List.range n).map (fun k : Nat => (k : Int))).length ≤ ts.flatten.length := by
    have nd : ((List.range n).map (fun k : Nat => (k : Int))).Nodup := by
      unfold List.Nodup
      rw [List.pairwise_map]
      exact List.Pairwise.imp (fun {a b} h => by omega) (List.pairwise_lt_range (n := n))
    refine sub_len _ _ nd fun x hx => ?_
    obtain ⟨k, hk, e⟩ := List.mem_map.mp hx
    have := List.mem_range.mp hk
    exact (T.mem x).mpr ⟨by omega, by omega⟩
  rw [List.length_map, List.length_range] at h2
  omega
theorem Turns.keys : ((aheadL ts).map (·.1)).Nodup := by rw [aheadL_fst]; exact T.nd
theorem Turns.look {e : Int} (he : InR n e) : ∃ v, lk (aheadL ts) e = some v ∧ InR n v := by
  obtain ⟨v, hv⟩ := lk_some (L := aheadL ts) (e := e) (by rw [aheadL_fst]; exact (T.mem e).mpr he)
  refine ⟨v, hv, (T.mem v).mp ?_⟩
  exact (aheadL_snd ts).mem_iff.mp (List.mem_map.mpr ⟨_, lk_mem hv, rfl⟩)
end
/-- the numbers of the rings -/
def numP : Nat → List (List Int) → List (Int × Int)
  | _, [] => []
  | i, r :: R => r.map (fun e => (e, (i : Int))) ++ numP (i + 1) R
theorem take_snoc {α : Type} {R : List α} {j : Nat} {r : α} (h : R[j]? = some r) : R.take (j + 1) = R.take j ++ [r] := by
  rw [List.take_add_one, h]
  rfl
section
variable {φ : Int → Int} {n : Nat} (P : Perm1 φ n)
include P
end
end Mth
/-! Ropes chosen of a net: marks of places, what they reach; rising rows -/
namespace Wd
open Mth
/-- one rope joins the marks of its ends -/
def joinM (ms : List Nat) (r : Rope) : List Nat := ms.map fun x => if x = ms.getD r.2.1 0 then ms.getD r.1 0 else x
def marksF : List Nat → List Rope → Option (List Nat)
  | ms, [] => some ms
  | ms, r :: cs => if ms.getD r.1 0 = ms.getD r.2.1 0 then none else marksF (joinM ms r) cs
def marksT (ms : List Nat) (cs : List Rope) : List Nat := cs.foldl joinM ms
def cntM (n : Nat) (p : Nat → Bool) : Nat := (List.range n).countP p
theorem cnt_succ (n : Nat) (p : Nat → Bool) : cntM (n+1) p = cntM n p + if p n then 1 else 0 := by
  unfold cntM
  rw [List.range_succ, List.countP_append, List.countP_singleton]
theorem cnt_congr {n : Nat} {p q : Nat → Bool} (h : ∀ x, x < n → p x = q x) : cntM n p = cntM n q := by
  induction n with
  | zero => rfl
  | succ n ih => rw [cnt_succ, cnt_succ, ih (fun x hx => h x (by omega)), h n (by omega)]
theorem cnt_rem {n b : Nat} {p : Nat → Bool} (hb : b < n) (h : p b = true) : cntM n (fun x => p x && x != b) + 1 = cntM n p := by
  induction n with
  | zero => omega
  | succ n ih =>
    rw [cnt_succ, cnt_succ]
    by_cases e : b = n
    · subst e
      rw [cnt_congr (q := p) (fun x hx => by have : (x != b) = true := by simp; omega
                                             rw [this, Bool.and_true])]
      simp [h]
    · have := ih (by omega)
      have ne : (n != b) = true := by simp; omega
      rw [ne, Bool.and_true]
      omega
theorem cnt_zero {n : Nat} {p : Nat → Bool} : cntM n p = 0 ↔ ∀ x, x < n → p x = false := by
  unfold cntM
  rw [List.countP_eq_zero]
  simp
theorem cnt_all {n : Nat} {p : Nat → Bool} : cntM n p = n ↔ ∀ x, x < n → p x = true := by
  unfold cntM
  have := List.countP_eq_length (p := p) (l := List.range n)
  rw [List.length_range] at this
  rw [this]
  simp
theorem cnt_or {n : Nat} {p q : Nat → Bool} (h : ∀ x, x < n → ¬ (p x = true ∧ q x = true)) : cntM n p + cntM n q = cntM n (fun x => p x || q x) := by
  induction n with
  | zero => rfl
  | succ n ih =>
    rw [cnt_succ, cnt_succ, cnt_succ]
    have := ih (fun x hx => h x (by omega))
    have hn := h n (by omega)
    cases hp : p n <;> cases hq : q n <;> simp_all <;> omega
/-- how many different marks there are -/
def kinds (n : Nat) (ms : List Nat) : Nat := cntM n fun x => decide (x ∈ ms)
theorem kinds_first (n : Nat) : kinds n (List.range n) = n := cnt_all.mpr fun x hx => by simp [hx]
structure MarkK (n : Nat) (ms : List Nat) : Prop where
  len : ms.length = n
  lt : ∀ x ∈ ms, x < n
theorem getD_mem {ms : List Nat} {i : Nat} (h : i < ms.length) : ms.getD i 0 ∈ ms := by
  rw [List.getD_eq_getElem?_getD, List.getElem?_eq_getElem h]; exact List.getElem_mem h
theorem join_at {ms : List Nat} {r : Rope} {u : Nat} (h : u < ms.length) : (joinM ms r).getD u 0 = if ms.getD u 0 = ms.getD r.2.1 0 then ms.getD r.1 0 else ms.getD u 0 := by
  unfold joinM
  simp only [List.getD_eq_getElem?_getD, List.getElem?_map, List.getElem?_eq_getElem h, Option.map_some, Option.getD_some]
theorem MarkK.join {n : Nat} {ms : List Nat} {r : Rope} (k : MarkK n ms) (h1 : r.1 < n) : MarkK n (joinM ms r) := by
  refine ⟨by unfold joinM; rw [List.length_map]; exact k.len, fun x hx => ?_⟩
  obtain ⟨y, hy, e⟩ := List.mem_map.mp hx
  subst e
  split
  · exact k.lt _ (getD_mem (by rw [k.len]; exact h1))
  · exact k.lt _ hy
theorem kinds_join {n : Nat} {ms : List Nat} {r : Rope} (k : MarkK n ms) (h1 : r.1 < n) (h2 : r.2.1 < n) (ne : ms.getD r.1 0 ≠ ms.getD r.2.1 0) : kinds n (joinM ms r) + 1 = kinds n ms := by
  have m1 := getD_mem (i := r.1) (by rw [k.len]; exact h1)
  have m2 := getD_mem (i := r.2.1) (by rw [k.len]; exact h2)
  have := cnt_rem (p := fun x => decide (x ∈ ms)) (k.lt _ m2) (by simpa using m2)
  unfold kinds
  rw [← this]
  congr 1
  refine cnt_congr fun x _ => ?_
  rw [Bool.eq_iff_iff, Bool.and_eq_true, decide_eq_true_iff, decide_eq_true_iff, bne_iff_ne]
  unfold joinM
  rw [List.mem_map]
  constructor
  · rintro ⟨y, hy, e⟩
    by_cases z : y = ms.getD r.2.1 0
    · rw [if_pos z] at e; subst e; exact ⟨m1, ne⟩
    · rw [if_neg z] at e; subst e; exact ⟨hy, z⟩
  · rintro ⟨hx, hn⟩
    exact ⟨x, hx, by rw [if_neg hn]⟩
theorem join_same {ms : List Nat} {r : Rope} (e : ms.getD r.1 0 = ms.getD r.2.1 0) : joinM ms r = ms := by
  unfold joinM
  rw [e]
  conv => rhs; rw [← List.map_id ms]
  refine List.map_congr_left fun x _ => ?_
  split
  · rename_i z; exact z.symm
  · rfl
theorem kinds_le {n : Nat} : ∀ {cs : List Rope} {ms : List Nat}, MarkK n ms → (∀ r ∈ cs, r.1 < n ∧ r.2.1 < n) → kinds n ms ≤ kinds n (marksT ms cs) + cs.length
  | [], ms, _, _ => by show kinds n ms ≤ kinds n ms + 0; omega
  | r :: cs, ms, k, h => by
    have hr := h r (by simp)
    have ih := kinds_le (cs := cs) (k.join (r := r) hr.1) (fun r hr => h r (by simp [hr]))
    show kinds n ms ≤ kinds n (marksT (joinM ms r) cs) + (cs.length + 1)
    by_cases e : ms.getD r.1 0 = ms.getD r.2.1 0
    · rw [join_same e] at ih ⊢; omega
    · have := kinds_join k hr.1 hr.2 e; omega
theorem marks_some {n : Nat} : ∀ {cs : List Rope} {ms out : List Nat}, MarkK n ms → (∀ r ∈ cs, r.1 < n ∧ r.2.1 < n) → marksF ms cs = some out → out = marksT ms cs ∧ kinds n out + cs.length = kinds n ms
  | [], ms, out, _, _, e => by
    obtain rfl : ms = out := Option.some.inj e
    exact ⟨rfl, rfl⟩
  | r :: cs, ms, out, k, h, e => by
    have hr := h r (by simp)
    unfold marksF at e
    by_cases z : ms.getD r.1 0 = ms.getD r.2.1 0
    · rw [if_pos z] at e; cases e
    · rw [if_neg z] at e
      have ih := marks_some (k.join (r := r) hr.1) (fun r hr => h r (by simp [hr])) e
      have := kinds_join k hr.1 hr.2 z
      refine ⟨ih.1, ?_⟩
      have := ih.2
      rw [List.length_cons]; omega
theorem marks_none {n : Nat} : ∀ {cs : List Rope} {ms : List Nat}, MarkK n ms → (∀ r ∈ cs, r.1 < n ∧ r.2.1 < n) → marksF ms cs = none → kinds n ms < kinds n (marksT ms cs) + cs.length
  | [], ms, _, _, e => by cases e
  | r :: cs, ms, k, h, e => by
    have hr := h r (by simp)
    show kinds n ms < kinds n (marksT (joinM ms r) cs) + (cs.length + 1)
    unfold marksF at e
    by_cases z : ms.getD r.1 0 = ms.getD r.2.1 0
    · have := kinds_le (cs := cs) (k.join (r := r) hr.1) (fun r hr => h r (by simp [hr]))
      rw [join_same z] at this ⊢
      omega
    · rw [if_neg z] at e
      have ih := marks_none (k.join (r := r) hr.1) (fun r hr => h r (by simp [hr])) e
      have := kinds_join k hr.1 hr.2 z
      omega
theorem markT_k {n : Nat} : ∀ {cs : List Rope} {ms : List Nat}, MarkK n ms → (∀ r ∈ cs, r.1 < n ∧ r.2.1 < n) → MarkK n (marksT ms cs)
  | [], _, k, _ => k
  | r :: cs, _, k, h => markT_k (cs := cs) (k.join (r := r) (h r (by simp)).1) (fun r hr => h r (by simp [hr]))
/-- like marks stay alike -/
theorem markT_keep {n : Nat} : ∀ {cs : List Rope} {ms : List Nat} {u v : Nat}, MarkK n ms → (∀ r ∈ cs, r.1 < n ∧ r.2.1 < n) → u < n → v < n → ms.getD u 0 = ms.getD v 0 → (marksT ms cs).getD u 0 = (marksT ms cs).getD v 0
  | [], _, _, _, _, _, _, _, e => e
  | r :: cs, ms, u, v, k, h, hu, hv, e => by
    refine markT_keep (cs := cs) (k.join (r := r) (h r (by simp)).1) (fun r hr => h r (by simp [hr])) hu hv ?_
    rw [join_at (by rw [k.len]; exact hu), join_at (by rw [k.len]; exact hv), e]
/-- the ends of a chosen rope have like marks -/
theorem markT_closed {n : Nat} : ∀ {cs : List Rope} {ms : List Nat}, MarkK n ms → (∀ r ∈ cs, r.1 < n ∧ r.2.1 < n) → ∀ r ∈ cs, (marksT ms cs).getD r.1 0 = (marksT ms cs).getD r.2.1 0
  | r :: cs, ms, k, h, x, hx => by
    have hr := h r (by simp)
    have k' := k.join (r := r) hr.1
    rcases List.mem_cons.mp hx with rfl | hx
    · refine markT_keep (cs := cs) k' (fun r hr => h r (by simp [hr])) hr.1 hr.2 ?_
      rw [join_at (by rw [k.len]; exact hr.1), join_at (by rw [k.len]; exact hr.2), if_pos rfl]
      split
      · rfl
      · rfl
    · exact markT_closed (cs := cs) k' (fun r hr => h r (by simp [hr])) x hx
/-- like marks: what is closed under the ropes has both or none -/
theorem markT_only {n : Nat} {S : Nat → Prop} : ∀ {cs : List Rope} {ms : List Nat}, MarkK n ms → (∀ r ∈ cs, r.1 < n ∧ r.2.1 < n) → (∀ r ∈ cs, S r.1 ↔ S r.2.1) → (∀ u v, u < n → v < n → ms.getD u 0 = ms.getD v 0 → (S u ↔ S v)) →
    ∀ u v, u < n → v < n → (marksT ms cs).getD u 0 = (marksT ms cs).getD v 0 → (S u ↔ S v)
  | [], _, _, _, _, h => h
  | r :: cs, ms, k, hb, hc, h => by
    have hr := hb r (by simp)
    refine markT_only (cs := cs) (k.join (r := r) hr.1) (fun r hr => hb r (by simp [hr])) (fun r hr => hc r (by simp [hr])) fun u v hu hv e => ?_
    rw [join_at (by rw [k.len]; exact hu), join_at (by rw [k.len]; exact hv)] at e
    have hab := hc r (by simp)
    split at e
    · rename_i z1
      split at e
      · rename_i z2
        exact h u v hu hv (z1.trans z2.symm)
      · exact (h u _ hu hr.2 z1).trans (hab.symm.trans (h _ v hr.1 hv e))
    · split at e
      · rename_i z2
        exact ((h u _ hu hr.1 e).trans hab).trans (h _ v hr.2 hv z2.symm)
      · exact h u v hu hv e
theorem mark0 (n : Nat) : MarkK n (List.range n) := ⟨List.length_range, fun x hx => List.mem_range.mp hx⟩
theorem range_getD {n u : Nat} (h : u < n) : (List.range n).getD u 0 = u := by
  rw [List.getD_eq_getElem?_getD, List.getElem?_range h]; rfl
/-- what is reached from s -/
structure Reach (n s : Nat) (cs : List Rope) (l : List Int) : Prop where
  nd : l.Nodup
  inn : ∀ x ∈ l, 0 ≤ x ∧ x < (n : Int)
  st : (s : Int) ∈ l
  least : ∀ S : Int → Prop, S (s : Int) → (∀ r ∈ cs, (S (r.1 : Int) ↔ S (r.2.1 : Int))) → ∀ x ∈ l, S x
  closed : ∀ r ∈ cs, ((r.1 : Int) ∈ l ↔ (r.2.1 : Int) ∈ l)
theorem Reach.mem {n s : Nat} {cs : List Rope} {l : List Int} (k : Reach n s cs l) (hs : s < n) (hb : ∀ r ∈ cs, r.1 < n ∧ r.2.1 < n) {u : Nat} (hu : u < n) : (u : Int) ∈ l ↔ (marksT (List.range n) cs).getD u 0 = (marksT (List.range n) cs).getD s 0 := by
  constructor
  · intro h
    refine k.least (fun x => (marksT (List.range n) cs).getD x.toNat 0 = (marksT (List.range n) cs).getD s 0) rfl (fun r hr => ?_) _ h
    rw [show ((r.1 : Nat) : Int).toNat = r.1 from rfl, show ((r.2.1 : Nat) : Int).toNat = r.2.1 from rfl, markT_closed (mark0 n) hb r hr]
  · intro h
    refine (markT_only (S := fun x => ((x : Nat) : Int) ∈ l) (mark0 n) hb k.closed (fun u v hu hv e => ?_) u s hu hs h).mpr k.st
    rw [range_getD hu, range_getD hv] at e
    rw [e]
theorem len_cnt {n : Nat} : ∀ {l : List Int}, l.Nodup → (∀ x ∈ l, 0 ≤ x ∧ x < (n : Int)) → l.length = cntM n fun u => decide ((u : Int) ∈ l)
  | [], _, _ => by rw [cnt_zero.mpr (by simp)]; rfl
  | x :: l, nd, h => by
    obtain ⟨n1, n2⟩ := List.nodup_cons.mp nd
    obtain ⟨x0, x1⟩ := h x (by simp)
    have ih := len_cnt n2 (fun y hy => h y (by simp [hy]))
    have := cnt_rem (n := n) (b := x.toNat) (p := fun u => decide ((u : Int) ∈ x :: l)) (by omega) (by rw [decide_eq_true_iff]; rw [show ((x.toNat : Nat) : Int) = x by omega]; simp)
    rw [← this, List.length_cons, ih]
    congr 1
    refine cnt_congr fun u _ => ?_
    rw [Bool.eq_iff_iff, Bool.and_eq_true, decide_eq_true_iff, decide_eq_true_iff, bne_iff_ne, List.mem_cons]
    constructor
    · intro hu
      exact ⟨.inr hu, fun z => n1 (by rw [z] at hu; rwa [show ((x.toNat : Nat) : Int) = x by omega] at hu)⟩
    · rintro ⟨hu | hu, hn⟩
      · exact absurd (by omega) hn
      · exact hu
/-- places less one ropes: a tree -/
theorem tree_iff {n : Nat} {cs : List Rope} {l : List Int} (hn : cs.length + 1 = n) (hb : ∀ r ∈ cs, r.1 < n ∧ r.2.1 < n) (k : Reach n 0 cs l) : l.length = n ↔ marksF (List.range n) cs ≠ none := by
  have n0 : 0 < n := by omega
  have kt := markT_k (mark0 n) hb
  have m0 := getD_mem (ms := marksT (List.range n) cs) (i := 0) (by rw [kt.len]; exact n0)
  have e1 : l.length = n ↔ ∀ u, u < n → (marksT (List.range n) cs).getD u 0 = (marksT (List.range n) cs).getD 0 0 := by
    rw [len_cnt k.nd k.inn, cnt_all]
    constructor
    · intro h u hu; exact (k.mem n0 hb hu).mp (by simpa using h u hu)
    · intro h u hu; simpa using (k.mem n0 hb hu).mpr (h u hu)
  have e2 : kinds n (marksT (List.range n) cs) = 1 ↔ ∀ u, u < n → (marksT (List.range n) cs).getD u 0 = (marksT (List.range n) cs).getD 0 0 := by
    have := cnt_rem (n := n) (p := fun x => decide (x ∈ marksT (List.range n) cs)) (kt.lt _ m0) (by simpa using m0)
    unfold kinds
    rw [← this]
    constructor
    · intro h u hu
      have z := cnt_zero.mp (Nat.succ.inj h) _ (kt.lt _ (getD_mem (i := u) (by rw [kt.len]; exact hu)))
      rw [Bool.and_eq_false_iff] at z
      rcases z with z | z
      · rw [decide_eq_false_iff_not] at z
        exact absurd (getD_mem (by rw [kt.len]; exact hu)) z
      · simpa using z
    · intro h
      have : cntM n (fun x => decide (x ∈ marksT (List.range n) cs) && x != (marksT (List.range n) cs).getD 0 0) = 0 := cnt_zero.mpr fun x _ => by
        rw [Bool.and_eq_false_iff]
        by_cases hx : x ∈ marksT (List.range n) cs
        · obtain ⟨i, hi, e⟩ := List.getElem_of_mem hx
          have := h i (by rw [← kt.len]; exact hi)
          rw [List.getD_eq_getElem?_getD, List.getElem?_eq_getElem hi, Option.getD_some, e] at this
          exact .inr (by simpa using this)
        · exact .inl (by simpa using hx)
      omega
  rw [e1, ← e2]
  have f := kinds_first n
  cases h : marksF (List.range n) cs with
  | none =>
    have := marks_none (mark0 n) hb h
    constructor
    · intro z; omega
    · intro z; exact absurd rfl z
  | some out =>
    obtain ⟨rfl, z⟩ := marks_some (mark0 n) hb h
    constructor
    · intro _ w; cases w
    · intro _; omega
/-- places less two ropes: a half -/
theorem half_iff {n : Nat} {cs : List Rope} {l0 l1 : List Int} (hn : cs.length + 2 = n) (hb : ∀ r ∈ cs, r.1 < n ∧ r.2.1 < n) (k0 : Reach n 0 cs l0) (k1 : Reach n 1 cs l1) :
    ((1 : Int) ∉ l0 ∧ l0.length + l1.length = n) ↔ ∃ ms, marksF (List.range n) cs = some ms ∧ ms.getD 0 0 ≠ ms.getD 1 0 := by
  have n0 : 0 < n := by omega
  have n1 : 1 < n := by omega
  have kt := markT_k (mark0 n) hb
  have m0 := getD_mem (ms := marksT (List.range n) cs) (i := 0) (by rw [kt.len]; exact n0)
  have m1 := getD_mem (ms := marksT (List.range n) cs) (i := 1) (by rw [kt.len]; exact n1)
  have f := kinds_first n
  have e0 : (1 : Int) ∉ l0 ↔ (marksT (List.range n) cs).getD 0 0 ≠ (marksT (List.range n) cs).getD 1 0 := by
    have := k0.mem n0 hb n1
    rw [show ((1 : Nat) : Int) = 1 from rfl] at this
    rw [this]
    constructor
    · intro h z; exact h z.symm
    · intro h z; exact h z.symm
  have e1 : (marksT (List.range n) cs).getD 0 0 ≠ (marksT (List.range n) cs).getD 1 0 → (l0.length + l1.length = n ↔ ∀ u, u < n → (marksT (List.range n) cs).getD u 0 = (marksT (List.range n) cs).getD 0 0 ∨ (marksT (List.range n) cs).getD u 0 = (marksT (List.range n) cs).getD 1 0) := by
    intro ne
    rw [len_cnt k0.nd k0.inn, len_cnt k1.nd k1.inn, cnt_or, cnt_all]
    · constructor
      · intro h u hu
        have := h u hu
        rw [Bool.or_eq_true, decide_eq_true_iff, decide_eq_true_iff, k0.mem n0 hb hu, k1.mem n1 hb hu] at this
        exact this
      · intro h u hu
        rw [Bool.or_eq_true, decide_eq_true_iff, decide_eq_true_iff, k0.mem n0 hb hu, k1.mem n1 hb hu]
        exact h u hu
    · intro u hu z
      rw [decide_eq_true_iff, decide_eq_true_iff, k0.mem n0 hb hu, k1.mem n1 hb hu] at z
      exact ne (z.1.symm.trans z.2)
  have e2 : (marksT (List.range n) cs).getD 0 0 ≠ (marksT (List.range n) cs).getD 1 0 → (kinds n (marksT (List.range n) cs) = 2 ↔ ∀ u, u < n → (marksT (List.range n) cs).getD u 0 = (marksT (List.range n) cs).getD 0 0 ∨ (marksT (List.range n) cs).getD u 0 = (marksT (List.range n) cs).getD 1 0) := by
    intro ne
    have r1 := cnt_rem (n := n) (p := fun x => decide (x ∈ marksT (List.range n) cs)) (kt.lt _ m0) (by simpa using m0)
    have r2 := cnt_rem (n := n) (b := (marksT (List.range n) cs).getD 1 0) (p := fun x => decide (x ∈ marksT (List.range n) cs) && x != (marksT (List.range n) cs).getD 0 0) (kt.lt _ m1) (by
      rw [Bool.and_eq_true, decide_eq_true_iff, bne_iff_ne]; exact ⟨m1, fun z => ne z.symm⟩)
    unfold kinds
    rw [← r1, ← r2]
    constructor
    · intro h u hu
      have mu := getD_mem (ms := marksT (List.range n) cs) (i := u) (by rw [kt.len]; exact hu)
      have z := cnt_zero.mp (Nat.succ.inj (Nat.succ.inj h)) _ (kt.lt _ mu)
      rw [Bool.and_eq_false_iff, Bool.and_eq_false_iff] at z
      rcases z with (z | z) | z
      · rw [decide_eq_false_iff_not] at z
        exact absurd mu z
      · exact .inl (by simpa using z)
      · exact .inr (by simpa using z)
    · intro h
      have : cntM n (fun x => (decide (x ∈ marksT (List.range n) cs) && x != (marksT (List.range n) cs).getD 0 0) && x != (marksT (List.range n) cs).getD 1 0) = 0 := cnt_zero.mpr fun x _ => by
        rw [Bool.and_eq_false_iff, Bool.and_eq_false_iff]
        by_cases hx : x ∈ marksT (List.range n) cs
        · obtain ⟨i, hi, e⟩ := List.getElem_of_mem hx
          have := h i (by rw [← kt.len]; exact hi)
          rw [List.getD_eq_getElem?_getD, List.getElem?_eq_getElem hi, Option.getD_some, e] at this
          rcases this with z | z
          · exact .inl (.inr (by simpa using z))
          · exact .inr (by simpa using z)
        · exact .inl (.inl (by simpa using hx))
      omega
  cases h : marksF (List.range n) cs with
  | none =>
    have := marks_none (mark0 n) hb h
    constructor
    · rintro ⟨a, b⟩
      have ne := e0.mp a
      have := (e2 ne).mpr ((e1 ne).mp b)
      omega
    · rintro ⟨ms, z, _⟩; cases z
  | some out =>
    obtain ⟨rfl, z⟩ := marks_some (mark0 n) hb h
    constructor
    · rintro ⟨a, b⟩
      exact ⟨_, rfl, e0.mp a⟩
    · rintro ⟨ms, w, ne⟩
      obtain rfl := Option.some.inj w
      exact ⟨e0.mpr ne, (e1 ne).mpr ((e2 ne).mp (by omega))⟩
/-- the number from which a rising row goes on -/
def leastR (r : List Nat) : Nat := match r.getLast? with | none => 0 | some x => x + 1
/-- all rising rows of so many of the numbers below m -/
def riseR (m : Nat) : Nat → List (List Nat)
  | 0 => [[]]
  | s+1 => (riseR m s).flatMap fun r => (List.range' (leastR r) (m - leastR r)).map fun x => r ++ [x]
theorem rise_few : ∀ m, m < 10 → ∀ s, s < 10 → (riseR m s).length ≤ 126 := by decide +kernel
theorem rise_len {m : Nat} : ∀ {s : Nat} {r : List Nat}, r ∈ riseR m s → r.length = s ∧ ∀ x ∈ r, x < m
  | 0, r, h => by
    rw [show riseR m 0 = [[]] from rfl, List.mem_singleton] at h
    subst h; simp
  | s+1, r, h => by
    rw [show riseR m (s+1) = (riseR m s).flatMap fun r => (List.range' (leastR r) (m - leastR r)).map fun x => r ++ [x] from rfl, List.mem_flatMap] at h
    obtain ⟨q, hq, h⟩ := h
    obtain ⟨x, hx, rfl⟩ := List.mem_map.mp h
    obtain ⟨l, b⟩ := rise_len hq
    rw [List.mem_range'_1] at hx
    refine ⟨by rw [List.length_append, l]; rfl, fun y hy => ?_⟩
    rcases List.mem_append.mp hy with z | z
    · exact b y z
    · rw [List.mem_singleton] at z; omega
end Wd
/-! what all parts use -/
namespace My
open PySem L2 Mth
theorem same_new {H : Hp} {p : Addr} (h : H p = none) (o : HO) : Same H (upd H p o) := fun b u q => by rw [upd_ne (ne_of_none q h)]; exact q
/-- all but what lies at x stays -/
def SameB (x : Addr) (H H' : Hp) : Prop := ∀ b o, b ≠ x → H b = some o → H' b = some o
theorem SameB.refl (x : Addr) (H : Hp) : SameB x H H := fun _ _ _ h => h
theorem SameB.put {x : Addr} {H H' : Hp} (h : SameB x H H') (o : HO) : SameB x H (upd H' x o) := fun b u n q => by rw [upd_ne n]; exact h b u n q
theorem SameB.trans {x : Addr} {H H1 H2 : Hp} (a : SameB x H H1) (b : SameB x H1 H2) : SameB x H H2 := fun c o n h => b c o n (a c o n h)
theorem _root_.L2.Same.b {x : Addr} {H H' : Hp} (h : Same H H') : SameB x H H' := fun b o _ q => h b o q
theorem SameB.same {x : Addr} {H0 H H' : Hp} (h : SameB x H H') (s : Same H0 H) (n : H0 x = none) : Same H0 H' := fun b o q => h b o (ne_of_none q n) (s b o q)
theorem SameB.one {x : Addr} {H : Hp} {o : HO} : SameB x H (upd H x o) := (SameB.refl x H).put o
theorem _root_.L2.Same.up {x : Addr} {H0 H : Hp} (s : Same H0 H) (n : H0 x = none) (o : HO) : Same H0 (upd H x o) := SameB.one.same s n
theorem iteNN {c A B : Prop} [Decidable c] (hc : ¬ c) (h : A) : if (!decide c) = true then A else B := by
  rw [decide_eq_false hc]
  exact iteT h
theorem iteDT {c A B : Prop} [Decidable c] (hc : c) (h : A) : if decide c = true then A else B := by
  rw [decide_eq_true hc]
  exact iteT h
theorem iteDF {c A B : Prop} [Decidable c] (hc : ¬ c) (h : B) : if decide c = true then A else B := by
  rw [decide_eq_false hc]
  exact iteF h
theorem iv {a b : Int} (h : a = b) : V.int a = V.int b := by rw [h]
theorem ivn {a b : Int} (h : a ≠ b) : ¬ V.int a = V.int b := fun z => h (V.int.inj z)
theorem szl {n : Nat} (h : n ≤ 100000) : n < sizeLine := by rw [sizeLine_eq]; omega
/-! dicts of numbers -/
abbrev kvI (L : List (Int × Int)) : List (Key × V) := L.map fun p => (Sum.inl p.1, V.int p.2)
theorem put_new {kvs : List (Key × V)} {k : Key} {v : V} (h : valV kvs k = none) : putK kvs k v = kvs ++ [(k, v)] := by
  unfold putK
  rw [valV_any, h]
  rfl
abbrev kvT (l : List Int) : List (Key × V) := l.map fun e => (Sum.inl e, V.bl true)
theorem val_kvT (e : Int) : ∀ l : List Int, valV (kvT l) (Sum.inl e : Key) = if e ∈ l then some (V.bl true) else none
  | [] => rfl
  | p :: L => by
    show valV ((Sum.inl p, V.bl true) :: kvT L) (Sum.inl e : Key) = _
    by_cases h : p = e
    · rw [valV_pos (p := ((Sum.inl p : Key), V.bl true)) (by rw [h]), if_pos (by simp [h])]
    · rw [valV_neg (p := ((Sum.inl p : Key), V.bl true)) (fun z => h (Sum.inl.inj z)), val_kvT e L]
      have : e ∈ p :: L ↔ e ∈ L := by simp [Ne.symm h]
      by_cases q : e ∈ L
      · rw [if_pos q, if_pos (this.mpr q)]
      · rw [if_neg q, if_neg fun z => q (this.mp z)]
theorem put_kvT {l : List Int} {e : Int} (h : e ∉ l) : putK (kvT l) (Sum.inl e : Key) (.bl true) = kvT (l ++ [e]) := by
  rw [put_new (by rw [val_kvT, if_neg h])]
  simp
/-- rows of numbers at a -/
def TsA (H : Hp) (a : Addr) (bs : List Addr) (ts : List (List Int)) : Prop :=
  H a = some (.tup (bs.map V.ref)) ∧ bs.length = ts.length ∧ ∀ (i : Nat) (b : Addr) (row : List Int), bs[i]? = some b → ts[i]? = some row → H b = some (.tup (row.map V.int))
theorem TsA.keep {H H' : Hp} {a : Addr} {bs : List Addr} {ts : List (List Int)} (h : TsA H a bs ts) (s : Same H H') : TsA H' a bs ts :=
  ⟨s _ _ h.1, h.2.1, fun i b row e1 e2 => s _ _ (h.2.2 i b row e1 e2)⟩
theorem t3_0 (x y z : V) : atI [x, y, z] 0 = some x := atI_nat (j := 0) rfl
theorem t3_1 (x y z : V) : atI [x, y, z] 1 = some y := atI_nat (j := 1) rfl
theorem t3_2 (x y z : V) : atI [x, y, z] 2 = some z := atI_nat (j := 2) rfl
theorem at0 {x y : V} : atI [x, y] 0 = some x := atI_nat (j := 0) rfl
theorem at1 {x y : V} : atI [x, y] 1 = some y := atI_nat (j := 1) rfl
theorem szle {n : Nat} (h : n ≤ 100000) : n ≤ sizeLine := Nat.le_of_lt (szl h)
theorem sIx_nat {n j d : Nat} (h : j ≤ n) : HT.sIx n d (some (j : Int)) = j := by simp [HT.sIx]; rw [if_neg (by omega)]; omega
def IntsT (H : Hp) (b : Addr) (ns : List Int) : Prop := H b = some (.tup (ns.map V.int))
theorem IntsT.del {H : Hp} {a b : Addr} {t : List Int} {ys : List V} (h : IntsT H b t) (e : H a = some (.lst ys)) : IntsT (del H a) b t := del_at h fun z => by rw [z] at h; unfold IntsT at h; rw [e] at h; cases h
abbrev natV (hs : List Nat) : List V := hs.map fun x : Nat => V.int (x : Int)
theorem nat_at {hs : List Nat} {i p : Nat} (h : hs[i]? = some p) : atI (natV hs) ((i : Nat) : Int) = some (.int (p : Int)) := atI_nat (by rw [List.getElem?_map, h]; rfl)
theorem name_go {i : Nat} {v : V} {σ : L2.St} {H : Hp} {k : L2.St → Hp → Prop} (h : k (σ.set i (some v)) H) : gName i v σ H k := h
theorem nx_go {D : Ends} {f : L2.St → Hp → Prop} {σ : L2.St} {H : Hp} (h : f σ H) : ({ D with nx := f } : Ends).nx σ H := h
theorem seq_join {t u : L2.TS} {D : Ends} {σ : L2.St} {H : Hp} {G : L2.St → Hp → Prop} (m : (∀ σ H, G σ H → u D σ H) → t { D with nx := u D } σ H) (r : ∀ σ H, G σ H → u D σ H) : tSeq t u D σ H := m r
abbrev ScA (K : PySem.W.Frag) (H : Hp) (a : Addr) (ns : List Int) : Prop := SqL K H a (ns.map V.int) ∧ ns.length ≤ 63

end My
namespace My
open PySem
def top (i : Nat) : Stmt := PySem.Challenge.pw_currentfloor_k20_trees_told.main.body.getD i (.Pass ⟨0, 0, 0, 0⟩)
abbrev s_led_to : Stmt := top 6
abbrev s_rising_rows : Stmt := top 8
abbrev s_is_tree : Stmt := top 9
abbrev s_is_half : Stmt := top 10
abbrev s_fitting_rows : Stmt := top 11
abbrev s_trees : Stmt := top 12
abbrev s_halves : Stmt := top 13
abbrev sCellAt : Stmt := top 15
abbrev sLow : Stmt := top 16
abbrev sLAdd : Stmt := top 17
abbrev sLTake : Stmt := top 18
abbrev sLMul : Stmt := top 19
abbrev sLEase : Stmt := top 20
abbrev sSpot : Stmt := top 21
abbrev sNext : Stmt := top 22
abbrev sPut : Stmt := top 23
abbrev sGrow : Stmt := top 24
abbrev sNet : Stmt := top 25
abbrev sSomeNet : Stmt := top 26
abbrev s_law_rising : Stmt := top 27
abbrev s_law_marks : Stmt := top 28
abbrev s_law_trees : Stmt := top 29
abbrev s_law_halves : Stmt := top 30
abbrev s_law_rows : Stmt := top 31
abbrev s_law_refused : Stmt := top 32
abbrev sLaw : Stmt := top 33
end My
/-! what the drawn net uses -/
namespace My
open PySem L2 Mth Wd
def RopeR (H : Hp) (b : Addr) (r : Rope) : Prop := ∃ e, H b = some (.tup [.int (r.1 : Int), .int (r.2.1 : Int), .ref e]) ∧ FrR H e r.2.2
theorem mo_rope : Mo RopeR := fun s ⟨e, h1, h2⟩ => ⟨e, s _ _ h1, s _ _ h2⟩
def NetR (H : Hp) (a : Addr) (n : Nat) (rs : List Rope) : Prop := ∃ (r : Addr) (t : V), H a = some (.tup [.int (n : Int), .ref r, t]) ∧ TupR RopeR H r rs
theorem mo_net {H H' : Hp} {a : Addr} {n : Nat} {rs : List Rope} (s : Same H H') (h : NetR H a n rs) : NetR H' a n rs := by
  obtain ⟨r, t, h1, h2⟩ := h
  exact ⟨r, t, s _ _ h1, mo_tup (R := RopeR) (fun s h => mo_rope s h) s h2⟩
/-- a table that is still changed -/
structure Mat (H : Hp) (R : Addr) (bs : List Addr) (T : List (List Rat)) : Prop where
  h1 : H R = some (.lst (bs.map V.ref))
  rows : At LF H bs T
  nd : (R :: bs).Nodup
theorem nd_at {l : List Addr} (h : l.Nodup) {i j : Nat} {b : Addr} (h1 : l[i]? = some b) (h2 : l[j]? = some b) : i = j := by
  obtain ⟨i1, e1⟩ := List.getElem?_eq_some_iff.mp h1
  obtain ⟨j1, e2⟩ := List.getElem?_eq_some_iff.mp h2
  have hp := List.pairwise_iff_getElem.mp h
  rcases Nat.lt_trichotomy i j with z | z | z
  · exact absurd (e1.trans e2.symm) (hp i j i1 j1 z)
  · exact z
  · exact absurd (e2.trans e1.symm) (hp j i j1 i1 z)
theorem big2 {i : Int} {n : Nat} (h : i.natAbs ≤ 2 ^ n) (hn : n < 8000) : Big i := Nat.lt_of_le_of_lt h (Nat.pow_lt_pow_right (by decide) hn)
theorem abs_gcd {x : Int} {n : Nat} (h : Int.gcd x 0 = n) : (if x < 0 then -x else x) = (n : Int) := by
  rw [← h, Int.gcd_zero_right]
  split <;> omega
theorem sb_low {t b : Int} {n d : Nat} (hb : 0 < b) (h1 : t.natAbs ≤ 2 ^ n) (h2 : b.natAbs ≤ 2 ^ d) : Sb n d ((t : Rat) / (b : Rat)) := sb_of (by omega) h1 h2 (frac_rat t b (by omega))
theorem low_pos {t b : Int} (ht : 0 < t) (hb : 0 < b) : 0 < (t : Rat) / (b : Rat) := by
  have h1 : (0 : Rat) < (t : Rat) := by exact_mod_cast ht
  have h2 : (0 : Rat) < (b : Rat) := by exact_mod_cast hb
  rw [Rat.div_def]
  exact Rat.mul_pos h1 (Rat.inv_pos.mpr h2)
theorem same_up {x : Addr} {H0 H : Hp} (s : Same H0 H) (n : H0 x = none) (o : HO) : Same H0 (upd H x o) := fun b u q => by rw [upd_ne (ne_of_none q n)]; exact s b u q
theorem ixN_nat {n j : Nat} (h : j < n) : ixN n (j : Int) = some j := by
  unfold ixN
  rw [if_pos (by omega), if_pos (by omega)]; simp
/-- a net of n places and m ropes -/
structure NetJ (n m : Nat) (rs : List Rope) : Prop where
  two : 2 ≤ n
  few : n ≤ m + 1
  len : rs.length = m
  ends : ∀ r ∈ rs, r.1 < n ∧ r.2.1 < n
theorem gi_netJ {ts : List (List Int)} {rs : List Rope} (g : Gi ts rs) : NetJ ts.length rs.length rs := ⟨g.two, g.few, rfl, fun r hr => ⟨(g.ends r hr).1, (g.ends r hr).2.1⟩⟩
end My
namespace My
open PySem L2 Mth Wd
section
variable {P : Program} {w : World} {K : PySem.W.Frag} {mg : Str → Option Value} {base : Heap} {f g h f1 f2 : Addr} {fd gd hd d1 d2 : FuncData}
abbrev GivQ (H : Hp) (Q : VK) (q : Rat) : Prop := ∀ p, H p = none → Q (.ref p) (upd H p (.tup [.int q.num, .int q.den]))
abbrev CellR (z : Int) : Prop := 0 ≤ z ∧ z < 2147483587
def spCell (K : PySem.W.Frag) : Sp := fun vs H Q _ => ∃ (a : Addr) (ns : List Int) (k : Int), vs = [.ref a, .int k] ∧ ScA K H a ns ∧ 0 ≤ k ∧ ∀ z, CellR z → Q (.int z) H
theorem scCe : FnScope ["_law_script", "_law_k", "_law_cell_here"] ["_law_script", "_law_k"] (defScope sCellAt) := ⟨rfl, rfl, rfl, by decide +kernel, rfl, by decide +kernel, by decide +kernel⟩
theorem ok_cell (F : Fun K "_law_cell" "_law_cell" sCellAt f fd) (ml : mg "len" = none) : FnOk P w K mg base CX0 1 f fd ["_law_script", "_law_k"] (spCell K) := by
  refine F.ok scCe (fun vs H Q E h => ?_) (fun cdv A outer s H vs Q E hr h => ?_)
  · obtain ⟨a, ns, k, rfl, _⟩ := h
    rfl
  obtain ⟨a, ns, k, rfl, ⟨hS, hl⟩, h0, q⟩ := h
  refine ⟨_, pss_cons (ps_set (i := 2) scCe.nd rfl (Or.inl rfl) (pe_op op_add (pv 1) pe_int))
    (pss_cons (ps_if (pt_cmpR op_lt (pv 1) (pe_callB call_len_seq (by rfl) ml bt_len (pa_cons (pv 0) pa_nil)) (nomark _))
      (pss_one (ps_set (i := 2) scCe.nd rfl (Or.inl rfl) (pe_op op_add (pe_op op_add (pe_op op_mul (pe_op op_mod (pe_ix ix_list (pv 0) (pv 1) (fun _ _ => rfl)) (pe_op op_pow pe_int pe_int)) pe_int) (pv 1)) pe_int))) pss_nil)
    (pss_one (ps_ret (pe_op op_mod (pe_op op_mul (pe_op op_mod (pe_op op_mul (pv 2) pe_int) pe_int) pe_int) pe_int)))), ?_⟩
  refine ⟨_, rfl, _, _, rfl, rfl, _, rfl, _, rfl, a, _, rfl, .inl hS, _, _, rfl, rfl, _, rfl, ?_⟩
  have fin : ∀ x : Int, tRet (tOp (rI (fun _ j => 0 < j) fun i j => .int (i % j)) (tOp (rI CMul fun i j => .int (i * j)) (tOp (rI (fun _ j => 0 < j) fun i j => .int (i % j)) (tOp (rI CMul fun i j => .int (i * j)) (tVar 2) (tC (.int 40692))) (tC (.int 2147483629))) (tC (.int 48271))) (tC (.int 2147483587)))
      { nx := fun _ H' => Q .non H', rt := Q } [some (.ref a), some (.int k), some (.int x)] H := fun x =>
    ⟨_, rfl, _, _, rfl, rfl, .inr ⟨by decide, by decide⟩, _, _, rfl, rfl, (show (0 : Int) < 2147483629 by decide), _, _, rfl, rfl, .inr ⟨by decide, by decide⟩, _, _, rfl, rfl, (show (0 : Int) < 2147483587 by decide), q _ ⟨Int.emod_nonneg _ (by decide), Int.emod_lt_of_pos _ (by decide)⟩⟩
  by_cases hk : k < (((ns.map V.int).length : Nat) : Int)
  · refine iteDT hk ?_
    rw [List.length_map] at hk
    have hk' : k.toNat < ns.length := by omega
    have e : atI (ns.map V.int) ((k.toNat : Nat) : Int) = some (.int ns[k.toNat]) := atI_nat (by rw [List.getElem?_map, List.getElem?_eq_getElem hk']; rfl)
    rw [show ((k.toNat : Nat) : Int) = k by omega] at e
    refine ⟨_, rfl, _, rfl, a, _, _, _, rfl, rfl, hS, e, _, _, rfl, rfl, ⟨by decide, by decide, by decide⟩, _, _, rfl, rfl, (show (0 : Int) < 10 ^ ((18 : Int).toNat) by decide), _, _, rfl, rfl, .inr ⟨by decide, by decide⟩, _, rfl, _, _, rfl, rfl, _, _, rfl, rfl, fin _⟩
  · exact iteDF hk (fin _)

/-- in lowest terms -/
def spLow : Sp := fun vs H Q _ => ∃ t b : Int, vs = [.int t, .int b] ∧ 0 < b ∧ Big b ∧ GivQ H Q ((t : Rat) / (b : Rat))
theorem scLo : FnScope ["_law_top", "_law_bottom", "_law_one", "_law_other"] ["_law_top", "_law_bottom"] (defScope sLow) := ⟨rfl, rfl, rfl, by decide +kernel, rfl, by decide +kernel, by decide +kernel⟩
theorem abs_eq (a : Int) : (if a < 0 then -a else a) = (a.natAbs : Int) := by split <;> omega
theorem emod_gcd {x y : Int} (hy : 0 < y) : Int.gcd y (x % y) = Int.gcd x y := by
  have := gcd_fmod x y
  rwa [Int.fmod_eq_emod_of_nonneg x (Int.le_of_lt hy)] at this
theorem ok_low (F : Fun K "_law_low" "_law_low" sLow f fd) (ma : mg "abs" = none) : FnOk P w K mg base CX0 1 f fd ["_law_top", "_law_bottom"] spLow := by
  refine F.ok scLo (fun vs H Q E h => ?_) (fun cdv A outer s H vs Q E hr h => ?_)
  · obtain ⟨t, b, rfl, _⟩ := h
    rfl
  obtain ⟨t, b, rfl, hb, bb, q⟩ := h
  refine ⟨_, pss_cons (ps_set (i := 2) scLo.nd rfl (Or.inl rfl) (pe_callB call_abs (by rfl) ma bt_abs (pa_cons (pv 0) pa_nil)))
    (pss_cons (ps_set (i := 3) scLo.nd rfl (Or.inl rfl) (pv 1))
    (pss_cons (ps_while PassesOwn.never (pt_cmpR op_ne (pv 3) pe_int (nomark _)) (pss_one (ps_par (i := 2) (j := 3) rfl scLo.nd rfl rfl (by decide) rfl rfl (pa_cons (pv 3) (pa_cons (pe_op op_mod (pv 2) (pv 3)) pa_nil)) rfl)))
    (pss_one (ps_ret (pe_tup (pa_cons (pe_op op_fdivB (pv 0) (pv 2)) (pa_cons (pe_op op_fdivB (pv 1) (pv 2)) pa_nil))))))), ?_⟩
  refine ⟨_, rfl, t, rfl, _, rfl, ?_⟩
  rw [abs_eq]
  refine while_by (fun σ H2 => ∃ x y, σ = [some (.int t), some (.int b), some (.int x), some (.int y)] ∧ H2 = H ∧ 0 ≤ x ∧ 0 ≤ y ∧ Int.gcd x y = Int.gcd t b) (fun σ _ => match σ with | [_, _, _, some (.int y)] => y.natAbs | _ => 0) ⟨_, _, rfl, rfl, by omega, by omega, by unfold Int.gcd; simp⟩ ?_ ?_
  · rintro σ H2 ⟨x, y, rfl, rfl, x0, y0, gg⟩
    refine ⟨_, rfl, rfl, _, rfl, ?_⟩
    by_cases hy : y = 0
    · refine iteNS (iv hy) ?_
      subst hy
      have gx : x = (Int.gcd t b : Int) := by
        have := abs_gcd gg
        rw [if_neg (by omega)] at this
        exact this
      have pe : Mth.part t b = x := by unfold Mth.part; rw [if_neg (by omega), gx]
      have gp : 0 < Int.gcd t b := Mth.gcd_pos t b (by omega)
      have hx : CDivB t x := ⟨by omega, by rw [← pe]; exact Nat.lt_of_le_of_lt (part_le t b (by omega)) bb⟩
      have ef := frac_rat t b (by omega)
      unfold frac at ef
      rw [pe] at ef
      have e1 := congrArg Prod.fst ef
      have e2 := congrArg Prod.snd ef
      simp only at e1 e2
      refine ⟨_, rfl, _, rfl, _, _, rfl, rfl, hx, _, rfl, _, rfl, _, _, rfl, rfl, hx, by show 2 ≤ sizeLine; decide, ?_⟩
      dsimp only
      rw [e1, e2]
      exact q
    · refine iteNN (ivn hy) ?_
      have yp : 0 < y := by omega
      have m0 := Int.emod_nonneg x (Int.ne_of_gt yp)
      have m1 := Int.emod_lt_of_pos x yp
      refine ⟨_, rfl, _, rfl, _, rfl, _, _, rfl, rfl, yp, _, _, rfl, ⟨y, x % y, rfl, rfl, y0, m0, (emod_gcd yp).trans gg⟩, ?_⟩
      show (x % y).natAbs < y.natAbs
      omega
  · rintro σ H2 Q1 Q2 hq ⟨v, e, sc, b, eb, z⟩
    exact ⟨v, e, sc, b, eb, hq _ _ z⟩
def spEase : Sp := fun vs H Q _ => ∃ z : Int, vs = [.int z] ∧ ∀ q, Sb 30 17 q → 0 < q → GivQ H Q q
theorem scEs : FnScope ["_law_cell_here"] ["_law_cell_here"] (defScope sLEase) := ⟨rfl, rfl, rfl, by decide +kernel, rfl, by decide +kernel, by decide +kernel⟩
theorem ok_ease (F : Fun K "_law_ease" "_law_ease" sLEase f fd) (G : FnOk P w K mg base CX0 1 g gd ["_law_top", "_law_bottom"] spLow) (bG : Binds K gd ["_law_top", "_law_bottom"] []) (kG : PySem.W.keepIn K (.ref g) = true) (mG : mg "_law_low" = some (.ref g)) :
    FnOk P w K mg base CX0 2 f fd ["_law_cell_here"] spEase := by
  refine F.ok scEs (fun vs H Q E h => ?_) (fun cdv A outer s H vs Q E hr h => ?_)
  · obtain ⟨z, rfl, _⟩ := h
    rfl
  obtain ⟨z, rfl, k⟩ := h
  refine ⟨_, pss_cons (ps_if (pt_cmpR op_eq (pe_op op_mod (pv 0) pe_int) pe_int (nomark _))
      (pss_one (ps_ret (pe_call G hr (by rfl) mG kG bG .nil pass0 (pa_cons (pe_op op_add pe_int (pe_op op_mod (pe_op op_fdiv (pv 0) pe_int) (pe_op op_pow pe_int pe_int))) (pa_cons (pe_op op_add pe_int (pe_op op_mod (pe_op op_mul (pv 0) pe_int) pe_int)) pa_nil))))) pss_nil)
    (pss_cons (ps_if (pt_cmpR op_eq (pe_op op_mod (pv 0) pe_int) pe_int (nomark _)) (pss_one (ps_ret (pe_tup (pa_cons pe_int (pa_cons pe_int pa_nil))))) pss_nil)
    (pss_one (ps_ret (pe_call G hr (by rfl) mG kG bG .nil pass0 (pa_cons (pe_op op_add pe_int (pe_op op_mod (pe_op op_fdiv (pv 0) pe_int) pe_int)) (pa_cons (pe_op op_add pe_int (pe_op op_mod (pe_op op_fdiv (pv 0) pe_int) pe_int)) pa_nil)))))), ?_⟩
  refine ⟨_, rfl, _, _, rfl, rfl, (show (0 : Int) < 4 by decide), rfl, _, rfl, ?_⟩
  refine ite2 (fun _ => ?_) (fun _ => ?_)
  · refine ⟨_, rfl, _, _, rfl, rfl, ⟨by decide, by decide⟩, _, _, rfl, rfl, ⟨by decide, by decide, by decide⟩, _, _, rfl, rfl, (show (0 : Int) < 10 ^ ((9 : Int).toNat) by decide), _, _, rfl, rfl,
      _, rfl, _, _, rfl, rfl, .inr ⟨by decide, by decide⟩, _, _, rfl, rfl, (show (0 : Int) < 99991 by decide), _, _, rfl, rfl, ?_⟩
    have e1 := Int.emod_nonneg (z / 4) (show (10 ^ ((9 : Int).toNat) : Int) ≠ 0 by decide)
    have e2 := Int.emod_lt_of_pos (z / 4) (show (0 : Int) < 10 ^ ((9 : Int).toNat) by decide)
    have e3 := Int.emod_nonneg (z * 48271) (show (99991 : Int) ≠ 0 by decide)
    have e4 := Int.emod_lt_of_pos (z * 48271) (show (0 : Int) < 99991 by decide)
    have p9 : (10 : Int) ^ ((9 : Int).toNat) = 1000000000 := by decide
    rw [p9] at e1 e2 ⊢
    exact ⟨_, _, rfl, by omega, big2 (n := 17) (by omega) (by decide), k _ (sb_low (by omega) (by omega) (by omega)) (low_pos (by omega) (by omega))⟩
  · refine ⟨_, rfl, _, _, rfl, rfl, (show (0 : Int) < 4 by decide), rfl, _, rfl, ?_⟩
    refine ite2 (fun _ => ?_) (fun _ => ?_)
    · exact ⟨by show 2 ≤ sizeLine; decide, fun t ht => k 1 (Sb.one.mono (Nat.zero_le _) (Nat.zero_le _)) (by decide) t ht⟩
    · refine ⟨_, rfl, _, _, rfl, rfl, ⟨by decide, by decide⟩, _, _, rfl, rfl, (show (0 : Int) < 12 by decide), _, _, rfl, rfl,
        _, rfl, _, _, rfl, rfl, ⟨by decide, by decide⟩, _, _, rfl, rfl, (show (0 : Int) < 4 by decide), _, _, rfl, rfl, ?_⟩
      have e1 := Int.emod_nonneg (z / 4) (show (12 : Int) ≠ 0 by decide)
      have e2 := Int.emod_lt_of_pos (z / 4) (show (0 : Int) < 12 by decide)
      have e3 := Int.emod_nonneg (z / 48) (show (4 : Int) ≠ 0 by decide)
      have e4 := Int.emod_lt_of_pos (z / 48) (show (0 : Int) < 4 by decide)
      exact ⟨_, _, rfl, by omega, big2 (n := 17) (by omega) (by decide), k _ (sb_low (by omega) (by omega) (by omega)) (low_pos (by omega) (by omega))⟩
end
end My
/-! the drawn net: where an end stands -/
namespace My
open PySem L2 Mth Wd
/-- turns that are still changed -/
structure TurnsM (H : Hp) (T : Addr) (bs : List Addr) (ts : List (List Int)) : Prop where
  h1 : H T = some (.lst (bs.map V.ref))
  rows : At IntsL H bs ts
  nd : (T :: bs).Nodup
theorem TurnsM.keep {H H' : Hp} {T : Addr} {bs : List Addr} {ts : List (List Int)} (M : TurnsM H T bs ts) (s : Same H H') : TurnsM H' T bs ts := ⟨s _ _ M.h1, M.rows.keep mo_ints s, M.nd⟩
theorem TurnsM.put {H : Hp} {T b : Addr} {bs : List Addr} {ts : List (List Int)} {i : Nat} {t : List Int} (M : TurnsM H T bs ts) (hb : bs[i]? = some b) : TurnsM (upd H b (.lst (t.map V.int))) T bs (ts.set i t) := by
  have bm : b ∈ bs := List.mem_of_getElem? hb
  obtain ⟨n1, n2⟩ := List.nodup_cons.mp M.nd
  have e1 : T ≠ b := fun z => n1 (by rw [z]; exact bm)
  refine ⟨by rw [upd_ne e1]; exact M.h1, ⟨by rw [List.length_set]; exact M.rows.1, fun k c x q1 q2 => ?_⟩, M.nd⟩
  by_cases hk : i = k
  · subst hk
    rw [hb] at q1
    cases q1
    have hl : i < ts.length := by rw [← M.rows.1]; exact (List.getElem?_eq_some_iff.mp hb).1
    rw [List.getElem?_set_self hl] at q2
    cases q2
    exact upd_same
  · rw [List.getElem?_set_ne hk] at q2
    have ne : c ≠ b := fun z => hk (nd_at n2 hb (by rw [q1, z]))
    show upd H b _ c = _
    rw [upd_ne ne]
    exact M.rows.2 k c x q1 q2
def Spot (ts : List (List Int)) (e : Int) (place at_ : Nat) : Prop := (∃ t, ts[place]? = some t ∧ t[at_]? = some e) ∨ ((∀ t ∈ ts, e ∉ t) ∧ place = 0 ∧ at_ = 0)
section
variable {P : Program} {w : World} {K : PySem.W.Frag} {mg : Str → Option Value} {base : Heap} {f g h f1 f2 : Addr} {fd gd hd d1 d2 : FuncData}
def spSpot : Sp := fun vs H Q _ => ∃ (T : Addr) (bs : List Addr) (ts : List (List Int)) (e : Int), vs = [.ref T, .int e] ∧ TurnsM H T bs ts ∧ ts.length ≤ 1000 ∧ (∀ t ∈ ts, t.length ≤ 1000) ∧
  ∀ p H' place at_, Same H H' → Spot ts e place at_ → H' p = some (.tup [.int ((place : Nat) : Int), .int ((at_ : Nat) : Int)]) → Q (.ref p) H'
theorem scSp : FnScope ["_law_turns", "_law_end", "_law_place"] ["_law_turns", "_law_end"] (defScope sSpot) := ⟨rfl, rfl, rfl, by decide +kernel, rfl, by decide +kernel, by decide +kernel⟩
theorem ok_spot (F : Fun K "_law_spot" "_law_spot" sSpot f fd) (ml : mg "len" = none) (mr : mg "range" = none) : FnOk P w K mg base CX0 1 f fd ["_law_turns", "_law_end"] spSpot := by
  refine F.ok scSp (fun vs H Q E h => ?_) (fun cdv A outer s H vs Q E hr h => ?_)
  · obtain ⟨T, bs, ts, e, rfl, _⟩ := h
    rfl
  obtain ⟨T, bs, ts, e, rfl, M, hl, ht, q⟩ := h
  refine ⟨_, pss_cons (ps_for PassesOwn.never rfl (pi_range1 (by rfl) mr (pa_cons (pe_callB call_len_seq (by rfl) ml bt_len (pa_cons (pv 0) pa_nil)) pa_nil)) (pg_name (i := 2) scSp.nd rfl (Or.inl rfl))
      (pss_one (ps_if (pt_cmpR op_in_seq (pv 1) (pe_ix ix_list (pv 0) (pv 2) (fun _ _ => rfl)) (by with_unfolding_all rfl))
        (pss_one (ps_ret (pe_tup (pa_cons (pv 2) (pa_cons (pe_bm PySem.F.plainAttrs_list PySem.F.slot_list_index PySem.F.type_list_index mt_index (pe_ix ix_list (pv 0) (pv 2) (fun _ _ => rfl)) (pa_cons (pv 1) pa_nil)) pa_nil))))) pss_nil)))
    (pss_one (ps_ret (pe_tup (pa_cons pe_int (pa_cons pe_int pa_nil))))), ?_⟩
  have lb : bs.length = ts.length := M.rows.1
  refine ⟨_, rfl, T, _, rfl, .inl (SqL.of M.h1), ((ts.length : Nat) : Int), by rw [List.length_map, lb], by omega, by omega, ?_⟩
  rw [show ((ts.length : Nat) : Int).toNat = ts.length by omega]
  refine for_range (n := ts.length) (fun i σ H2 => H2 = H ∧ (∃ u, σ = [some (.ref T), some (.int e), u]) ∧ ∀ j t, j < i → ts[j]? = some t → e ∉ t) ⟨rfl, ⟨none, rfl⟩, fun j t h => by omega⟩ ?_ ?_
  · rintro i σ H2 hi ⟨rfl, ⟨u, rfl⟩, hz⟩
    have ei : ts[i]? = some ts[i] := List.getElem?_eq_getElem hi
    obtain ⟨b, hb, hB⟩ := M.rows.get ei
    have cst : (0 : Int) + (i : Int) = ((i : Nat) : Int) := by omega
    have e1 : atI (bs.map V.ref) ((0 : Int) + (i : Int)) = some (.ref b) := by rw [cst]; exact atI_nat (ref_at hb)
    refine ⟨_, rfl, _, rfl, _, rfl, T, _, _, _, rfl, rfl, SqL.of M.h1, e1, b, _, rfl, .inl (SqL.of hB), rfl, flat_ints _, _, rfl, ?_⟩
    rw [if_neg (by decide : ¬ (false = true)), inV_ints]
    by_cases hm : e ∈ ts[i]
    · refine iteDT hm ?_
      refine ⟨_, rfl, _, rfl, _, rfl, T, _, _, _, rfl, rfl, SqL.of M.h1, e1, .inl ⟨rfl, _, SqL.of hB⟩, _, rfl, b, ts[i], e, rfl, rfl, hB, hm, Nat.le_trans (ht _ (List.getElem_mem hi)) (by decide), by show 2 ≤ sizeLine; decide, fun p hp => ?_⟩
      have hj : ts[i].idxOf e < ts[i].length := List.idxOf_lt_length_iff.mpr hm
      refine q p _ i (ts[i].idxOf e) (same_new hp _) (.inl ⟨ts[i], ei, by rw [List.getElem?_eq_getElem hj, List.getElem_idxOf hj]⟩) ?_
      rw [upd_same, cst]
    · refine iteDF hm ⟨rfl, ⟨_, rfl⟩, fun j t hj hjt => ?_⟩
      rcases Nat.lt_or_ge j i with h3 | h3
      · exact hz j t h3 hjt
      · obtain rfl : j = i := by omega
        rw [ei] at hjt
        cases hjt
        exact hm
  · rintro σ H2 ⟨rfl, ⟨u, rfl⟩, hz⟩
    refine ⟨by show 2 ≤ sizeLine; decide, fun p hp => q p _ 0 0 (same_new hp _) (.inr ⟨fun t ht' => ?_, rfl, rfl⟩) upd_same⟩
    obtain ⟨j, hj, ej⟩ := List.getElem_of_mem ht'
    exact hz j t hj (by rw [List.getElem?_eq_getElem hj, ej])
end
end My
/-! the drawn net: the next end, an end put in -/
namespace My
open PySem L2 Mth Wd
theorem atI_pred {ns : List Int} {a : Nat} (h : a < ns.length) : ∃ v, atI (ns.map V.int) ((a : Int) - 1) = some (.int v) := by
  match a, h with
  | 0, h =>
    have hl : (ns.map V.int).length = ns.length := List.length_map _
    refine ⟨ns[ns.length - 1], ?_⟩
    unfold atI ixN
    rw [if_neg (by omega), if_pos (by omega)]
    have e : (((0 : Nat) : Int) - 1 + ((ns.map V.int).length : Nat)).toNat = ns.length - 1 := by omega
    rw [e]
    show (ns.map V.int)[ns.length - 1]? = _
    rw [List.getElem?_map, List.getElem?_eq_getElem (by omega)]; rfl
  | a+1, h =>
    refine ⟨ns[a], ?_⟩
    rw [show (((a+1 : Nat)) : Int) - 1 = ((a : Nat) : Int) by omega]
    exact atI_nat (by rw [List.getElem?_map, List.getElem?_eq_getElem (by omega)]; rfl)
theorem Spot.at {ts : List (List Int)} {e : Int} {place at_ : Nat} (h : Spot ts e place at_) (h0 : 0 < ts.length) (ne : ∀ t ∈ ts, t ≠ []) : ∃ t, ts[place]? = some t ∧ at_ < t.length := by
  rcases h with ⟨t, h1, h2⟩ | ⟨_, rfl, rfl⟩
  · exact ⟨t, h1, (List.getElem?_eq_some_iff.mp h2).1⟩
  · refine ⟨ts[0], List.getElem?_eq_getElem h0, ?_⟩
    have := ne _ (List.getElem_mem h0)
    exact List.length_pos_iff.mpr this
section
variable {P : Program} {w : World} {K : PySem.W.Frag} {mg : Str → Option Value} {base : Heap} {f g h f1 f2 : Addr} {fd gd hd d1 d2 : FuncData}
def spNext : Sp := fun vs H Q _ => ∃ (T : Addr) (bs : List Addr) (ts : List (List Int)) (e : Int), vs = [.ref T, .int e] ∧ TurnsM H T bs ts ∧ 0 < ts.length ∧ ts.length ≤ 1000 ∧ (∀ t ∈ ts, t.length ≤ 1000) ∧ (∀ t ∈ ts, t ≠ []) ∧
  ∀ H' v, Same H H' → Q (.int v) H'
theorem scNx : FnScope ["_law_turns", "_law_end", "_law_place", "_law_at"] ["_law_turns", "_law_end"] (defScope sNext) := ⟨rfl, rfl, rfl, by decide +kernel, rfl, by decide +kernel, by decide +kernel⟩
theorem ok_next (F : Fun K "_law_next" "_law_next" sNext f fd) (G : FnOk P w K mg base CX0 1 g gd ["_law_turns", "_law_end"] spSpot) (bG : Binds K gd ["_law_turns", "_law_end"] []) (kG : PySem.W.keepIn K (.ref g) = true) (mG : mg "_law_spot" = some (.ref g)) :
    FnOk P w K mg base CX0 2 f fd ["_law_turns", "_law_end"] spNext := by
  refine F.ok scNx (fun vs H Q E h => ?_) (fun cdv A outer s H vs Q E hr h => ?_)
  · obtain ⟨T, bs, ts, e, rfl, _⟩ := h
    rfl
  obtain ⟨T, bs, ts, e, rfl, M, h0, hl, ht, ne, q⟩ := h
  refine ⟨_, pss_cons (ps_asg (pe_call G hr (by rfl) mG kG bG .nil pass0 (pa_cons (pv 0) (pa_cons (pe_op op_xor (pv 1) pe_int) pa_nil))) (pg_tup rfl (pgs_cons (pg_name (i := 2) scNx.nd rfl (Or.inl rfl)) (pgs_cons (pg_name (i := 3) scNx.nd rfl (Or.inl rfl)) pgs_nil))))
    (pss_one (ps_ret (pe_ix ix_list (pe_ix ix_list (pv 0) (pv 2) (fun _ _ => rfl)) (pe_op op_sub (pv 3) pe_int) (fun _ _ => rfl)))), ?_⟩
  refine ⟨_, rfl, _, rfl, _, _, rfl, rfl, T, bs, ts, _, rfl, M, hl, ht, fun p H1 place at_ s1 sp hp => ?_⟩
  obtain ⟨t, e1, e2⟩ := sp.at h0 ne
  obtain ⟨b, hb, hB⟩ := M.rows.get e1
  obtain ⟨v, hv⟩ := atI_pred e2
  refine ⟨p, _, rfl, SqT.of hp, rfl, _, _, rfl, _, _, rfl, rfl, ?_⟩
  exact ⟨_, rfl, _, rfl, T, _, _, _, rfl, rfl, SqL.of (s1 _ _ M.h1), atI_nat (ref_at hb), _, rfl, _, _, rfl, rfl, b, _, _, _, rfl, rfl, SqL.of (s1 _ _ hB), hv, q H1 v s1⟩
def spPut : Sp := fun vs H Q _ => ∃ (T : Addr) (bs : List Addr) (ts : List (List Int)) (e x : Int), vs = [.ref T, .int e, .int x] ∧ TurnsM H T bs ts ∧ 0 < ts.length ∧ ts.length ≤ 1000 ∧ (∀ t ∈ ts, t.length ≤ 1000) ∧ (∀ t ∈ ts, t ≠ []) ∧
  ∀ H1 place at_ b t, Same H H1 → Spot ts (Builtin.bitXor e 1) place at_ → bs[place]? = some b → ts[place]? = some t → Q (.int ((place : Nat) : Int)) (upd H1 b (.lst ((insL t at_ x).map V.int)))
theorem scPu : FnScope ["_law_turns", "_law_end", "_law_fresh", "_law_place", "_law_at"] ["_law_turns", "_law_end", "_law_fresh"] (defScope sPut) := ⟨rfl, rfl, rfl, by decide +kernel, rfl, by decide +kernel, by decide +kernel⟩
theorem ok_put (F : Fun K "_law_put" "_law_put" sPut f fd) (G : FnOk P w K mg base CX0 1 g gd ["_law_turns", "_law_end"] spSpot) (bG : Binds K gd ["_law_turns", "_law_end"] []) (kG : PySem.W.keepIn K (.ref g) = true) (mG : mg "_law_spot" = some (.ref g)) :
    FnOk P w K mg base CX0 2 f fd ["_law_turns", "_law_end", "_law_fresh"] spPut := by
  refine F.ok scPu (fun vs H Q E h => ?_) (fun cdv A outer s H vs Q E hr h => ?_)
  · obtain ⟨T, bs, ts, e, x, rfl, _⟩ := h
    rfl
  obtain ⟨T, bs, ts, e, x, rfl, M, h0, hl, ht, ne, q⟩ := h
  refine ⟨_, pss_cons (ps_asg (pe_call G hr (by rfl) mG kG bG .nil pass0 (pa_cons (pv 0) (pa_cons (pe_op op_xor (pv 1) pe_int) pa_nil))) (pg_tup rfl (pgs_cons (pg_name (i := 3) scPu.nd rfl (Or.inl rfl)) (pgs_cons (pg_name (i := 4) scPu.nd rfl (Or.inl rfl)) pgs_nil))))
    (pss_cons (ps_expr (pe_bm PySem.F.plainAttrs_list PySem.F.slot_list_insert PySem.F.type_list_insert mt_insert (pe_ix ix_list (pv 0) (pv 3) (fun _ _ => rfl)) (pa_cons (pv 4) (pa_cons (pv 2) pa_nil))))
    (pss_one (ps_ret (pv 3)))), ?_⟩
  refine ⟨_, rfl, _, rfl, _, _, rfl, rfl, T, bs, ts, _, rfl, M, hl, ht, fun p H1 place at_ s1 sp hp => ?_⟩
  obtain ⟨t, e1, e2⟩ := sp.at h0 ne
  obtain ⟨b, hb, hB⟩ := M.rows.get e1
  have tl := ht t (List.mem_of_getElem? e1)
  refine ⟨p, _, rfl, SqT.of hp, rfl, _, _, rfl, _, _, rfl, rfl, ?_⟩
  refine ⟨_, rfl, _, rfl, T, _, _, _, rfl, rfl, SqL.of (s1 _ _ M.h1), atI_nat (ref_at hb), .inl ⟨rfl, _, SqL.of (s1 _ _ hB)⟩, _, rfl, _, rfl, b, t.map V.int, (at_ : Int), .int x, rfl, rfl, s1 _ _ hB, by omega, by rw [List.length_map]; omega, by rw [List.length_map]; omega, ?_⟩
  refine ⟨_, rfl, ?_⟩
  have e3 : (t.map V.int).take ((at_ : Int)).toNat ++ V.int x :: (t.map V.int).drop ((at_ : Int)).toNat = (insL t at_ x).map V.int := by
    unfold insL
    rw [Int.toNat_natCast, List.map_append, List.map_take, List.map_cons, List.map_drop]
  rw [e3]
  exact q H1 place at_ b t s1 sp hb e1
end
/-- a net under way in the heap -/
structure NetM (H : Hp) (R T : Addr) (cs bs : List Addr) (ts : List (List Int)) (rs : List Rope) : Prop where
  tm : TurnsM H T bs ts
  r1 : H R = some (.lst (cs.map V.ref))
  rr : At RopeR H cs rs
  rn : R ∉ T :: bs
theorem NetM.keep {H H' : Hp} {R T : Addr} {cs bs : List Addr} {ts : List (List Int)} {rs : List Rope} (M : NetM H R T cs bs ts rs) (s : Same H H') : NetM H' R T cs bs ts rs := ⟨M.tm.keep s, s _ _ M.r1, M.rr.keep mo_rope s, M.rn⟩
theorem rope_upd {H : Hp} {b c : Addr} {ys : List V} {o : HO} {r : Rope} (hb : H b = some (.lst ys)) (h : RopeR H c r) : RopeR (upd H b o) c r := by
  obtain ⟨e, h1, h2⟩ := h
  refine ⟨e, by rw [upd_ne (fun z => by rw [z, hb] at h1; cases h1)]; exact h1, ?_⟩
  unfold FrR at h2 ⊢
  rw [upd_ne (fun z => by rw [z, hb] at h2; cases h2)]; exact h2
theorem ropes_upd {H : Hp} {b : Addr} {ys : List V} {o : HO} {cs : List Addr} {rs : List Rope} (hb : H b = some (.lst ys)) (h : At RopeR H cs rs) : At RopeR (upd H b o) cs rs := ⟨h.1, fun i c r e1 e2 => rope_upd hb (h.2 i c r e1 e2)⟩
/-- a turn changed -/
theorem NetM.turn {H : Hp} {R T b : Addr} {cs bs : List Addr} {ts : List (List Int)} {rs : List Rope} {i : Nat} {t : List Int} (M : NetM H R T cs bs ts rs) (hb : bs[i]? = some b) : NetM (upd H b (.lst (t.map V.int))) R T cs bs (ts.set i t) rs := by
  have bm : b ∈ bs := List.mem_of_getElem? hb
  have li : i < ts.length := by rw [← M.tm.rows.1]; exact (List.getElem?_eq_some_iff.mp hb).1
  have hB : H b = some (.lst (ts[i].map V.int)) := M.tm.rows.2 i b ts[i] hb (List.getElem?_eq_getElem li)
  refine ⟨M.tm.put hb, ?_, ropes_upd hB M.rr, M.rn⟩
  rw [upd_ne (fun z => M.rn (by rw [z]; exact List.mem_cons_of_mem _ bm))]; exact M.r1
/-- a new turn -/
theorem NetM.more {H : Hp} {R T l : Addr} {cs bs : List Addr} {ts : List (List Int)} {rs : List Rope} {u : List Int} (M : NetM H R T cs bs ts rs) (hl : H l = none) : NetM (upd (upd H l (.lst (u.map V.int))) T (.lst (bs.map V.ref ++ [.ref l]))) R T cs (bs ++ [l]) (ts ++ [u]) rs := by
  have s1 := same_new hl (.lst (u.map V.int))
  have e1 : (upd H l (.lst (u.map V.int))) l = some (.lst (u.map V.int)) := upd_same
  have M1 := M.keep s1
  generalize upd H l (.lst (u.map V.int)) = H1 at s1 e1 M1
  have lT : l ≠ T := fun z => by rw [z, M.tm.h1] at hl; cases hl
  have lR : R ≠ l := fun z => by rw [← z, M.r1] at hl; cases hl
  obtain ⟨n1, n2⟩ := List.nodup_cons.mp M.tm.nd
  have lb : l ∉ bs := fun z => by
    obtain ⟨k, hk, ek⟩ := List.getElem_of_mem z
    have hl2 : k < ts.length := by rw [← M.tm.rows.1]; exact hk
    have := M.tm.rows.2 k l ts[k] (by rw [List.getElem?_eq_getElem hk, ek]) (List.getElem?_eq_getElem hl2)
    unfold IntsL at this
    rw [hl] at this; cases this
  refine ⟨⟨by rw [upd_same]; simp, ?_, ?_⟩, ?_, ropes_upd M1.tm.h1 M1.rr, ?_⟩
  · have a1 := M1.tm.rows.snoc (b := l) (x := u) e1
    refine ⟨a1.1, fun i b x q1 q2 => ?_⟩
    have := a1.2 i b x q1 q2
    unfold IntsL at this ⊢
    have bT : b ≠ T := fun z => by
      subst z
      have hm : b ∈ bs ++ [l] := List.mem_of_getElem? q1
      rcases List.mem_append.mp hm with w | w
      · exact n1 w
      · exact lT (List.mem_singleton.mp w).symm
    rw [upd_ne bT]; exact this
  · rw [List.nodup_cons]
    refine ⟨fun z => ?_, ?_⟩
    · rcases List.mem_append.mp z with w | w
      · exact n1 w
      · exact lT (List.mem_singleton.mp w).symm
    · rw [List.nodup_append]
      refine ⟨n2, by simp, fun x hx y hy z => ?_⟩
      rw [List.mem_singleton] at hy
      subst hy; subst z
      exact lb hx
  · rw [upd_ne (fun z => M.rn (by rw [z]; exact List.mem_cons_self))]; exact M1.r1
  · intro z
    rcases List.mem_cons.mp z with w | w
    · exact M.rn (by rw [w]; exact List.mem_cons_self)
    · rcases List.mem_append.mp w with v | v
      · exact M.rn (List.mem_cons_of_mem _ v)
      · exact lR (List.mem_singleton.mp v)
/-- the ropes changed -/
theorem NetM.ropes {H : Hp} {R T : Addr} {cs bs cs' : List Addr} {ts : List (List Int)} {rs rs' : List Rope} (M : NetM H R T cs bs ts rs) (h : At RopeR H cs' rs') : NetM (upd H R (.lst (cs'.map V.ref))) R T cs' bs ts rs' := by
  refine ⟨⟨?_, ⟨M.tm.rows.1, fun i b x q1 q2 => ?_⟩, M.tm.nd⟩, upd_same, ropes_upd M.r1 h, M.rn⟩
  · rw [upd_ne (fun z => M.rn (by rw [z]; exact List.mem_cons_self))]; exact M.tm.h1
  · have := M.tm.rows.2 i b x q1 q2
    unfold IntsL at this ⊢
    rw [upd_ne (fun z => M.rn (by rw [← z]; exact List.mem_cons_of_mem _ (List.mem_of_getElem? q1)))]; exact this
end My
/-! the drawn net: one step of growing -/
namespace My
open PySem L2 Mth Wd
theorem xor1' : ∀ k : Nat, k < 44 → Builtin.bitXor (k : Int) 1 = if k % 2 = 0 then (k : Int) + 1 else (k : Int) - 1 := by decide
theorem xor_lt {x : Int} {m : Nat} (h0 : -2 ≤ x) (h1 : x < 2 * (m : Int)) (hm : m ≤ 20) : Builtin.bitXor x 1 < 2 * (m : Int) := by
  rcases Int.lt_or_le x 0 with h | h
  · have : x = -2 ∨ x = -1 := by omega
    rcases this with rfl | rfl
    · have : Builtin.bitXor (-2) 1 = -1 := by decide
      omega
    · have : Builtin.bitXor (-1) 1 = -2 := by decide
      omega
  · obtain ⟨k, rfl⟩ := Int.eq_ofNat_of_zero_le h
    rw [xor1' k (by omega)]
    split <;> omega
section
variable {P : Program} {w : World} {K : PySem.W.Frag} {mg : Str → Option Value} {base : Heap} {f g h f1 f2 f3 f4 : Addr} {fd gd hd d1 d2 d3 d4 : FuncData}
def spGrow : Sp := fun vs H Q _ => ∃ (R T : Addr) (cs bs : List Addr) (ts : List (List Int)) (rs : List Rope) (z : Int) (H0 : Hp), vs = [.ref R, .ref T, .int z] ∧ NetM H R T cs bs ts rs ∧ Gi ts rs ∧ 0 < rs.length ∧ rs.length ≤ 20 ∧ 0 ≤ z ∧ Same H0 H ∧ H0 R = none ∧ H0 T = none ∧ (∀ x ∈ bs, H0 x = none) ∧
  ∀ H' cs' bs' ts' rs', Same H0 H' → NetM H' R T cs' bs' ts' rs' → Gi ts' rs' → rs'.length = rs.length + 1 → (∀ x ∈ bs', H0 x = none) → Q .non H'
theorem scGr : FnScope ["_law_ropes", "_law_turns", "_law_cell_here", "_law_many", "_law_way", "_law_end", "_law_ease_here", "_law_rope", "_law_place", "_law_at", "_law_other", "_law_step"] ["_law_ropes", "_law_turns", "_law_cell_here"] (defScope sGrow) := ⟨rfl, rfl, rfl, by decide +kernel, rfl, by decide +kernel, by decide +kernel⟩
set_option maxHeartbeats 4000000 in
theorem ok_grow (F : Fun K "_law_grow" "_law_grow" sGrow f fd) (G1 : FnOk P w K mg base CX0 2 f1 d1 ["_law_cell_here"] spEase) (b1 : Binds K d1 ["_law_cell_here"] []) (k1 : PySem.W.keepIn K (.ref f1) = true) (m1 : mg "_law_ease" = some (.ref f1))
    (G2 : FnOk P w K mg base CX0 2 f2 d2 ["_law_turns", "_law_end", "_law_fresh"] spPut) (b2 : Binds K d2 ["_law_turns", "_law_end", "_law_fresh"] []) (k2 : PySem.W.keepIn K (.ref f2) = true) (m2 : mg "_law_put" = some (.ref f2))
    (G3 : FnOk P w K mg base CX0 1 f3 d3 ["_law_turns", "_law_end"] spSpot) (b3 : Binds K d3 ["_law_turns", "_law_end"] []) (k3 : PySem.W.keepIn K (.ref f3) = true) (m3 : mg "_law_spot" = some (.ref f3))
    (G4 : FnOk P w K mg base CX0 2 f4 d4 ["_law_turns", "_law_end"] spNext) (b4 : Binds K d4 ["_law_turns", "_law_end"] []) (k4 : PySem.W.keepIn K (.ref f4) = true) (m4 : mg "_law_next" = some (.ref f4)) (ml : mg "len" = none) (mr : mg "range" = none) :
    FnOk P w K mg base CX0 3 f fd ["_law_ropes", "_law_turns", "_law_cell_here"] spGrow := by
  refine F.ok scGr (fun vs H Q E h => ?_) (fun cdv A outer s H vs Q E hr h => ?_)
  · obtain ⟨R, T, cs, bs, ts, rs, z, H0, rfl, _⟩ := h
    rfl
  obtain ⟨R, T, cs, bs, ts, rs, z, H0, rfl, M, gi, m0, m20, z0, s0, nR, nT, nb, q⟩ := h
  have hr1 := hr.mono (show 1 ≤ 2 by decide)
  refine ⟨_, pss_cons (ps_set (i := 3) scGr.nd rfl (Or.inl rfl) (pe_callB call_len_seq (by rfl) ml bt_len (pa_cons (pv 0) pa_nil)))
    (pss_cons (ps_set (i := 4) scGr.nd rfl (Or.inl rfl) (pe_op op_mod (pv 2) pe_int))
    (pss_cons (ps_set (i := 5) scGr.nd rfl (Or.inl rfl) (pe_op op_sub (pe_op op_mod (pe_op op_fdiv (pv 2) pe_int) (pe_op op_add (pe_op op_mul pe_int (pv 3)) pe_int)) pe_int))
    (pss_cons (ps_set (i := 6) scGr.nd rfl (Or.inl rfl) (pe_call G1 hr (by rfl) m1 k1 b1 .nil pass0 (pa_cons (pe_op op_fdiv (pv 2) pe_int) pa_nil)))
    (pss_one (ps_if (pt_cmpR op_lt (pv 4) pe_int (nomark _))
      (pss_cons (ps_expr (pe_bm PySem.F.plainAttrs_list PySem.F.slot_list_append PySem.F.type_list_append mt_append (pv 1) (pa_cons (pe_lst (pa_cons (pe_op op_add (pe_op op_mul pe_int (pv 3)) pe_int) pa_nil)) pa_nil)))
      (pss_one (ps_expr (pe_bm PySem.F.plainAttrs_list PySem.F.slot_list_append PySem.F.type_list_append mt_append (pv 0) (pa_cons (pe_tup (pa_cons (pe_call G2 hr (by rfl) m2 k2 b2 .nil pass0 (pa_cons (pv 1) (pa_cons (pv 5) (pa_cons (pe_op op_mul pe_int (pv 3)) pa_nil)))) (pa_cons (pe_op op_sub (pe_callB call_len_seq (by rfl) ml bt_len (pa_cons (pv 1) pa_nil)) pe_int) (pa_cons (pv 6) pa_nil)))) pa_nil)))))
      (pss_one (ps_if (pt_cmpR op_lt (pv 4) pe_int (nomark _))
        (pss_cons (ps_set (i := 7) scGr.nd rfl (Or.inl rfl) (pe_op op_mod (pe_op op_fdiv (pv 2) pe_int) (pv 3)))
        (pss_cons (ps_asg (pe_call G3 hr1 (by rfl) m3 k3 b3 .nil pass0 (pa_cons (pv 1) (pa_cons (pe_op op_add (pe_op op_mul pe_int (pv 7)) pe_int) pa_nil))) (pg_tup rfl (pgs_cons (pg_name (i := 8) scGr.nd rfl (Or.inl rfl)) (pgs_cons (pg_name (i := 9) scGr.nd rfl (Or.inl rfl)) pgs_nil))))
        (pss_cons (ps_asg (pe_op op_add (pe_op op_mul pe_int (pv 3)) pe_int) (pg_sub (pe_ix ix_list (pv 1) (pv 8) (fun _ _ => rfl)) (pv 9) set_list))
        (pss_cons (ps_expr (pe_bm PySem.F.plainAttrs_list PySem.F.slot_list_append PySem.F.type_list_append mt_append (pv 1) (pa_cons (pe_lst (pa_cons (pe_op op_add (pe_op op_mul pe_int (pv 7)) pe_int) (pa_cons (pe_op op_mul pe_int (pv 3)) pa_nil))) pa_nil)))
        (pss_cons (ps_asg (pe_tup (pa_cons (pe_ix ix_tup (pe_ix ix_list (pv 0) (pv 7) (fun _ _ => rfl)) pe_int (fun _ _ => rfl)) (pa_cons (pe_op op_sub (pe_callB call_len_seq (by rfl) ml bt_len (pa_cons (pv 1) pa_nil)) pe_int) (pa_cons (pe_ix ix_tup (pe_ix ix_list (pv 0) (pv 7) (fun _ _ => rfl)) pe_int (fun _ _ => rfl)) pa_nil)))) (pg_sub (pv 0) (pv 7) set_list))
        (pss_one (ps_expr (pe_bm PySem.F.plainAttrs_list PySem.F.slot_list_append PySem.F.type_list_append mt_append (pv 0) (pa_cons (pe_tup (pa_cons (pe_op op_sub (pe_callB call_len_seq (by rfl) ml bt_len (pa_cons (pv 1) pa_nil)) pe_int) (pa_cons (pv 8) (pa_cons (pv 6) pa_nil)))) pa_nil)))))))))
        (pss_cons (ps_set (i := 10) scGr.nd rfl (Or.inl rfl) (pv 5))
        (pss_cons (ps_for PassesOwn.never rfl (pi_range1 (by rfl) mr (pa_cons (pe_op op_mod (pe_op op_fdiv (pv 2) pe_int) pe_int) pa_nil)) (pg_name (i := 11) scGr.nd rfl (Or.inl rfl))
          (pss_one (ps_set (i := 10) scGr.nd rfl (Or.inl rfl) (pe_call G4 hr (by rfl) m4 k4 b4 .nil pass0 (pa_cons (pv 1) (pa_cons (pv 10) pa_nil))))))
        (pss_cons (ps_set (i := 8) scGr.nd rfl (Or.inl rfl) (pe_call G2 hr (by rfl) m2 k2 b2 .nil pass0 (pa_cons (pv 1) (pa_cons (pv 5) (pa_cons (pe_op op_mul pe_int (pv 3)) pa_nil)))))
        (pss_one (ps_expr (pe_bm PySem.F.plainAttrs_list PySem.F.slot_list_append PySem.F.type_list_append mt_append (pv 0) (pa_cons (pe_tup (pa_cons (pv 8) (pa_cons (pe_call G2 hr (by rfl) m2 k2 b2 .nil pass0 (pa_cons (pv 1) (pa_cons (pv 10) (pa_cons (pe_op op_add (pe_op op_mul pe_int (pv 3)) pe_int) pa_nil)))) (pa_cons (pv 6) pa_nil)))) pa_nil)))))))))))))), ?_⟩
  have lc : cs.length = rs.length := M.rr.1
  have lb : bs.length = ts.length := M.tm.rows.1
  have few := gi.few
  have two := gi.two
  have c1 : ((cs.map V.ref).length : Int) = (rs.length : Int) := by rw [List.length_map, lc]
  refine ⟨_, rfl, R, _, rfl, .inl (SqL.of M.r1), ?_⟩
  rw [c1]
  have mp : (0 : Int) < 2 * (rs.length : Int) + 2 := by omega
  refine ⟨_, rfl, _, _, rfl, rfl, (show (0 : Int) < 8 by decide), _, rfl, _, _, rfl, rfl, ⟨by decide, by decide⟩, _, rfl, _, _, rfl, rfl, .inl ⟨by decide, by decide⟩, _, _, rfl, rfl, _, _, rfl, rfl, mp, _, _, rfl, rfl, ?_⟩
  have en0 := Int.emod_nonneg (z / 8) (show (2 * (rs.length : Int) + 2) ≠ 0 by omega)
  have en1 := Int.emod_lt_of_pos (z / 8) mp
  dsimp only
  generalize hE : z / 8 % (2 * (rs.length : Int) + 2) - 2 = en
  have en2 : -2 ≤ en := by omega
  have en3 : en < 2 * (rs.length : Int) := by omega
  refine ⟨_, rfl, _, _, rfl, rfl, ⟨by decide, by decide⟩, _, rfl, fun e he h0 ea hea => ?_⟩
  have s1 := same_new hea (.tup [.int e.num, .int e.den])
  have fe : FrR (upd H ea (.tup [.int e.num, .int e.den])) ea e := upd_same
  have M1 := M.keep s1
  have s01 := s0.trans s1
  generalize upd H ea (.tup [.int e.num, .int e.den]) = H1 at s1 fe M1 s01
  have nfr : ∀ {H' : Hp} {l : Addr}, Same H0 H' → H' l = none → H0 l = none := fun s h => s.free h
  have fk : ∀ {H' : Hp} {b : Addr} {ys : List V} {o : HO}, FrR H' ea e → H' b = some (.lst ys) → FrR (upd H' b o) ea e := fun h hb => mo_fr (del_up _ _ _) (FrR.del h hb)
  have mul2 : ∀ x : Int, CMul 2 x := fun x => .inl ⟨by decide, by decide⟩
  have tl : ∀ t ∈ ts, t.length ≤ 1000 := fun t ht => by have := gi.lens t ht; omega
  refine ⟨_, rfl, _, _, rfl, rfl, _, rfl, ?_⟩
  refine ite2 (fun _ => ?_) (fun _ => ?_)
  · -- hung up
    refine ⟨_, rfl, .inl ⟨rfl, _, SqL.of M1.tm.h1⟩, _, rfl, _, _, rfl, rfl, mul2 _, _, _, rfl, rfl, by show 1 ≤ sizeLine; decide, fun l hl => ?_⟩
    have nl := nfr s01 hl
    have sl := same_new hl (.lst [.int (2 * (rs.length : Int) + 1)])
    refine ⟨T, bs.map V.ref, .ref l, rfl, rfl, sl _ _ M1.tm.h1, by rw [List.length_map]; exact szl (by omega), ?_⟩
    have M2 := M1.more (u := [2 * (rs.length : Int) + 1]) hl
    have f2 := fk (o := .lst (bs.map V.ref ++ [.ref l])) (sl _ _ fe) (sl _ _ M1.tm.h1)
    have s02 := same_up (s01.trans sl) nT (.lst (bs.map V.ref ++ [.ref l]))
    change NetM (upd (upd H1 l (.lst [.int (2 * (rs.length : Int) + 1)])) T (.lst (bs.map V.ref ++ [.ref l]))) R T cs (bs ++ [l]) (ts ++ [[2 * (rs.length : Int) + 1]]) rs at M2
    generalize upd (upd H1 l (.lst [.int (2 * (rs.length : Int) + 1)])) T (.lst (bs.map V.ref ++ [.ref l])) = H2 at M2 f2 s02
    have nb2 : ∀ x ∈ bs ++ [l], H0 x = none := fun x hx => by
      rcases List.mem_append.mp hx with w | w
      · exact nb x w
      · rw [List.mem_singleton.mp w]; exact nl
    have tsl : (ts ++ [[2 * (rs.length : Int) + 1]]).length = ts.length + 1 := by rw [List.length_append]; rfl
    refine ⟨_, rfl, .inl ⟨rfl, _, SqL.of M2.r1⟩, _, rfl, _, rfl, _, rfl, _, _, rfl, rfl, mul2 _, T, bs ++ [l], ts ++ [[2 * (rs.length : Int) + 1]], en, _, rfl, M2.tm, by omega, by omega, app_all tl (by simp), app_all gi.ne (by simp), fun H3 place at_ b t s3 sp hb ht => ?_⟩
    have hpt : ts[place]? = some t := by
      rcases Nat.lt_or_ge place ts.length with w | w
      · rwa [List.getElem?_append_left w] at ht
      · exfalso
        rcases sp with ⟨u, h1, h2⟩ | ⟨_, h1, _⟩
        · have : place = ts.length := by have := (List.getElem?_eq_some_iff.mp h1).1; omega
          subst this
          rw [List.getElem?_concat_length] at h1
          cases h1
          have h3 := List.mem_of_getElem? h2
          rw [List.mem_singleton] at h3
          have := xor_lt en2 en3 m20
          omega
        · omega
    have M3 := (M2.keep s3).turn (t := insL t at_ (2 * (rs.length : Int))) hb
    have bm : b ∈ bs ++ [l] := List.mem_of_getElem? hb
    have hB : H3 b = some (.lst (t.map V.int)) := s3 _ _ (M2.tm.rows.2 place b t hb ht)
    have f3 := fk (o := .lst ((insL t at_ (2 * (rs.length : Int))).map V.int)) (s3 _ _ f2) hB
    have s03 := same_up (s02.trans s3) (nb2 b bm) (.lst ((insL t at_ (2 * (rs.length : Int))).map V.int))
    generalize upd H3 b (.lst ((insL t at_ (2 * (rs.length : Int))).map V.int)) = H4 at M3 f3 s03
    have eL : ((((bs ++ [l]).map V.ref).length : Nat) : Int) - 1 = (ts.length : Int) := by rw [List.length_map, List.length_append, lb, List.length_singleton]; omega
    refine ⟨_, rfl, T, _, rfl, .inl (SqL.of M3.tm.h1), _, _, rfl, rfl, _, rfl, by show 3 ≤ sizeLine; decide, fun p hp => ?_⟩
    dsimp only
    rw [eL]
    have sp4 := same_new hp (.tup [.int ((place : Nat) : Int), .int ((ts.length : Nat) : Int), .ref ea])
    have M4 := M3.keep sp4
    have rp : RopeR (upd H4 p (.tup [.int ((place : Nat) : Int), .int ((ts.length : Nat) : Int), .ref ea])) p (place, ts.length, e) := ⟨ea, upd_same, sp4 _ _ f3⟩
    have s04 := s03.trans sp4
    generalize upd H4 p (.tup [.int ((place : Nat) : Int), .int ((ts.length : Nat) : Int), .ref ea]) = H5 at sp4 M4 rp s04
    refine ⟨R, cs.map V.ref, .ref p, rfl, rfl, M4.r1, by rw [List.length_map]; exact szl (by omega), ?_⟩
    have M5 := M4.ropes (M4.rr.snoc rp)
    rw [List.map_append] at M5
    exact q _ _ _ _ _ (same_up s04 nR _) M5 (gi.hung hpt he h0) (len_snoc _ _) nb2
  · refine ⟨_, rfl, _, _, rfl, rfl, _, rfl, ?_⟩
    refine ite2 (fun _ => ?_) (fun _ => ?_)
    · -- parted
      have mpos : (0 : Int) < (rs.length : Int) := by omega
      refine ⟨_, rfl, _, _, rfl, rfl, ⟨by decide, by decide⟩, _, rfl, _, _, rfl, rfl, mpos, ?_⟩
      have k0 := Int.emod_nonneg (z / 8) (show (rs.length : Int) ≠ 0 by omega)
      have k1 := Int.emod_lt_of_pos (z / 8) mpos
      dsimp only
      generalize z / 8 % (rs.length : Int) = kz at k0 k1 ⊢
      obtain ⟨k, rfl⟩ := Int.eq_ofNat_of_zero_le k0
      have lk : k < rs.length := by omega
      have hk : rs[k]? = some rs[k] := List.getElem?_eq_getElem lk
      generalize rs[k] = r at hk
      refine ⟨_, rfl, _, rfl, _, _, rfl, rfl, mul2 _, _, _, rfl, rfl, T, bs, ts, _, rfl, M1.tm, by omega, tl, fun p2 H2 place at_ s2 sp hp2 => ?_⟩
      have yes : inT ts r.2.1 (2 * (k : Int) + 1) := (gi.odd k r hk r.2.1).mpr rfl
      obtain ⟨t, ht, hat⟩ : ∃ t, ts[place]? = some t ∧ t[at_]? = some (2 * (k : Int) + 1) := by
        rcases sp with w | ⟨w, _⟩
        · exact w
        · obtain ⟨u, hu, hm⟩ := yes
          exact absurd hm (w u (List.mem_of_getElem? hu))
      have ep : place = r.2.1 := (gi.odd k r hk place).mp ⟨t, ht, List.mem_of_getElem? hat⟩
      subst ep
      have M2 := M1.keep s2
      obtain ⟨b, hb, hB⟩ := M2.tm.rows.get ht
      have la : at_ < t.length := (List.getElem?_eq_some_iff.mp hat).1
      refine ⟨p2, _, rfl, SqT.of hp2, rfl, _, _, rfl, _, _, rfl, rfl, ?_⟩
      refine ⟨_, rfl, _, _, rfl, rfl, mul2 _, _, _, rfl, rfl, _, rfl, _, rfl, T, _, _, _, rfl, rfl, SqL.of M2.tm.h1, atI_nat (ref_at hb), _, rfl, b, _, _, _, rfl, rfl, hB, ixN_nat (by rw [List.length_map]; exact la), ?_⟩
      have em : (t.map V.int).set at_ (V.int (2 * (rs.length : Int) + 1)) = (t.set at_ (2 * (rs.length : Int) + 1)).map V.int := by rw [List.map_set]
      rw [em]
      have s02 := s01.trans s2
      have M3 := M2.turn (t := t.set at_ (2 * (rs.length : Int) + 1)) hb
      have f3 := fk (o := .lst ((t.set at_ (2 * (rs.length : Int) + 1)).map V.int)) (s2 _ _ fe) hB
      have s03 := same_up s02 (nb b (List.mem_of_getElem? hb)) (.lst ((t.set at_ (2 * (rs.length : Int) + 1)).map V.int))
      generalize upd H2 b (.lst ((t.set at_ (2 * (rs.length : Int) + 1)).map V.int)) = H3 at M3 f3 s03
      refine ⟨_, rfl, .inl ⟨rfl, _, SqL.of M3.tm.h1⟩, _, rfl, _, _, rfl, rfl, mul2 _, _, _, rfl, rfl, _, rfl, _, _, rfl, rfl, mul2 _, by show 2 ≤ sizeLine; decide, fun l hl => ?_⟩
      have nl := nfr s03 hl
      have sl := same_new hl (.lst [.int (2 * (k : Int) + 1), .int (2 * (rs.length : Int))])
      refine ⟨T, bs.map V.ref, .ref l, rfl, rfl, sl _ _ M3.tm.h1, by rw [List.length_map]; exact szl (by omega), ?_⟩
      have M4 := M3.more (u := [2 * (k : Int) + 1, 2 * (rs.length : Int)]) hl
      have f4 := fk (o := .lst (bs.map V.ref ++ [.ref l])) (sl _ _ f3) (sl _ _ M3.tm.h1)
      have s04 := same_up (s03.trans sl) nT (.lst (bs.map V.ref ++ [.ref l]))
      change NetM (upd (upd H3 l (.lst [.int (2 * (k : Int) + 1), .int (2 * (rs.length : Int))])) T (.lst (bs.map V.ref ++ [.ref l]))) R T cs (bs ++ [l]) (ts.set r.2.1 (t.set at_ (2 * (rs.length : Int) + 1)) ++ [[2 * (k : Int) + 1, 2 * (rs.length : Int)]]) rs at M4
      generalize upd (upd H3 l (.lst [.int (2 * (k : Int) + 1), .int (2 * (rs.length : Int))])) T (.lst (bs.map V.ref ++ [.ref l])) = H4 at M4 f4 s04
      have nb2 : ∀ x ∈ bs ++ [l], H0 x = none := fun x hx => by
        rcases List.mem_append.mp hx with w | w
        · exact nb x w
        · rw [List.mem_singleton.mp w]; exact nl
      obtain ⟨c, hc, re, hc1, hc2⟩ := M4.rr.get hk
      have eL : ((((bs ++ [l]).map V.ref).length : Nat) : Int) - 1 = (ts.length : Int) := by rw [List.length_map, List.length_append, lb, List.length_singleton]; omega
      refine ⟨_, rfl, _, rfl, R, _, _, _, rfl, rfl, SqL.of M4.r1, atI_nat (ref_at hc), c, _, _, _, rfl, rfl, SqT.of hc1, t3_0 _ _ _, _, rfl, T, _, rfl, .inl (SqL.of M4.tm.h1), _, _, rfl, rfl, _, rfl, _, rfl, R, _, _, _, rfl, rfl, SqL.of M4.r1, atI_nat (ref_at hc), c, _, _, _, rfl, rfl, SqT.of hc1, t3_2 _ _ _, by show 3 ≤ sizeLine; decide, fun p hp => ?_⟩
      dsimp only
      rw [eL]
      have sp5 := same_new hp (.tup [.int ((r.1 : Nat) : Int), .int ((ts.length : Nat) : Int), .ref re])
      have M5 := M4.keep sp5
      have rp : RopeR (upd H4 p (.tup [.int ((r.1 : Nat) : Int), .int ((ts.length : Nat) : Int), .ref re])) p (r.1, ts.length, r.2.2) := ⟨re, upd_same, sp5 _ _ hc2⟩
      have s05 := s04.trans sp5
      have f5 := sp5 _ _ f4
      generalize upd H4 p (.tup [.int ((r.1 : Nat) : Int), .int ((ts.length : Nat) : Int), .ref re]) = H5 at sp5 M5 rp s05 f5
      refine ⟨_, rfl, _, rfl, R, _, _, _, rfl, rfl, M5.r1, ixN_nat (by rw [List.length_map, lc]; exact lk), ?_⟩
      have es : (cs.map V.ref).set k (V.ref p) = (cs.set k p).map V.ref := by rw [List.map_set]
      rw [es]
      have M6 := M5.ropes (M5.rr.set k rp)
      have f6 := fk (o := .lst ((cs.set k p).map V.ref)) f5 M5.r1
      have s06 := same_up s05 nR (.lst ((cs.set k p).map V.ref))
      generalize upd H5 R (.lst ((cs.set k p).map V.ref)) = H6 at M6 f6 s06
      refine ⟨_, rfl, .inl ⟨rfl, _, SqL.of M6.r1⟩, _, rfl, T, _, rfl, .inl (SqL.of M6.tm.h1), _, _, rfl, rfl, _, rfl, _, rfl, by show 3 ≤ sizeLine; decide, fun p7 hp7 => ?_⟩
      dsimp only
      rw [eL]
      have sp7 := same_new hp7 (.tup [.int ((ts.length : Nat) : Int), .int ((r.2.1 : Nat) : Int), .ref ea])
      have M7 := M6.keep sp7
      have rp7 : RopeR (upd H6 p7 (.tup [.int ((ts.length : Nat) : Int), .int ((r.2.1 : Nat) : Int), .ref ea])) p7 (ts.length, r.2.1, e) := ⟨ea, upd_same, sp7 _ _ f6⟩
      have s07 := s06.trans sp7
      generalize upd H6 p7 (.tup [.int ((ts.length : Nat) : Int), .int ((r.2.1 : Nat) : Int), .ref ea]) = H7 at sp7 M7 rp7 s07
      refine ⟨R, (cs.set k p).map V.ref, .ref p7, rfl, rfl, M7.r1, by rw [List.length_map, List.length_set]; exact szl (by omega), ?_⟩
      have M8 := M7.ropes (M7.rr.snoc rp7)
      rw [List.map_append] at M8
      exact q _ _ _ _ _ (same_up s07 nR _) M8 (gi.part hk ht hat he h0) (by rw [len_snoc, List.length_set]) nb2
    · -- a rope through a land
      refine ⟨_, rfl, _, rfl, _, _, rfl, rfl, ⟨by decide, by decide⟩, _, _, rfl, rfl, (show (0 : Int) < 8 by decide), ?_⟩
      have k0 := Int.emod_nonneg (z / 128) (show (8 : Int) ≠ 0 by decide)
      have k1 := Int.emod_lt_of_pos (z / 128) (show (0 : Int) < 8 by decide)
      refine ⟨_, rfl, by omega, by omega, ?_⟩
      refine for_range (fun i σ H2 => Same H1 H2 ∧ ∃ v u, σ = [some (.ref R), some (.ref T), some (.int z), some (.int (rs.length : Int)), some (.int (z % 8)), some (.int en), some (.ref ea), none, none, none, some (.int v), u]) ⟨Same.refl _, en, none, rfl⟩ ?_ ?_
      · rintro i σ H2 hi ⟨s2, v, u, rfl⟩
        exact ⟨_, rfl, _, rfl, T, bs, ts, v, rfl, M1.tm.keep s2, by omega, by omega, tl, gi.ne, fun H3 v' s3 => ⟨s2.trans s3, v', _, rfl⟩⟩
      · rintro σ H2 ⟨s2, v, u, rfl⟩
        have M2 := M1.keep s2
        have f2 := s2 _ _ fe
        have s02 := s01.trans s2
        refine ⟨_, rfl, _, rfl, _, rfl, _, _, rfl, rfl, mul2 _, T, bs, ts, en, _, rfl, M2.tm, by omega, by omega, tl, gi.ne, fun H3 place at_ b t s3 sp hb ht => ?_⟩
        have M3 := (M2.keep s3).turn (t := insL t at_ (2 * (rs.length : Int))) hb
        have hB : H3 b = some (.lst (t.map V.int)) := s3 _ _ (M2.tm.rows.2 place b t hb ht)
        have f3 := fk (o := .lst ((insL t at_ (2 * (rs.length : Int))).map V.int)) (s3 _ _ f2) hB
        have s03 := same_up (s02.trans s3) (nb b (List.mem_of_getElem? hb)) (.lst ((insL t at_ (2 * (rs.length : Int))).map V.int))
        generalize upd H3 b (.lst ((insL t at_ (2 * (rs.length : Int))).map V.int)) = H4 at M3 f3 s03
        have tm := List.mem_of_getElem? ht
        have tl3 : ∀ u ∈ ts.set place (insL t at_ (2 * (rs.length : Int))), u.length ≤ 1000 := set_all tl (by rw [insL_len]; have := gi.lens t tm; omega)
        have ne3 : ∀ u ∈ ts.set place (insL t at_ (2 * (rs.length : Int))), u ≠ [] := set_all gi.ne (fun z => by have := congrArg List.length z; rw [insL_len] at this; simp at this)
        refine ⟨_, rfl, .inl ⟨rfl, _, SqL.of M3.r1⟩, _, rfl, _, rfl, _, rfl, _, rfl, _, _, rfl, rfl, mul2 _, _, _, rfl, rfl, T, bs, ts.set place (insL t at_ (2 * (rs.length : Int))), v, _, rfl, M3.tm, by rw [List.length_set]; omega, by rw [List.length_set]; omega, tl3, ne3, fun H5 place2 at2 b2 t2 s5 sp2 hb2 ht2 => ?_⟩
        have M5 := (M3.keep s5).turn (t := insL t2 at2 (2 * (rs.length : Int) + 1)) hb2
        have hB2 : H5 b2 = some (.lst (t2.map V.int)) := s5 _ _ (M3.tm.rows.2 place2 b2 t2 hb2 ht2)
        have f5 := fk (o := .lst ((insL t2 at2 (2 * (rs.length : Int) + 1)).map V.int)) (s5 _ _ f3) hB2
        have s05 := same_up (s03.trans s5) (nb b2 (List.mem_of_getElem? hb2)) (.lst ((insL t2 at2 (2 * (rs.length : Int) + 1)).map V.int))
        generalize upd H5 b2 (.lst ((insL t2 at2 (2 * (rs.length : Int) + 1)).map V.int)) = H6 at M5 f5 s05
        refine ⟨_, rfl, by show 3 ≤ sizeLine; decide, fun p hp => ?_⟩
        have sp7 := same_new hp (.tup [.int ((place : Nat) : Int), .int ((place2 : Nat) : Int), .ref ea])
        have M7 := M5.keep sp7
        have rp : RopeR (upd H6 p (.tup [.int ((place : Nat) : Int), .int ((place2 : Nat) : Int), .ref ea])) p (place, place2, e) := ⟨ea, upd_same, sp7 _ _ f5⟩
        have s07 := s05.trans sp7
        generalize upd H6 p (.tup [.int ((place : Nat) : Int), .int ((place2 : Nat) : Int), .ref ea]) = H7 at sp7 M7 rp s07
        refine ⟨R, cs.map V.ref, .ref p, rfl, rfl, M7.r1, by rw [List.length_map]; exact szl (by omega), ?_⟩
        have M8 := M7.ropes (M7.rr.snoc rp)
        rw [List.map_append] at M8
        exact q _ _ _ _ _ (same_up s07 nR _) M8 (gi.chord ht ht2 he h0) (len_snoc _ _) nb
end
end My
/-! the drawn net -/
namespace My
open PySem L2 Mth Wd
theorem TurnsM.far {H : Hp} {T D : Addr} {bs : List Addr} {ts : List (List Int)} {o : HO} (M : TurnsM H T bs ts) (h : D ∉ T :: bs) : TurnsM (upd H D o) T bs ts := by
  refine ⟨by rw [upd_ne (fun z => h (by rw [z]; exact List.mem_cons_self))]; exact M.h1, ⟨M.rows.1, fun i b x q1 q2 => ?_⟩, M.nd⟩
  have := M.rows.2 i b x q1 q2
  unfold IntsL at this ⊢
  rw [upd_ne (fun z => h (by rw [← z]; exact List.mem_cons_of_mem _ (List.mem_of_getElem? q1)))]; exact this
theorem NetM.far {H : Hp} {R T D : Addr} {cs bs : List Addr} {ts : List (List Int)} {rs : List Rope} {ys : List V} {o : HO} (M : NetM H R T cs bs ts rs) (hD : H D = some (.lst ys)) (h : D ∉ T :: bs) (hR : R ≠ D) : NetM (upd H D o) R T cs bs ts rs :=
  ⟨M.tm.far h, by rw [upd_ne hR]; exact M.r1, ropes_upd hD M.rr, M.rn⟩
theorem NetM.mem {H : Hp} {R T l : Addr} {cs bs : List Addr} {ts : List (List Int)} {rs : List Rope} (M : NetM H R T cs bs ts rs) (hl : H l = none) : l ∉ T :: bs ∧ R ≠ l := by
  refine ⟨fun z => ?_, fun z => by rw [← z, M.r1] at hl; cases hl⟩
  rcases List.mem_cons.mp z with w | w
  · rw [w, M.tm.h1] at hl; cases hl
  · obtain ⟨k, hk, ek⟩ := List.getElem_of_mem w
    have hl2 : k < ts.length := by rw [← M.tm.rows.1]; exact hk
    have := M.tm.rows.2 k l ts[k] (by rw [List.getElem?_eq_getElem hk, ek]) (List.getElem?_eq_getElem hl2)
    unfold IntsL at this
    rw [hl] at this; cases this
section
variable {P : Program} {w : World} {K : PySem.W.Frag} {mg : Str → Option Value} {base : Heap} {f g h f1 f2 f3 f4 : Addr} {fd gd hd d1 d2 d3 d4 : FuncData}
def spNet : Sp := fun vs H Q _ => ∃ (a : Addr) (zs : List Int) (z : Int), vs = [.ref a, .int z] ∧ H a = some (.lst (zs.map V.int)) ∧ zs.length ≤ 13 ∧ (∀ x ∈ zs, 0 ≤ x) ∧
  ∀ p H' n rs, Same H H' → NetR H' p n rs → NetJ n (zs.length + 1) rs → Q (.ref p) H'
theorem scNt : FnScope ["_law_cells", "_law_first", "_law_ropes", "_law_turns", "_law_cell_here", "_law_made", "_law_turn"] ["_law_cells", "_law_first"] (defScope sNet) := ⟨rfl, rfl, rfl, by decide +kernel, rfl, by decide +kernel, by decide +kernel⟩
theorem ndER : (["_law_end", "_law_ropes"] : List Str).Nodup := by decide +kernel
def rLenS (K : PySem.W.Frag) : List V → Hp → VK → Prop := fun xs H Q => ∃ p ys, xs = [.ref p] ∧ (SqL K H p ys ∨ SqT K H p ys) ∧ Q (.int ys.length) H
set_option maxHeartbeats 4000000 in
seal L2.PSs L2.PS L2.PE L2.PA in
theorem ok_net (F : Fun K "_law_net" "_law_net" sNet f fd) (G1 : FnOk P w K mg base CX0 2 f1 d1 ["_law_cell_here"] spEase) (b1 : Binds K d1 ["_law_cell_here"] []) (k1 : PySem.W.keepIn K (.ref f1) = true) (m1 : mg "_law_ease" = some (.ref f1))
    (G2 : FnOk P w K mg base CX0 3 f2 d2 ["_law_ropes", "_law_turns", "_law_cell_here"] spGrow) (b2 : Binds K d2 ["_law_ropes", "_law_turns", "_law_cell_here"] []) (k2 : PySem.W.keepIn K (.ref f2) = true) (m2 : mg "_law_grow" = some (.ref f2)) (ml : mg "len" = none) (mt : mg "tuple" = none) :
    FnOk P w K mg base CX0 4 f fd ["_law_cells", "_law_first"] spNet := by
  refine F.ok scNt (fun vs H Q E h => ?_) (fun cdv A outer s H vs Q E hr h => ?_)
  · obtain ⟨a, zs, z, rfl, _⟩ := h
    rfl
  obtain ⟨a, zs, z, rfl, ha, hz, hz0, q⟩ := h
  have hr2 := hr.mono (show 2 ≤ 3 by decide)
  refine ⟨_, pss_cons (ps_set (i := 2) scNt.nd rfl (Or.inr rfl) (pe_lst (pa_cons (pe_tup (pa_cons pe_int (pa_cons pe_int (pa_cons (pe_call G1 hr2 (by rfl) m1 k1 b1 .nil pass0 (pa_cons (pv 1) pa_nil)) pa_nil)))) pa_nil)))
    (pss_cons (ps_set (i := 3) scNt.nd rfl (Or.inl rfl) (pe_lst (pa_cons (pe_lst (pa_cons pe_int (pa_cons (pe_un un_neg pe_int) pa_nil))) (pa_cons (pe_lst (pa_cons pe_int (pa_cons (pe_un un_neg pe_int) pa_nil))) pa_nil))))
    (pss_cons (ps_for PassesOwn.never rfl (pi_list (pv 0)) (pg_name (i := 4) scNt.nd rfl (Or.inl rfl))
      (pss_one (ps_expr (pe_call G2 hr (by rfl) m2 k2 b2 .nil pass0 (pa_cons (pv 2) (pa_cons (pv 3) (pa_cons (pv 4) pa_nil)))))))
    (pss_cons (ps_set (i := 5) scNt.nd rfl (Or.inl rfl) (pe_lst pa_nil))
    (pss_cons (ps_for PassesOwn.never rfl (pi_list (pv 3)) (pg_name (i := 6) scNt.nd rfl (Or.inl rfl))
      (pss_one (ps_expr (pe_bm PySem.F.plainAttrs_list PySem.F.slot_list_append PySem.F.type_list_append mt_append (pv 5) (pa_cons (pe_callTy call_tuple_of (by rfl) mt bt_tuple (pa_cons (pe_comp (Nc := ["_law_end", "_law_ropes"]) (cap := [(1, 2)]) (g := gName 0)
          (te := tIf (tTest (tOp (rI0 fun i j => .bl (decide (i < j))) (tVar 0) (tC (.int 0)))) (tOp (rI0 fun i j => .int (i + j)) (tOp (rI0 fun i j => .int (i + j)) (tVar 0) (tOp (rI CMul fun i j => .int (i * j)) (tC (.int 2)) (tCB (rLenS K) (tCons (tVar 1) tNil)))) (tC (.int 2))) (tVar 0)) rfl (pi_list (pv 6))
          (comp_mk rfl rfl (by decide +kernel) (by decide +kernel) (List.forall_mem_cons.mpr ⟨⟨rfl, rfl⟩, List.forall_mem_nil _⟩) rfl (List.forall_mem_cons.mpr ⟨⟨_, _, rfl, rfl, rfl, rfl, rfl⟩, List.forall_mem_nil _⟩)) (fun C fp pins s' H' => pg_name (i := 0) ndER rfl (Or.inl rfl))
          (fun C fp pins s' H' => pe_ifExp (pt_cmpR op_lt (pv 0) pe_int (nomark _)) (pe_op op_add (pe_op op_add (pv 0) (pe_op op_mul pe_int (pe_callB call_len_seq (by rfl) ml bt_len (pa_cons (pv 1) pa_nil)))) pe_int) (pv 0))) pa_nil)) pa_nil)))))
    (pss_one (ps_ret (pe_tup (pa_cons (pe_callB call_len_seq (by rfl) ml bt_len (pa_cons (pv 3) pa_nil)) (pa_cons (pe_callTy call_tuple_of (by rfl) mt bt_tuple (pa_cons (pv 2) pa_nil)) (pa_cons (pe_callTy call_tuple_of (by rfl) mt bt_tuple (pa_cons (pv 5) pa_nil)) pa_nil)))))))))), ?_⟩
  have mul2 : ∀ x : Int, CMul 2 x := fun x => .inl ⟨by decide, by decide⟩
  -- the first rope
  refine ⟨_, rfl, _, rfl, fun e he h0 ea hea => ⟨by show 3 ≤ sizeLine; decide, fun p1 hp1 => ⟨by show 1 ≤ sizeLine; decide, fun R hR => ?_⟩⟩⟩
  have t1 := same_new hea (.tup [.int e.num, .int e.den])
  have e1 : FrR (upd H ea (.tup [.int e.num, .int e.den])) ea e := upd_same
  generalize upd H ea (.tup [.int e.num, .int e.den]) = H1 at t1 e1 hp1 hR
  have t2 := same_new hp1 (.tup [.int 0, .int 1, .ref ea])
  have e2 : RopeR (upd H1 p1 (.tup [.int 0, .int 1, .ref ea])) p1 (0, 1, e) := ⟨ea, upd_same, t2 _ _ e1⟩
  generalize upd H1 p1 (.tup [.int 0, .int 1, .ref ea]) = H2 at t2 e2 hR
  have t3 := same_new hR (.lst [.ref p1])
  have e3 : (upd H2 R (.lst [.ref p1])) R = some (.lst [.ref p1]) := upd_same
  have e2' := mo_rope t3 e2
  have nR : H R = none := (t1.trans t2).free hR
  have s3 := (t1.trans t2).trans t3
  generalize upd H2 R (.lst [.ref p1]) = H3 at t3 e3 e2' s3
  -- the first turns
  refine ⟨_, rfl, by show 2 ≤ sizeLine; decide, fun c0 hc0 => ⟨_, rfl, by show 2 ≤ sizeLine; decide, fun c1 hc1 => ⟨by show 2 ≤ sizeLine; decide, fun T hT => ?_⟩⟩⟩
  dsimp only at hc0 hc1 hT ⊢
  have u1 := same_new hc0 (.lst [.int 0, .int (-2)])
  have g1 : IntsL (upd H3 c0 (.lst [.int 0, .int (-2)])) c0 [0, -2] := upd_same
  generalize upd H3 c0 (.lst [.int 0, .int (-2)]) = H4 at u1 g1 hc1 hT
  have u2 := same_new hc1 (.lst [.int 1, .int (-1)])
  have g2 : IntsL (upd H4 c1 (.lst [.int 1, .int (-1)])) c1 [1, -1] := upd_same
  generalize upd H4 c1 (.lst [.int 1, .int (-1)]) = H5 at u2 g2 hT
  have u3 := same_new hT (.lst [.ref c0, .ref c1])
  have g3 : (upd H5 T (.lst [.ref c0, .ref c1])) T = some (.lst [.ref c0, .ref c1]) := upd_same
  generalize upd H5 T (.lst [.ref c0, .ref c1]) = H6 at u3 g3
  have s4 := s3.trans u1
  have s5 := s4.trans u2
  have s6 := s5.trans u3
  have nc0 : H c0 = none := s3.free hc0
  have nc1 : H c1 = none := s4.free hc1
  have nT : H T = none := s5.free hT
  have M0 : NetM H6 R T [p1] [c0, c1] [[0, -2], [1, -1]] [(0, 1, e)] := by
    have k1 : R ≠ c0 := fun z => by rw [← z, e3] at hc0; cases hc0
    have k2 : R ≠ c1 := fun z => by rw [← z, u1 _ _ e3] at hc1; cases hc1
    have k3 : R ≠ T := fun z => by rw [← z, u2 _ _ (u1 _ _ e3)] at hT; cases hT
    have k4 : c0 ≠ c1 := fun z => by rw [← z, show H4 c0 = _ from g1] at hc1; cases hc1
    have k5 : c0 ≠ T := fun z => by rw [← z, u2 _ _ g1] at hT; cases hT
    have k6 : c1 ≠ T := fun z => by rw [← z, show H5 c1 = _ from g2] at hT; cases hT
    refine ⟨⟨g3, At.snoc (bs := [c0]) (xs := [[0, -2]]) (At.snoc (bs := []) (xs := []) At.nil ?_) ?_, ?_⟩, ((u1.trans u2).trans u3) _ _ e3, At.snoc (bs := []) (xs := []) At.nil (mo_rope ((u1.trans u2).trans u3) e2'), ?_⟩
    · exact mo_ints (u2.trans u3) g1
    · exact mo_ints u3 g2
    · simp only [List.nodup_cons, List.mem_cons, List.not_mem_nil, or_false, not_or, List.nodup_nil, and_true, not_false_eq_true]
      exact ⟨⟨fun z => k5 z.symm, fun z => k6 z.symm⟩, k4⟩
    · simp only [List.mem_cons, List.not_mem_nil, or_false, not_or]
      exact ⟨k3, k1, k2⟩
  have ha6 := s6 _ _ ha
  refine ⟨_, rfl, a, rfl, ⟨_, SqL.of ha6⟩, ?_⟩
  refine for_list (xs := zs.map V.int) (fun i σ H2 => Same H H2 ∧ ∃ cs bs ts rs u v w, σ = [some (.ref a), some (.int z), some (.ref R), some (.ref T), u, v, w] ∧ NetM H2 R T cs bs ts rs ∧ Gi ts rs ∧ rs.length = i + 1 ∧ ∀ x ∈ bs, H x = none)
    ⟨s6, _, _, _, _, none, none, none, rfl, M0, Gi.first he h0, rfl, fun x hx => by
      simp only [List.mem_cons, List.not_mem_nil, or_false] at hx
      rcases hx with rfl | rfl
      · exact nc0
      · exact nc1⟩ (fun i σ H2 _ ⟨s, _⟩ => SqL.of (s _ _ ha)) ?_ ?_
  · rintro i x σ H2 hx ⟨s2, cs, bs, ts, rs, u, v, w', rfl, M, gi, hl, nb⟩
    rw [List.getElem?_map] at hx
    obtain ⟨y, hy, rfl⟩ := Option.map_eq_some_iff.mp hx
    have hi : i < zs.length := (List.getElem?_eq_some_iff.mp hy).1
    exact ⟨_, rfl, _, rfl, _, rfl, R, T, cs, bs, ts, rs, y, H, rfl, M, gi, by omega, by omega, hz0 y (List.mem_of_getElem? hy), s2, nR, nT, nb, fun H' cs' bs' ts' rs' sH M' gi' hl' nb' => ⟨sH, cs', bs', ts', rs', _, _, _, rfl, M', gi', by omega, nb'⟩⟩
  rintro σ H7 ⟨s7, cs, bs, ts, rs, u, v, w', rfl, M7, gi, hl, nb⟩
  rw [List.length_map] at hl
  have lb : bs.length = ts.length := M7.tm.rows.1
  have few := gi.few
  have two := gi.two
  refine ⟨by show 0 ≤ sizeLine; decide, fun D hD => ?_⟩
  have sD := same_new hD (.lst [])
  have eD : (upd H7 D (.lst [])) D = some (.lst []) := upd_same
  have nD : H D = none := s7.free hD
  obtain ⟨dm, dR⟩ := M7.mem hD
  have M8 := M7.keep sD
  have s8 := s7.trans sD
  generalize upd H7 D (.lst []) = H8 at sD eD M8 s8
  refine ⟨_, rfl, T, rfl, ⟨_, SqL.of M8.tm.h1⟩, ?_⟩
  refine for_list (xs := bs.map V.ref) (fun i σ H2 => Same H H2 ∧ (∃ u v, σ = [some (.ref a), some (.int z), some (.ref R), some (.ref T), u, some (.ref D), v]) ∧ NetM H2 R T cs bs ts rs ∧ ∃ ys, H2 D = some (.lst ys) ∧ ys.length = i)
    ⟨s8, ⟨_, _, rfl⟩, M8, [], eD, rfl⟩ (fun i σ H2 _ ⟨_, _, M, _⟩ => SqL.of M.tm.h1) ?_ ?_
  · rintro i x σ H2 hx ⟨s2, ⟨u, v, rfl⟩, M, ys, hDy, ly⟩
    obtain ⟨b, t, rfl, _, ht, hB⟩ := M.tm.rows.ref hx
    have hi : i < ts.length := (List.getElem?_eq_some_iff.mp ht).1
    have tl := gi.lens t (List.mem_of_getElem? ht)
    refine ⟨_, rfl, .inl ⟨rfl, _, SqL.of hDy⟩, _, rfl, b, rfl, ⟨_, SqL.of hB⟩, fun acc hacc => ?_⟩
    refine comp_run (run_list hB) (by rw [List.length_map]; omega) hacc (fun i ys σ hp => ∃ u, σ = [u, some (.ref R)]) ⟨none, rfl⟩ ?_ ?_
    · rintro j ys2 σ H3 x H4 hj sm hacc2 ⟨u, rfl⟩ ⟨rfl, hx⟩ Cc hC
      rw [List.getElem?_map] at hx
      obtain ⟨y, hy, rfl⟩ := Option.map_eq_some_iff.mp hx
      refine ⟨_, rfl, _, _, rfl, rfl, _, rfl, ?_⟩
      refine ite2 (fun _ => ?_) (fun _ => ?_)
      · exact ⟨_, rfl, _, rfl, R, _, rfl, .inl (SqL.of (sm _ _ M.r1)), _, _, rfl, rfl, mul2 _, _, _, rfl, rfl, _, _, rfl, rfl, hC _ _ _ (Same.refl _) ⟨_, rfl⟩⟩
      · exact ⟨_, rfl, hC _ _ _ (Same.refl _) ⟨_, rfl⟩⟩
    · rintro ys2 σ H3 s3 ha3 hl3 ⟨u, rfl⟩
      refine ⟨acc, _, rfl, .inl ⟨SqL.of ha3, fun p hp => ?_⟩⟩
      have sp := same_new hp (.tup ys2)
      have s3p := s3.trans sp
      generalize upd H3 p (.tup ys2) = H4 at sp s3p
      refine ⟨D, ys, .ref p, rfl, rfl, s3p _ _ hDy, by rw [ly]; exact szl (by omega), ?_⟩
      exact ⟨same_up (s2.trans s3p) nD _, ⟨_, _, rfl⟩, (M.keep s3p).far (s3p _ _ hDy) dm dR, _, upd_same, by rw [List.length_append, ly]; rfl⟩
  rintro σ H9 ⟨s9, ⟨u, v, rfl⟩, M9, ys, hDy, ly⟩
  refine ⟨_, rfl, T, _, rfl, .inl (SqL.of M9.tm.h1), _, rfl, R, _, rfl, .inl ⟨SqL.of M9.r1, fun r hr' => ?_⟩⟩
  have v1 := same_new hr' (.tup (cs.map V.ref))
  have w1 : TupR RopeR (upd H9 r (.tup (cs.map V.ref))) r rs := ⟨cs, upd_same, M9.rr.keep mo_rope v1⟩
  generalize upd H9 r (.tup (cs.map V.ref)) = H10 at v1 w1
  refine ⟨_, rfl, D, _, rfl, .inl ⟨SqL.of (v1 _ _ hDy), fun md hmd => ?_⟩⟩
  have v2 := same_new hmd (.tup ys)
  generalize upd H10 md (.tup ys) = H11 at v2
  refine ⟨by show 3 ≤ sizeLine; decide, fun p hp => ?_⟩
  have v3 := same_new hp (.tup [.int ((bs.map V.ref).length : Int), .ref r, .ref md])
  refine q p _ ts.length rs (s9.trans (v1.trans (v2.trans v3))) ⟨r, .ref md, ?_, mo_tup (R := RopeR) (fun s h => mo_rope s h) (v2.trans v3) w1⟩ (hl ▸ gi_netJ gi)
  rw [upd_same, List.length_map, lb]
end
end My
/-! some net: of k17 -/
namespace My
open PySem L2 Mth Wd
section
variable {P : Program} {w : World} {K : PySem.W.Frag} {mg : Str → Option Value} {base : Heap} {f g h f1 f2 f3 f4 : Addr} {fd gd hd d1 d2 d3 d4 : FuncData}
def spSome (K : PySem.W.Frag) : Sp := fun vs H Q _ => ∃ (a b : Addr) (ns ms : List Int) (M at_ : Nat), vs = [.ref a, .int (at_ : Int), .ref b] ∧ at_ ≤ 1000 ∧ ScA K H a ns ∧ H b = some (.lst (ms.map V.int)) ∧ 0 < ms.length ∧ ms.length ≤ 100 ∧ M ≤ 14 ∧ (∀ m ∈ ms, 0 ≤ m ∧ m + 1 ≤ (M : Int)) ∧
  ∀ p H' n m rs, Same H H' → NetR H' p n rs → NetJ n m rs → m ≤ M → Q (.ref p) H'
theorem scSn : FnScope ["_law_script", "_law_at", "_law_sizes", "_law_many", "_law_cells"] ["_law_script", "_law_at", "_law_sizes"] (defScope sSomeNet) := ⟨rfl, rfl, rfl, by decide +kernel, rfl, by decide +kernel, by decide +kernel⟩
theorem ndKS : (["_law_k", "_law_script"] : List Str).Nodup := by decide +kernel
set_option maxHeartbeats 4000000 in
theorem ok_some (F : Fun K "_law_some_net" "_law_some_net" sSomeNet f fd) (G1 : FnOk P w K mg base CX0 1 f1 d1 ["_law_script", "_law_k"] (spCell K)) (b1 : Binds K d1 ["_law_script", "_law_k"] []) (k1 : PySem.W.keepIn K (.ref f1) = true) (m1 : mg "_law_cell" = some (.ref f1))
    (G2 : FnOk P w K mg base CX0 4 f2 d2 ["_law_cells", "_law_first"] spNet) (b2 : Binds K d2 ["_law_cells", "_law_first"] []) (k2 : PySem.W.keepIn K (.ref f2) = true) (m2 : mg "_law_net" = some (.ref f2)) (ml : mg "len" = none) (mn : mg "min" = none) (mr : mg "range" = none) :
    FnOk P w K mg base CX0 5 f fd ["_law_script", "_law_at", "_law_sizes"] (spSome K) := by
  refine F.ok scSn (fun vs H Q E h => ?_) (fun cdv A outer s H vs Q E hr h => ?_)
  · obtain ⟨a, b, ns, ms, M, at_, rfl, _⟩ := h
    rfl
  obtain ⟨a, b, ns, ms, M, at_, rfl, ha1, hS, hb, l0, l1, hM, hm, q⟩ := h
  have hr1 := hr.mono (show 1 ≤ 4 by decide)
  refine ⟨_, pss_cons (ps_set (i := 3) scSn.nd rfl (Or.inl rfl) (pe_ix ix_list (pv 2) (pe_op op_mod (pe_call G1 hr1 (by rfl) m1 k1 b1 .nil pass0 (pa_cons (pv 0) (pa_cons (pv 1) pa_nil))) (pe_callB call_len_seq (by rfl) ml bt_len (pa_cons (pv 2) pa_nil))) (fun _ _ => rfl)))
    (pss_cons (ps_setComp (i := 4) scSn.nd rfl (Or.inl rfl) (Nc := ["_law_k", "_law_script"]) (cap := [(1, 0)]) (g := gName 0) (te := tCall (spCell K) [] E0 (tCons (tVar 1) (tCons (tVar 0) tNil))) rfl
        (pi_range2 (by rfl) mr (pa_cons (pe_op op_add (pv 1) pe_int) (pa_cons (pe_callB (call_min2 rfl) (by rfl) mn bt_min (pa_cons (pe_callB call_len_seq (by rfl) ml bt_len (pa_cons (pv 0) pa_nil)) (pa_cons (pe_op op_add (pe_op op_add (pv 1) pe_int) (pv 3)) pa_nil))) pa_nil)))
        (comp_mk rfl rfl (by decide +kernel) (by decide +kernel) (List.forall_mem_cons.mpr ⟨⟨rfl, rfl⟩, List.forall_mem_nil _⟩) rfl (List.forall_mem_cons.mpr ⟨⟨_, _, rfl, rfl, rfl, rfl, rfl⟩, List.forall_mem_nil _⟩))
        (fun C fp pins s' H' => pg_name (i := 0) ndKS rfl (Or.inl rfl)) (fun C fp pins s' H' => pe_call G1 hr1 (by rfl) m1 k1 b1 .nil pass0 (pa_cons (pv 1) (pa_cons (pv 0) pa_nil))))
    (pss_one (ps_ret (pe_call G2 hr (by rfl) m2 k2 b2 .nil pass0 (pa_cons (pv 4) (pa_cons (pe_call G1 hr1 (by rfl) m1 k1 b1 .nil pass0 (pa_cons (pv 0) (pa_cons (pe_op op_add (pv 1) pe_int) pa_nil))) pa_nil)))))), ?_⟩
  have lpos : (0 : Int) < ((ms.map V.int).length : Int) := by rw [List.length_map]; omega
  refine ⟨_, rfl, _, rfl, _, rfl, a, ns, _, rfl, hS, by omega, fun z1 hz1 => ⟨_, rfl, b, _, rfl, .inl (SqL.of hb), _, _, rfl, rfl, lpos, ?_⟩⟩
  obtain ⟨m, hmm, hat⟩ : ∃ m, m ∈ ms ∧ atI (ms.map V.int) (z1 % ((ms.map V.int).length : Int)) = some (.int m) := by
    have y0 := Int.emod_nonneg z1 (show ((ms.map V.int).length : Int) ≠ 0 by omega)
    have y1 := Int.emod_lt_of_pos z1 lpos
    obtain ⟨y, hy⟩ := Int.eq_ofNat_of_zero_le y0
    rw [hy]
    rw [hy, List.length_map] at y1
    refine ⟨ms[y]'(by omega), List.getElem_mem _, atI_nat ?_⟩
    rw [List.getElem?_map, List.getElem?_eq_getElem (by omega)]; rfl
  obtain ⟨mm0, mm1⟩ := hm m hmm
  refine ⟨b, _, _, _, rfl, rfl, SqL.of hb, hat, ?_⟩
  refine ⟨_, rfl, _, _, rfl, rfl, _, rfl, a, _, rfl, .inl hS.1, _, rfl, _, _, rfl, rfl, _, rfl, _, _, rfl, rfl, _, _, rfl, ?_⟩
  dsimp only
  obtain ⟨L, hL, L0, L1⟩ : ∃ L : Int, (if (at_ : Int) + 2 + m < (((ns.map V.int).length : Nat) : Int) then (at_ : Int) + 2 + m else (((ns.map V.int).length : Nat) : Int)) = L ∧ 0 ≤ L ∧ L ≤ (at_ : Int) + 2 + m := ⟨_, rfl, by split <;> omega, by split <;> omega⟩
  rw [hL]
  refine ⟨_, _, rfl, ⟨by omega, by omega, by omega, by omega⟩, fun acc hacc => ?_⟩
  refine comp_run run_range (by omega) hacc (fun i ys σ _ => ∃ zs : List Int, ys = zs.map V.int ∧ zs.length = i ∧ (∀ x ∈ zs, 0 ≤ x) ∧ ∃ u, σ = [u, some (.ref a)]) ⟨[], rfl, rfl, by simp, none, rfl⟩ ?_ ?_
  · rintro i ys σ H2 x H3 hi sm hacc2 ⟨zs, rfl, lz, nz, u, rfl⟩ ⟨rfl, rfl⟩ Cc hC
    refine ⟨_, rfl, _, rfl, a, ns, _, rfl, ⟨sm.seq hS.1, hS.2⟩, by omega, fun z hz => hC _ _ _ (Same.refl _) ⟨zs ++ [z], by simp, by simp [lz], fun x hx => ?_, _, rfl⟩⟩
    rcases List.mem_append.mp hx with w | w
    · exact nz x w
    · rw [List.mem_singleton.mp w]; exact hz.1
  rintro ys σ H2 s2 hc hl ⟨zs, rfl, lz, nz, u, rfl⟩
  exact ⟨_, rfl, _, rfl, _, rfl, _, _, rfl, rfl, a, ns, _, rfl, ⟨s2.seq hS.1, hS.2⟩, by omega, fun z2 hz2 => ⟨acc, zs, z2, rfl, hc, by omega, nz, fun p H' n rs s3 w1 w2 => q p H' n _ rs (s2.trans s3) w1 w2 (by omega)⟩⟩
end
end My
/-! currentfloor.nets: led_to of a list of ropes -/
namespace My
open PySem L2 Mth Wd
/-- one put in, if it is not there -/
def addT (l : List Int) (e : Int) : List Int := if e ∈ l then l else l ++ [e]
theorem put_addT (l : List Int) (e : Int) : putK (kvT l) (Sum.inl e : Key) (.bl true) = kvT (addT l e) := by
  unfold addT
  by_cases h : e ∈ l
  · rw [if_pos h]
    have a : valV (kvT l) (Sum.inl e : Key) = some (.bl true) := by rw [val_kvT, if_pos h]
    unfold putK
    rw [valV_any, a, if_pos (show (some (V.bl true)).isSome = true from rfl)]
    unfold kvT
    rw [List.map_map]
    refine List.map_congr_left fun x _ => ?_
    show (if (Sum.inl x : Key) = Sum.inl e then ((Sum.inl x : Key), V.bl true) else (Sum.inl x, V.bl true)) = _
    split <;> rfl
  · rw [if_neg h, put_kvT h]
theorem mem_addT {l : List Int} {e x : Int} : x ∈ addT l e ↔ x ∈ l ∨ x = e := by
  unfold addT
  split
  · rename_i h
    constructor
    · exact .inl
    · rintro (z | rfl)
      · exact z
      · exact h
  · simp
theorem nd_addT {l : List Int} {e : Int} (h : l.Nodup) : (addT l e).Nodup := by
  unfold addT
  split
  · exact h
  · rename_i z
    rw [List.nodup_append]
    exact ⟨h, by simp, fun a ha b hb => by rw [List.mem_singleton] at hb; subst hb; exact fun q => z (q ▸ ha)⟩
theorem len_addT (l : List Int) (e : Int) : l.length ≤ (addT l e).length ∧ ((addT l e).length = l.length → addT l e = l) := by
  unfold addT
  split
  · exact ⟨Nat.le_refl _, fun _ => rfl⟩
  · refine ⟨by simp, fun h => ?_⟩
    simp at h
/-- what one rope does -/
def ledStep (l : List Int) (r : Rope) : List Int := if (r.1 : Int) ∈ l ∨ (r.2.1 : Int) ∈ l then addT (addT l r.1) r.2.1 else l
structure LedK (n : Nat) (s : Int) (rs : List Rope) (l : List Int) : Prop where
  nd : l.Nodup
  inn : ∀ x ∈ l, InR n x
  st : s ∈ l
  least : ∀ S : Int → Prop, S s → (∀ r ∈ rs, (S r.1 ↔ S r.2.1)) → ∀ x ∈ l, S x
theorem LedK.len {n : Nat} {s : Int} {rs : List Rope} {l : List Int} (k : LedK n s rs l) : l.length ≤ n := len_le n _ k.nd k.inn
theorem LedK.add {n : Nat} {s : Int} {rs : List Rope} {l : List Int} (k : LedK n s rs l) {r : Rope} (hr : r ∈ rs) (h : (r.1 : Int) ∈ l ∨ (r.2.1 : Int) ∈ l) {e : Int} (he : e = r.1 ∨ e = r.2.1) (hi : InR n e) : LedK n s rs (addT l e) := by
  refine ⟨nd_addT k.nd, fun x hx => ?_, mem_addT.mpr (.inl k.st), fun S h0 hc x hx => ?_⟩
  · rcases mem_addT.mp hx with z | rfl
    · exact k.inn x z
    · exact hi
  · rcases mem_addT.mp hx with z | rfl
    · exact k.least S h0 hc x z
    · have := hc r hr
      rcases h with h | h <;> have h2 := k.least S h0 hc _ h <;> rcases he with rfl | rfl
      · exact h2
      · exact this.mp h2
      · exact this.mpr h2
      · exact h2
section
variable {P : Program} {w : World} {K : PySem.W.Frag} {mg : Str → Option Value} {base : Heap} {f g h f1 f2 f3 f4 : Addr} {fd gd hd d1 d2 d3 d4 : FuncData}
def spLed : Sp := fun vs H Q _ => ∃ (s : Int) (a : Addr) (n : Nat) (rs : List Rope), vs = [.int s, .ref a] ∧ InR n s ∧ n ≤ 100 ∧ LstR RopeR H a rs ∧ (∀ r ∈ rs, r.1 < n ∧ r.2.1 < n) ∧
  ∀ d l H', Same H H' → H' d = some (.dK (kvT l)) → LedK n s rs l → (∀ r ∈ rs, ((r.1 : Int) ∈ l ↔ (r.2.1 : Int) ∈ l)) → Q (.ref d) H'
theorem scLd : FnScope ["start", "ropes", "met", "before", "rope"] ["start", "ropes"] (defScope s_led_to) := ⟨rfl, rfl, rfl, by decide +kernel, rfl, by decide +kernel, by decide +kernel⟩
theorem ok_led (F : Fun K "led_to" "led_to" s_led_to f fd) (ml : mg "len" = none) : FnOk P w K mg base CX0 1 f fd ["start", "ropes"] spLed := by
  refine F.ok scLd (fun vs H Q E h => ?_) (fun cdv A outer s H vs Q E hr h => ?_)
  · obtain ⟨s, a, n, rs, rfl, _⟩ := h
    rfl
  obtain ⟨s0, a, n, rs, rfl, hs, hn, ⟨bs, ha, hB⟩, hrs, q⟩ := h
  have hu := hu_of hr
  refine ⟨_, pss_cons (ps_set (i := 2) scLd.nd rfl (Or.inl rfl) (pe_disp (pps_cons (pv 0) pe_bl pps_nil) rfl rfl (by simp) (by decide)))
    (pss_cons (ps_set (i := 3) scLd.nd rfl (Or.inl rfl) pe_int)
    (pss_cons (ps_while PassesOwn.never (pt_cmpR op_lt (pv 3) (pe_callB call_lenD (by rfl) ml bt_len (pa_cons (pv 2) pa_nil)) (nomark _))
      (pss_cons (ps_set (i := 3) scLd.nd rfl (Or.inl rfl) (pe_callB call_lenD (by rfl) ml bt_len (pa_cons (pv 2) pa_nil)))
      (pss_one (ps_for PassesOwn.never rfl (pi_list (pv 1)) (pg_name (i := 4) scLd.nd rfl (Or.inl rfl))
        (pss_one (ps_if (PW.pt (pw_or (pt_cmp (pc_din hu (pe_ix (ixT (K := K)) (pv 4) pe_int (fun _ _ => rfl)) (pv 2))) (pw_or1 (pt_cmp (pc_din hu (pe_ix (ixT (K := K)) (pv 4) pe_int (fun _ _ => rfl)) (pv 2))))))
          (pss_cons (ps_dput hu (pv 2) (pe_ix (ixT (K := K)) (pv 4) pe_int (fun _ _ => rfl)) pe_bl rfl) (pss_one (ps_dput hu (pv 2) (pe_ix (ixT (K := K)) (pv 4) pe_int (fun _ _ => rfl)) pe_bl rfl))) pss_nil))))))
    (pss_one (ps_ret (pv 2))))), ?_⟩
  intro d hd
  refine ⟨_, rfl, upd_same, [(Sum.inl s0, .bl true)], rfl, by show 1 ≤ 15; decide, ?_⟩
  have s1 : Same H (upd (upd H d (.dK [])) d (.dK (mergeK [] [(Sum.inl s0, .bl true)]))) := (same_new hd _).up hd _
  have e1 : (upd (upd H d (.dK [])) d (.dK (mergeK [] [((Sum.inl s0 : Key), V.bl true)]))) d = some (.dK (kvT [s0])) := upd_same
  generalize upd (upd H d (.dK [])) d (.dK (mergeK [] [((Sum.inl s0 : Key), V.bl true)])) = H1 at s1 e1
  refine while_by (fun σ H2 => ∃ (l : List Int) (b : Nat) (u : Option V), σ = [some (.int s0), some (.ref a), some (.ref d), some (.int (b : Int)), u] ∧ Same H H2 ∧ H2 d = some (.dK (kvT l)) ∧ LedK n s0 rs l ∧ b ≤ l.length ∧ (b = l.length → ∀ r ∈ rs, ((r.1 : Int) ∈ l ↔ (r.2.1 : Int) ∈ l)))
    (fun σ _ => match σ with | [_, _, _, some (.int b), _] => n + 1 - b.toNat | _ => 0) ⟨[s0], 0, none, rfl, s1, e1, ⟨by simp, fun x hx => by rw [List.mem_singleton] at hx; subst hx; exact hs, by simp, fun S h0 _ x hx => by rw [List.mem_singleton] at hx; subst hx; exact h0⟩, Nat.zero_le _, fun z => by simp at z⟩ ?_ ?_
  · rintro σ H2 ⟨l, b, u, rfl, sm, hd2, k, hb, hcl⟩
    refine ⟨_, rfl, _, rfl, d, _, rfl, hd2, _, _, rfl, rfl, _, rfl, ?_⟩
    rw [List.length_map]
    by_cases hlt : b < l.length
    · refine iteDT (by omega) ?_
      refine ⟨_, rfl, d, _, rfl, hd2, ?_⟩
      rw [List.length_map]
      refine ⟨_, rfl, a, rfl, ⟨_, SqL.of (sm _ _ ha)⟩, ?_⟩
      refine for_list (xs := bs.map V.ref) (fun i σ H3 => ∃ (l' : List Int) (u : Option V), σ = [some (.int s0), some (.ref a), some (.ref d), some (.int ((l.length : Nat) : Int)), u] ∧ Same H H3 ∧ H3 d = some (.dK (kvT l')) ∧ LedK n s0 rs l' ∧ l.length ≤ l'.length ∧ (l.length = l'.length → l' = l ∧ ∀ r ∈ rs.take i, ((r.1 : Int) ∈ l ↔ (r.2.1 : Int) ∈ l)))
        ⟨l, u, rfl, sm, hd2, k, Nat.le_refl _, fun _ => ⟨rfl, by simp⟩⟩ (fun i σ H3 _ ⟨_, _, _, s3, _⟩ => SqL.of (s3 _ _ ha)) ?_ ?_
      · rintro i x σ H3 hx ⟨l', u', rfl, s3, hd3, k3, le3, cl3⟩
        obtain ⟨c, r, rfl, _, hy, e, hc, he⟩ := hB.ref hx
        have hrm : r ∈ rs := List.mem_of_getElem? hy
        obtain ⟨r1, r2⟩ := hrs r hrm
        have hc3 := s3 _ _ hc
        have in1 : InR n (r.1 : Int) := ⟨by omega, by omega⟩
        have in2 : InR n (r.2.1 : Int) := ⟨by omega, by omega⟩
        have go : ∀ (hin : (r.1 : Int) ∈ l' ∨ (r.2.1 : Int) ∈ l'), ∃ l2, LedK n s0 rs (addT l' r.1) ∧ (addT (addT l' r.1) r.2.1) = l2 ∧ LedK n s0 rs l2 ∧ l.length ≤ l2.length ∧ (l.length = l2.length → l2 = l ∧ ∀ r ∈ rs.take (i+1), ((r.1 : Int) ∈ l ↔ (r.2.1 : Int) ∈ l)) := by
          intro hin
          have ka := k3.add hrm hin (.inl rfl) in1
          have kb := ka.add hrm (.inl (mem_addT.mpr (.inr rfl))) (.inr rfl) in2
          refine ⟨_, ka, rfl, kb, ?_, fun hl => ?_⟩
          · have := (len_addT l' r.1).1
            have := (len_addT (addT l' r.1) r.2.1).1
            omega
          · have a1 := len_addT l' r.1
            have a2 := len_addT (addT l' r.1) r.2.1
            have b1 := a1.2 (by omega)
            have b2 := a2.2 (by omega)
            obtain ⟨rfl, c2⟩ := cl3 (by omega)
            refine ⟨by rw [b2, b1], fun r' hr' => ?_⟩
            rw [take_snoc hy] at hr'
            rcases List.mem_append.mp hr' with z | z
            · exact c2 r' z
            · rw [List.mem_singleton] at z
              subst z
              have m1 : (r'.1 : Int) ∈ l' := by rw [← b1]; exact mem_addT.mpr (.inr rfl)
              have m2 : (r'.2.1 : Int) ∈ l' := by rw [b1] at b2; rw [← b2]; exact mem_addT.mpr (.inr rfl)
              exact ⟨fun _ => m2, fun _ => m1⟩
        refine ⟨_, rfl, c, _, _, _, rfl, rfl, SqT.of hc3, t3_0 _ _ _, _, rfl, d, _, rfl, DGet.k (k := Sum.inl (r.1 : Int)) hd3, _, rfl, ?_⟩
        have cd : c ≠ d := fun z => by rw [z, hd3] at hc3; cases hc3
        have sz3 : (kvT l').length < sizeLine := by rw [List.length_map]; have := k3.len; exact szl (by omega)
        have fin : ∀ (hin : (r.1 : Int) ∈ l' ∨ (r.2.1 : Int) ∈ l') (o : HO), ∃ (l'' : List Int) (u : Option V), [some (.int s0), some (.ref a), some (.ref d), some (.int ((l.length : Nat) : Int)), some (V.ref c)] = [some (.int s0), some (.ref a), some (.ref d), some (.int ((l.length : Nat) : Int)), u] ∧ Same H (upd (upd H3 d o) d (.dK (putK (kvT (addT l' r.1)) (Sum.inl (r.2.1 : Int) : Key) (.bl true)))) ∧ (upd (upd H3 d o) d (.dK (putK (kvT (addT l' r.1)) (Sum.inl (r.2.1 : Int) : Key) (.bl true)))) d = some (.dK (kvT l'')) ∧ LedK n s0 rs l'' ∧ l.length ≤ l''.length ∧ (l.length = l''.length → l'' = l ∧ ∀ r ∈ rs.take (i+1), ((r.1 : Int) ∈ l ↔ (r.2.1 : Int) ∈ l)) := by
          intro hin o
          obtain ⟨l2, ka, e2, kb, c1, c2⟩ := go hin
          refine ⟨l2, _, rfl, (s3.up hd _).up hd _, ?_, kb, c1, c2⟩
          rw [upd_same, put_addT, e2]
        have puts : ∀ (hin : (r.1 : Int) ∈ l' ∨ (r.2.1 : Int) ∈ l'), LedK n s0 rs (addT l' r.1) := fun hin => (go hin).elim fun _ z => z.1
        rw [val_kvT]
        by_cases h1 : (r.1 : Int) ∈ l'
        · rw [if_pos h1]
          refine iteT (iteT ?_)
          refine ⟨_, rfl, _, rfl, c, _, _, _, rfl, rfl, SqT.of hc3, t3_0 _ _ _, d, _, rfl, DPut.k (k := Sum.inl (r.1 : Int)) hd3 sz3, ?_⟩
          rw [put_addT]
          refine ⟨_, rfl, _, rfl, c, _, _, _, rfl, rfl, SqT.of (by rw [upd_ne cd]; exact hc3), t3_1 _ _ _, d, _, rfl, DPut.k (k := Sum.inl (r.2.1 : Int)) upd_same (by rw [List.length_map]; have := (puts (.inl h1)).len; exact szl (by omega)), ?_⟩
          exact fin (.inl h1) _
        · rw [if_neg h1]
          refine iteF ?_
          refine ⟨_, rfl, c, _, _, _, rfl, rfl, SqT.of hc3, t3_1 _ _ _, _, rfl, d, _, rfl, DGet.k (k := Sum.inl (r.2.1 : Int)) hd3, _, rfl, ?_⟩
          rw [val_kvT]
          by_cases h2 : (r.2.1 : Int) ∈ l'
          · rw [if_pos h2]
            refine iteT ?_
            refine ⟨_, rfl, _, rfl, c, _, _, _, rfl, rfl, SqT.of hc3, t3_0 _ _ _, d, _, rfl, DPut.k (k := Sum.inl (r.1 : Int)) hd3 sz3, ?_⟩
            rw [put_addT]
            refine ⟨_, rfl, _, rfl, c, _, _, _, rfl, rfl, SqT.of (by rw [upd_ne cd]; exact hc3), t3_1 _ _ _, d, _, rfl, DPut.k (k := Sum.inl (r.2.1 : Int)) upd_same (by rw [List.length_map]; have := (puts (.inr h2)).len; exact szl (by omega)), ?_⟩
            exact fin (.inr h2) _
          · rw [if_neg h2]
            refine iteF ?_
            refine ⟨l', _, rfl, s3, hd3, k3, le3, fun z => ?_⟩
            obtain ⟨rfl, c2⟩ := cl3 z
            refine ⟨rfl, fun r' hr' => ?_⟩
            rw [take_snoc hy] at hr'
            rcases List.mem_append.mp hr' with z | z
            · exact c2 r' z
            · rw [List.mem_singleton] at z
              subst z
              exact ⟨fun z => absurd z h1, fun z => absurd z h2⟩
      · rintro σ H3 ⟨l', u', rfl, s3, hd3, k3, le3, cl3⟩
        rw [List.length_map, hB.1, List.take_length] at cl3
        refine ⟨⟨l', l.length, _, rfl, s3, hd3, k3, le3, fun z => ?_⟩, ?_⟩
        · obtain ⟨rfl, c2⟩ := cl3 z
          exact c2
        · have := k.len
          show n + 1 - ((l.length : Nat) : Int).toNat < n + 1 - ((b : Nat) : Int).toNat
          omega
    · refine iteDF (by omega) ?_
      exact ⟨_, rfl, q d l H2 sm hd2 k (hcl (by omega))⟩
  · rintro σ H2 Q1 Q2 hq ⟨v, e, v', e', d', kv, z1, z2, y, y2, z3, z4, b, z5, z⟩
    exact ⟨v, e, v', e', d', kv, z1, z2, y, y2, z3, z4, b, z5, hq _ _ z⟩
end
end My
/-! rising rows, by the program and by the law -/
namespace My
open PySem L2 Mth Wd
def RowN (H : Hp) (b : Addr) (r : List Nat) : Prop := H b = some (.tup (natV r))
theorem mo_rowN : Mo RowN := fun s h => s _ _ h
theorem RowN.del {H : Hp} {a b : Addr} {t : List Nat} {ys : List V} (h : RowN H b t) (e : H a = some (.lst ys)) : RowN (del H a) b t := del_at h fun z => by rw [z] at h; unfold RowN at h; rw [e] at h; cases h
theorem at_row_upd {H : Hp} {l : Addr} {ys : List V} {o : HO} {gs : List Addr} {us : List (List Nat)} (hl : H l = some (.lst ys)) (h : At RowN H gs us) : At RowN (upd H l o) gs us := ⟨h.1, fun i b x e1 e2 => by
  have := h.2 i b x e1 e2
  unfold RowN at this ⊢
  rw [upd_ne (fun z => by rw [z, hl] at this; cases this)]
  exact this⟩
abbrev extR (m : Nat) (r : List Nat) : List (List Nat) := (List.range' (leastR r) (m - leastR r)).map fun x => r ++ [x]
theorem rise_succ (m s : Nat) : riseR m (s+1) = (riseR m s).flatMap (extR m) := rfl
theorem natV_app (r : List Nat) (x : Nat) : natV (r ++ [x]) = natV r ++ [.int (x : Int)] := by unfold natV; rw [List.map_append]; rfl
theorem at_last {r : List Nat} (h : r ≠ []) : ∃ x : Nat, leastR r = x + 1 ∧ atI (natV r) (-1) = some (.int (x : Int)) := by
  obtain ⟨q, x, rfl⟩ : ∃ q x, r = q ++ [x] := ⟨r.dropLast, r.getLast h, (List.dropLast_concat_getLast h).symm⟩
  refine ⟨x, by unfold leastR; rw [List.getLast?_concat], ?_⟩
  rw [natV_app]
  unfold atI ixN
  have e : (natV q ++ [V.int (x : Int)]).length = q.length + 1 := by rw [List.length_append, List.length_map]; rfl
  rw [if_neg (by decide), if_pos (by omega), e, show (-1 + ((q.length + 1 : Nat) : Int)).toNat = q.length by omega]
  show (natV q ++ [V.int (x : Int)])[q.length]? = _
  rw [List.getElem?_append_right (by rw [List.length_map]; exact Nat.le_refl _), List.length_map, Nat.sub_self]
  rfl
theorem least_le {m : Nat} {r : List Nat} (h : ∀ x ∈ r, x < m) : leastR r ≤ m := by
  unfold leastR
  cases e : r.getLast? with
  | none => exact Nat.zero_le _
  | some x => exact h x (List.mem_of_getLast? e)
theorem ext_at {m : Nat} {r : List Nat} {j : Nat} (h : j < m - leastR r) : (extR m r)[j]? = some (r ++ [leastR r + j]) := by
  rw [List.getElem?_map, List.getElem?_range' h]
  simp
theorem ext_len (m : Nat) (r : List Nat) : (extR m r).length = m - leastR r := by rw [List.length_map, List.length_range']
theorem pre_len {m i j : Nat} (hm : m ≤ 9) (hi : i < 9) : (((riseR m i).take j).flatMap (extR m)).length ≤ 126 := by
  have h := rise_few m (by omega) (i+1) (by omega)
  rw [rise_succ, ← List.take_append_drop j (riseR m i), List.flatMap_append, List.length_append] at h
  omega
theorem pre_snoc {m : Nat} {rs : List (List Nat)} {j : Nat} {r : List Nat} (h : rs[j]? = some r) : (rs.take (j+1)).flatMap (extR m) = (rs.take j).flatMap (extR m) ++ extR m r := by
  rw [take_snoc h, List.flatMap_append, List.flatMap_cons, List.flatMap_nil, List.append_nil]
section
variable {P : Program} {w : World} {K : PySem.W.Frag} {mg : Str → Option Value} {base : Heap} {f g h f1 f2 f3 f4 : Addr} {fd gd hd d1 d2 d3 d4 : FuncData}
def spRise : Sp := fun vs H Q _ => ∃ (m s : Nat), vs = [.int (m : Int), .int (s : Int)] ∧ m ≤ 9 ∧ s ≤ 9 ∧ ∀ p H', Same H H' → H p = none → LstR RowN H' p (riseR m s) → Q (.ref p) H'
theorem scRi : FnScope ["count", "size", "rows", "step", "longer", "row", "least"] ["count", "size"] (defScope s_rising_rows) := ⟨rfl, rfl, rfl, by decide +kernel, rfl, by decide +kernel, by decide +kernel⟩
theorem ndNR : (["number", "row"] : List Str).Nodup := by decide +kernel
seal L2.PSs L2.PS L2.PE L2.PA in
theorem ok_rise (F : Fun K "rising_rows" "rising_rows" s_rising_rows f fd) (mr : mg "range" = none) : FnOk P w K mg base CX0 1 f fd ["count", "size"] spRise := by
  refine F.ok scRi (fun vs H Q E h => ?_) (fun cdv A outer s H vs Q E hr h => ?_)
  · obtain ⟨m, n, rfl, _⟩ := h
    rfl
  obtain ⟨m, n, rfl, hm, hn, q⟩ := h
  refine ⟨_, pss_cons (ps_set (i := 2) scRi.nd rfl (Or.inl rfl) (pe_lst (pa_cons (pe_tup pa_nil) pa_nil)))
    (pss_cons (ps_for PassesOwn.never rfl (pi_range1 (by rfl) mr (pa_cons (pv 1) pa_nil)) (pg_name (i := 3) scRi.nd rfl (Or.inl rfl))
      (pss_cons (ps_set (i := 4) scRi.nd rfl (Or.inl rfl) (pe_lst pa_nil))
      (pss_cons (ps_for PassesOwn.never rfl (pi_list (pv 2)) (pg_name (i := 5) scRi.nd rfl (Or.inr rfl))
        (pss_cons (ps_set (i := 6) scRi.nd rfl (Or.inl rfl) (pe_ifExp (pt_truth (pv 5) (fun _ => rfl)) (pe_op op_add (pe_ix ix_tup (pv 5) (pe_un un_neg pe_int) (fun _ _ => rfl)) pe_int) pe_int))
        (pss_one (ps_expr (pe_bm PySem.F.plainAttrs_list PySem.F.slot_list_extend PySem.F.type_list_extend mt_extend (pv 4) (pa_cons (pe_comp (Nc := ["number", "row"]) (cap := [(1, 5)]) (g := gName 0) (te := tOp (rCatA K) (tVar 1) (tTup (tCons (tVar 0) tNil))) rfl (pi_range2 (by rfl) mr (pa_cons (pv 6) (pa_cons (pv 0) pa_nil)))
          (comp_mk rfl rfl (by decide +kernel) (by decide +kernel) (List.forall_mem_cons.mpr ⟨⟨rfl, rfl⟩, List.forall_mem_nil _⟩) rfl (List.forall_mem_cons.mpr ⟨⟨_, _, rfl, rfl, rfl, rfl, rfl⟩, List.forall_mem_nil _⟩)) (fun C fp pins s' H' => pg_name (i := 0) ndNR rfl (Or.inl rfl))
          (fun C fp pins s' H' => pe_op op_catA (pv 1) (pe_tup (pa_cons (pv 0) pa_nil)))) pa_nil))))))
      (pss_one (ps_set (i := 2) scRi.nd rfl (Or.inl rfl) (pv 4))))))
    (pss_one (ps_ret (pv 2)))), ?_⟩
  refine ⟨by show 0 ≤ sizeLine; decide, fun t ht => ⟨by show 1 ≤ sizeLine; decide, fun R0 hR0 => ?_⟩⟩
  dsimp only at ht hR0 ⊢
  have s1 := same_new ht (.tup [])
  have e1 : RowN (upd H t (.tup [])) t [] := upd_same
  generalize upd H t (.tup []) = H1 at s1 e1 hR0
  have s2 := same_new hR0 (.lst [.ref t])
  have e2 : LstR RowN (upd H1 R0 (.lst [.ref t])) R0 (riseR m 0) := ⟨[t], upd_same, At.snoc (bs := []) (xs := []) At.nil (mo_rowN s2 e1)⟩
  have s02 := s1.trans s2
  generalize upd H1 R0 (.lst [.ref t]) = H2 at s2 e2 s02
  refine ⟨_, rfl, ((n : Nat) : Int), rfl, by omega, by omega, ?_⟩
  rw [show ((n : Nat) : Int).toNat = n by omega]
  refine for_range (n := n) (fun i σ H3 => Same H H3 ∧ ∃ R u3 u4 u5 u6, σ = [some (.int (m : Int)), some (.int (n : Int)), some (.ref R), u3, u4, u5, u6] ∧ H R = none ∧ LstR RowN H3 R (riseR m i)) ⟨s02, R0, none, none, none, none, rfl, s1.free hR0, e2⟩ ?_ ?_
  · rintro i σ H3 hi ⟨s3, R, u3, u4, u5, u6, rfl, _, bs, hR, hB⟩
    refine name_go ?_
    refine ⟨by show 0 ≤ sizeLine; decide, fun L hL => ?_⟩
    have sL := same_new hL (.lst [])
    have eL : (upd H3 L (.lst [])) L = some (.lst (([] : List Addr).map V.ref)) := upd_same
    have nL : H L = none := s3.free hL
    have s4 := s3.trans sL
    have hR4 := sL _ _ hR
    have hB4 := hB.keep mo_rowN sL
    have RL : R ≠ L := fun z => by rw [z, hL] at hR; cases hR
    generalize upd H3 L (.lst []) = H4 at sL eL s4 hR4 hB4
    refine ⟨_, rfl, R, rfl, ⟨_, SqL.of hR4⟩, ?_⟩
    refine for_list (xs := bs.map V.ref) (fun j σ H5 => SameB L H4 H5 ∧ Same H H5 ∧ ∃ gs u5 u6, σ = [some (.int (m : Int)), some (.int (n : Int)), some (.ref R), some (.int ((0 : Int) + (i : Int))), some (.ref L), u5, u6] ∧ H5 L = some (.lst (gs.map V.ref)) ∧ At RowN H5 gs (((riseR m i).take j).flatMap (extR m)))
      ⟨SameB.refl _ _, s4, [], u5, u6, rfl, eL, At.nil⟩ (fun j σ H5 _ h => SqL.of (h.1 _ _ RL hR4)) ?_ ?_
    · rintro j x σ H5 hx ⟨sb5, s5, gs, v5, v6, rfl, hL5, aG⟩
      obtain ⟨b, r, rfl, _, hy, hb⟩ := hB4.ref hx
      have hbL : b ≠ L := fun z => by
        rw [z] at hb
        have := hb.symm.trans eL
        cases this
      have hb5 : RowN H5 b r := sb5 _ _ hbL hb
      obtain ⟨rl, rb⟩ := rise_len (List.mem_of_getElem? hy)
      have lle := least_le rb
      refine name_go ?_
      refine seq_join (G := fun σ H' => H' = H5 ∧ σ = [some (.int (m : Int)), some (.int (n : Int)), some (.ref R), some (.int ((0 : Int) + (i : Int))), some (.ref L), some (.ref b), some (.int (leastR r : Int))]) (fun rest => ?_) ?_
      · refine ⟨_, rfl, ?_⟩
        by_cases hr0 : r = []
        · refine ⟨false, .inr (.inl ⟨_, SqT.of hb5, by rw [hr0]; rfl⟩), ?_⟩
          refine iteF ?_
          refine nx_go (rest _ _ ⟨rfl, ?_⟩)
          rw [hr0]; rfl
        · obtain ⟨x, ex, ax⟩ := at_last hr0
          refine ⟨true, .inr (.inl ⟨_, SqT.of hb5, ?_⟩), ?_⟩
          · cases r with
            | nil => exact absurd rfl hr0
            | cons _ _ => rfl
          refine iteT ?_
          refine ⟨_, rfl, _, rfl, b, _, _, _, rfl, rfl, SqT.of hb5, ax, _, _, rfl, rfl, ?_⟩
          refine nx_go (rest _ _ ⟨rfl, ?_⟩)
          rw [ex]; rfl
      rintro σ H6 ⟨rfl, rfl⟩
      refine ⟨_, rfl, .inl ⟨rfl, _, SqL.of hL5⟩, _, rfl, _, rfl, _, _, rfl, ⟨by omega, by omega, by omega, by omega⟩, fun acc hacc => ?_⟩
      rw [show ((m : Int) - (leastR r : Int)).toNat = m - leastR r by omega]
      refine comp_run run_range (by omega) hacc (fun k ys σ hp => ∃ gs' : List Addr, ys = gs'.map V.ref ∧ At RowN hp gs' ((extR m r).take k) ∧ ∃ u, σ = [u, some (.ref b)]) ⟨[], rfl, At.nil, none, rfl⟩ ?_ ?_
      · rintro k ys σ H6' x H7 hk sm hacc2 ⟨gs', rfl, hG, u, rfl⟩ ⟨rfl, rfl⟩ Cc hC
        have hb7 : H7 b = some (.tup (natV r)) := sm _ _ hb5
        refine ⟨_, rfl, _, rfl, by show 1 ≤ sizeLine; decide, fun tp htp => ?_⟩
        dsimp only at htp ⊢
        rw [show (leastR r : Int) + (k : Int) = ((leastR r + k : Nat) : Int) by omega] at *
        have s8 := same_new htp (.tup [.int ((leastR r + k : Nat) : Int)])
        have e8 : (upd H7 tp (.tup [.int ((leastR r + k : Nat) : Int)])) tp = some (.tup [.int ((leastR r + k : Nat) : Int)]) := upd_same
        generalize upd H7 tp (.tup [.int ((leastR r + k : Nat) : Int)]) = H8 at s8 e8
        have fin : ∀ p H9, Same H8 H9 → RowN H9 p (r ++ [leastR r + k]) → Cc [some (.int ((leastR r + k : Nat) : Int)), some (.ref b)] (.ref p) H9 := fun p H9 s9 h9 => by
          have s79 := s8.trans s9
          refine hC _ _ _ s79 ⟨gs' ++ [p], by simp, ?_, _, rfl⟩
          rw [take_snoc (ext_at hk)]
          exact (hG.keep mo_rowN (del_mono acc s79)).snoc (RowN.del (t := r ++ [leastR r + k]) h9 (s79 _ _ hacc2))
        refine ⟨b, tp, _, _, rfl, rfl, SqT.of (s8 _ _ hb7), SqT.of e8, (fun z => by cases z), by rw [List.length_map]; exact szle (by simp; omega), fun z => ?_, fun _ p hp => ?_⟩
        · have : r = [] := List.map_eq_nil_iff.mp z
          subst this
          exact fin tp H8 (Same.refl _) e8
        · refine fin p _ (same_new hp _) ?_
          show (upd H8 p _) p = _
          rw [upd_same, natV_app]
      rintro ys σ H7 s7 ha7 hl7 ⟨gs', rfl, hG, u, rfl⟩
      rw [List.take_of_length_le (by rw [ext_len]; exact Nat.le_refl _)] at hG
      have hG7 := hG.keep mo_rowN (del_sub H7 acc)
      have hL7 := s7 _ _ hL5
      have aG7 := aG.keep mo_rowN s7
      have plen := pre_len (m := m) (i := i) (j := j + 1) hm (by omega)
      have aAll := aG7.app hG7
      rw [← pre_snoc hy] at aAll
      refine ⟨L, acc, _, _, rfl, rfl, hL7, ha7, ?_, ?_⟩
      · have l1 := aAll.1
        rw [List.length_append] at l1
        rw [List.length_map, List.length_map]
        exact szle (by omega)
      rw [← List.map_append]
      exact ⟨(sb5.trans s7.b).put _, (s5.trans s7).up nL _, gs ++ gs', _, _, rfl, upd_same, at_row_upd hL7 aAll⟩
    rintro σ H5 ⟨sb5, s5, gs, v5, v6, rfl, hL5, aG⟩
    rw [List.length_map, hB4.1, List.take_length, ← rise_succ] at aG
    refine ⟨_, rfl, ?_⟩
    exact ⟨s5, L, _, _, _, _, rfl, nL, gs, hL5, aG⟩
  · rintro σ H3 ⟨s3, R, u3, u4, u5, u6, rfl, nR, hR⟩
    exact ⟨_, rfl, q _ _ s3 nR hR⟩
end
end My
/-! currentfloor.trees: which rows fit -/
namespace My
open PySem L2 Mth Wd
section
variable {K : PySem.W.Frag}
/-- every comprehension with a test -/
theorem comp_runF {J : It} {n : Nat} {H1 : Hp} {f : Nat → Hp → V → Hp → Prop} {acc : Addr} {σ0 : St} {g : TG} {tt : TT} {te : TE} {G : Hp → Prop} (r : Run J H1 n f) (hn : n ≤ 1000) (hacc : H1 acc = none) (Iv : Nat → List V → St → Hp → Prop) (h0 : Iv 0 [] σ0 H1)
    (hs : ∀ (i : Nat) (ys : List V) (σ : St) (H2 : Hp) (x : V) (H3 : Hp), i < n → Same H1 H2 → H2 acc = some (.lst ys) → Iv i ys σ (del H2 acc) → f i H2 x H3 → ∀ (C : St → VK) (N : St → Hp → Prop), (∀ (σ4 : St) (v : V) (H5 : Hp), Same H2 H5 → Iv (i + 1) (ys ++ [v]) σ4 (del H5 acc) → C σ4 v H5) → (∀ (σ4 : St) (H5 : Hp), Same H2 H5 → Iv (i + 1) ys σ4 (del H5 acc) → N σ4 H5) →
      g x σ H3 fun σ4 H4 => tt σ4 H4 fun ok H5 => if ok = true then te σ4 H5 (C σ4) else N σ4 H5)
    (fin : ∀ (ys : List V) (σ : St) (H2 : Hp), Same H1 H2 → H2 acc = some (.lst ys) → Iv n ys σ (del H2 acc) → G H2) :
    ∃ W : Nat → Nat → List V → St → Hp → Prop, (∃ m, W 0 m [] σ0 (upd H1 acc (.lst []))) ∧ ∀ i m ys σc H2, W i m ys σc H2 →
      (J.stop i H2 ∧ G H2) ∨ (J.go i H2 ∧ ∀ x H3, J.yld i H2 x H3 → g x σc H3 fun σ4 H4 => tt σ4 H4 fun ok H5 => if ok = true then (te σ4 H5 fun v H6 => H6 acc = some (.lst ys) ∧ ys.length < sizeLine ∧ ∃ m', m' < m ∧ W (i + 1) m' (ys ++ [v]) σ4 (upd H6 acc (.lst (ys ++ [v])))) else ∃ m', m' < m ∧ W (i + 1) m' ys σ4 H5) := by
  refine ⟨fun i m ys σ H2 => m = n - i ∧ i ≤ n ∧ Same H1 H2 ∧ H2 acc = some (.lst ys) ∧ ys.length ≤ i ∧ Iv i ys σ (del H2 acc), ⟨n, rfl, Nat.zero_le _, ?_, upd_same, Nat.le_refl _, ?_⟩, ?_⟩
  · intro b o e; rw [upd_ne (ne_of_none e hacc)]; exact e
  · rw [del_upd, del_new hacc]; exact h0
  · rintro i m ys σc H2 ⟨rfl, hi, sm, ha, hl, iv⟩
    rcases Nat.lt_or_ge i n with hlt | hge
    · refine .inr ⟨r.go i H2 hlt sm, fun x H3 yl => ?_⟩
      refine hs i ys σc H2 x H3 hlt sm ha iv (r.yl i H2 x H3 hlt sm yl) (fun σ4 v H5 => H5 acc = some (.lst ys) ∧ ys.length < sizeLine ∧ ∃ m', m' < n - i ∧ (m' = n - (i + 1) ∧ i + 1 ≤ n ∧ Same H1 (upd H5 acc (.lst (ys ++ [v]))) ∧ (upd H5 acc (.lst (ys ++ [v]))) acc = some (.lst (ys ++ [v])) ∧ (ys ++ [v]).length ≤ i + 1 ∧ Iv (i + 1) (ys ++ [v]) σ4 (del (upd H5 acc (.lst (ys ++ [v]))) acc)))
        (fun σ4 H5 => ∃ m', m' < n - i ∧ (m' = n - (i + 1) ∧ i + 1 ≤ n ∧ Same H1 H5 ∧ H5 acc = some (.lst ys) ∧ ys.length ≤ i + 1 ∧ Iv (i + 1) ys σ4 (del H5 acc))) ?_ ?_
      · intro σ4 v H5 s5 iv5
        refine ⟨s5 _ _ ha, by rw [sizeLine_eq]; omega, n - (i + 1), by omega, rfl, hlt, ?_, upd_same, by rw [List.length_append, List.length_singleton]; omega, ?_⟩
        · intro b o e; rw [upd_ne (ne_of_none e hacc)]; exact s5 _ _ (sm _ _ e)
        · rw [del_upd]; exact iv5
      · intro σ4 H5 s5 iv5
        exact ⟨n - (i + 1), by omega, rfl, hlt, sm.trans s5, s5 _ _ ha, by omega, iv5⟩
    · obtain rfl : i = n := by omega
      exact .inl ⟨r.st H2 sm, fin ys σc H2 sm ha iv⟩
end
def treeB (n : Nat) (cs : List Rope) : Bool := (marksF (List.range n) cs).isSome
def halfB (n : Nat) (cs : List Rope) : Bool := match marksF (List.range n) cs with
  | some ms => decide (ms.getD 0 0 ≠ ms.getD 1 0)
  | none => false
theorem led_reach {n s : Nat} {cs : List Rope} {l : List Int} (k : LedK n (s : Int) cs l) (c : ∀ r ∈ cs, ((r.1 : Int) ∈ l ↔ (r.2.1 : Int) ∈ l)) : Reach n s cs l := ⟨k.nd, k.inn, k.st, k.least, c⟩
theorem treeB_eq {n : Nat} {cs : List Rope} {l : List Int} (hn : cs.length + 1 = n) (hb : ∀ r ∈ cs, r.1 < n ∧ r.2.1 < n) (k : Reach n 0 cs l) : treeB n cs = decide (l.length = n) := by
  unfold treeB
  rw [Bool.eq_iff_iff, decide_eq_true_iff, tree_iff hn hb k]
  cases marksF (List.range n) cs <;> simp
theorem halfB_eq {n : Nat} {cs : List Rope} {l0 l1 : List Int} (hn : cs.length + 2 = n) (hb : ∀ r ∈ cs, r.1 < n ∧ r.2.1 < n) (k0 : Reach n 0 cs l0) (k1 : Reach n 1 cs l1) : halfB n cs = decide ((1 : Int) ∉ l0 ∧ l0.length + l1.length = n) := by
  unfold halfB
  rw [Bool.eq_iff_iff, decide_eq_true_iff, half_iff hn hb k0 k1]
  cases marksF (List.range n) cs with
  | none => simp
  | some ms => simp
section
variable {P : Program} {w : World} {K : PySem.W.Frag} {mg : Str → Option Value} {base : Heap} {f g h f1 f2 f3 f4 : Addr} {fd gd hd d1 d2 d3 d4 : FuncData}
/-- whether so many chosen ropes fit -/
def spFits (k : Nat) (t : Nat → List Rope → Bool) : Sp := fun vs H Q _ => ∃ (a c : Addr) (n : Nat) (rs cs : List Rope), vs = [.ref a, .ref c] ∧ NetR H a n rs ∧ LstR RopeR H c cs ∧ (∀ r ∈ cs, r.1 < n ∧ r.2.1 < n) ∧ cs.length + k = n ∧ n ≤ 100 ∧ ∀ H', Same H H' → Q (.bl (t n cs)) H'
theorem scTr : FnScope ["net", "chosen"] ["net", "chosen"] (defScope s_is_tree) := ⟨rfl, rfl, rfl, by decide +kernel, rfl, by decide +kernel, by decide +kernel⟩
theorem ok_isTree (F : Fun K "is_tree" "is_tree" s_is_tree f fd) (G : FnOk P w K mg base CX0 1 g gd ["start", "ropes"] spLed) (bG : Binds K gd ["start", "ropes"] []) (kG : PySem.W.keepIn K (.ref g) = true) (mG : mg "led_to" = some (.ref g)) (ml : mg "len" = none) : FnOk P w K mg base CX0 2 f fd ["net", "chosen"] (spFits 1 treeB) := by
  refine F.ok scTr (fun vs H Q E h => ?_) (fun cdv A outer s H vs Q E hr h => ?_)
  · obtain ⟨a, c, n, rs, cs, rfl, _⟩ := h
    rfl
  obtain ⟨a, c, n, rs, cs, rfl, ⟨rr, tt, ha, _⟩, hc, hb, hn, h100, q⟩ := h
  refine ⟨_, pss_one (ps_ret (pe_cmpR op_eq (pe_callB call_lenD (by rfl) ml bt_len (pa_cons (pe_call G hr (by rfl) mG kG bG .nil pass0 (pa_cons pe_int (pa_cons (pv 1) pa_nil))) pa_nil)) (pe_ix (ixT (K := K)) (pv 0) pe_int (fun _ _ => rfl)) (nomark _))), ?_⟩
  refine ⟨_, rfl, 0, c, n, cs, rfl, ⟨by omega, by omega⟩, h100, hc, hb, fun d l H1 s1 hd k cl => ?_⟩
  refine ⟨d, _, rfl, hd, _, rfl, a, _, _, _, rfl, rfl, SqT.of (s1 _ _ ha), t3_0 _ _ _, rfl, ?_⟩
  rw [List.length_map]
  have e := treeB_eq hn hb (led_reach (s := 0) k cl)
  have : (decide (V.int (l.length : Int) = V.int (n : Int))) = treeB n cs := by
    rw [e]
    rw [Bool.eq_iff_iff, decide_eq_true_iff, decide_eq_true_iff]
    constructor
    · intro z; have := V.int.inj z; omega
    · intro z; rw [z]
  rw [this]
  exact q _ s1
theorem scHa : FnScope ["net", "chosen", "upper", "lower"] ["net", "chosen"] (defScope s_is_half) := ⟨rfl, rfl, rfl, by decide +kernel, rfl, by decide +kernel, by decide +kernel⟩
theorem ok_isHalf (F : Fun K "is_half" "is_half" s_is_half f fd) (G : FnOk P w K mg base CX0 1 g gd ["start", "ropes"] spLed) (bG : Binds K gd ["start", "ropes"] []) (kG : PySem.W.keepIn K (.ref g) = true) (mG : mg "led_to" = some (.ref g)) (ml : mg "len" = none) : FnOk P w K mg base CX0 2 f fd ["net", "chosen"] (spFits 2 halfB) := by
  refine F.ok scHa (fun vs H Q E h => ?_) (fun cdv A outer s H vs Q E hr h => ?_)
  · obtain ⟨a, c, n, rs, cs, rfl, _⟩ := h
    rfl
  obtain ⟨a, c, n, rs, cs, rfl, ⟨rr, tt, ha, _⟩, hc, hb, hn, h100, q⟩ := h
  have hu := hu_of hr
  refine ⟨_, pss_cons (ps_set (i := 2) scHa.nd rfl (Or.inl rfl) (pe_call G hr (by rfl) mG kG bG .nil pass0 (pa_cons pe_int (pa_cons (pv 1) pa_nil))))
    (pss_cons (ps_set (i := 3) scHa.nd rfl (Or.inl rfl) (pe_call G hr (by rfl) mG kG bG .nil pass0 (pa_cons pe_int (pa_cons (pv 1) pa_nil))))
    (pss_one (ps_ret (pe_and (pe_cmp (pc_dnotin hu pe_int (pv 2))) (pe_one (pe_cmpR op_eq (pe_op op_add (pe_callB call_lenD (by rfl) ml bt_len (pa_cons (pv 2) pa_nil)) (pe_callB call_lenD (by rfl) ml bt_len (pa_cons (pv 3) pa_nil))) (pe_ix (ixT (K := K)) (pv 0) pe_int (fun _ _ => rfl)) (nomark _))))))), ?_⟩
  refine ⟨_, rfl, 0, c, n, cs, rfl, ⟨by omega, by omega⟩, h100, hc, hb, fun d0 l0 H1 s1 hd0 k0 cl0 => ?_⟩
  have hc1 : LstR RopeR H1 c cs := mo_lst (R := RopeR) (fun s h => mo_rope s h) s1 hc
  refine ⟨_, rfl, 1, c, n, cs, rfl, ⟨by omega, by omega⟩, h100, hc1, hb, fun d1 l1 H2 s2 hd1 k1 cl1 => ?_⟩
  have e := halfB_eq hn hb (led_reach (s := 0) k0 cl0) (led_reach (s := 1) k1 cl1)
  have hd0' := s2 _ _ hd0
  refine ⟨_, rfl, d0, _, rfl, DGet.k (k := Sum.inl (1 : Int)) hd0', ?_⟩
  rw [val_kvT]
  have fin := q _ (s1.trans s2)
  by_cases h1 : (1 : Int) ∈ l0
  · rw [if_pos h1]
    have : halfB n cs = false := by rw [e]; simp [h1]
    rw [this] at fin
    exact ⟨_, rfl, iteF fin⟩
  · rw [if_neg h1]
    refine ⟨_, rfl, iteT ?_⟩
    refine ⟨_, rfl, d0, _, rfl, hd0', _, rfl, d1, _, rfl, hd1, _, _, rfl, rfl, _, rfl, a, _, _, _, rfl, rfl, SqT.of ((s1.trans s2) _ _ ha), t3_0 _ _ _, rfl, ?_⟩
    rw [List.length_map, List.length_map]
    have : (decide (V.int ((l0.length : Int) + (l1.length : Int)) = V.int (n : Int))) = halfB n cs := by
      rw [e]
      rw [Bool.eq_iff_iff, decide_eq_true_iff, decide_eq_true_iff]
      constructor
      · intro z; have := V.int.inj z; exact ⟨h1, by omega⟩
      · rintro ⟨_, z⟩; rw [← z]; congr 1
    rw [this]
    exact fin
end
end My
/-! currentfloor.trees: fitting_rows, trees, halves -/
namespace My
open PySem L2 Mth Wd
def pickR (rs : List Rope) (row : List Nat) : List Rope := row.map fun k => rs.getD k (0, 0, 0)
theorem pick_ends {n m : Nat} {rs : List Rope} (j : NetJ n m rs) {row : List Nat} (h : ∀ x ∈ row, x < m) : ∀ r ∈ pickR rs row, r.1 < n ∧ r.2.1 < n := fun r hr => by
  obtain ⟨k, hk, rfl⟩ := List.mem_map.mp hr
  have hl : k < rs.length := by rw [j.len]; exact h k hk
  rw [List.getD_eq_getElem?_getD, List.getElem?_eq_getElem hl]
  exact j.ends _ (List.getElem_mem hl)
theorem rope_del {H : Hp} {a b : Addr} {r : Rope} {ys : List V} (h : RopeR H b r) (e : H a = some (.lst ys)) : RopeR (del H a) b r := by
  obtain ⟨x, h1, h2⟩ := h
  refine ⟨x, del_at h1 (fun z => by rw [z, e] at h1; cases h1), FrR.del h2 e⟩
section
variable {P : Program} {w : World} {K : PySem.W.Frag} {mg : Str → Option Value} {base : Heap} {f g h f1 f2 f3 f4 C : Addr} {fd gd hd d1 d2 d3 d4 : FuncData}
def spFit (C g : Addr) (k : Nat) (t : Nat → List Rope → Bool) : Sp := fun vs H Q E => ∃ (a : Addr) (n m : Nat) (rs : List Rope) (size : Nat), vs = [.ref a, .int (size : Int), .ref g] ∧ NetR H a n rs ∧ NetJ n m rs ∧ m ≤ 20 ∧ size + k = n ∧
  (9 < m → ∀ H', Same H H' → E (.ref C) none H') ∧ (m ≤ 9 → ∀ p H', Same H H' → TupR RowN H' p ((riseR m size).filter fun row => t n (pickR rs row)) → Q (.ref p) H')
theorem scFt : FnScope ["net", "size", "fits", "ropes", "rows"] ["net", "size", "fits"] (defScope s_fitting_rows) := ⟨rfl, rfl, rfl, by decide +kernel, rfl, by decide +kernel, by decide +kernel⟩
theorem ndRFNR : (["row", "fits", "net", "ropes"] : List Str).Nodup := by decide +kernel
theorem ndKRo : (["k", "ropes"] : List Str).Nodup := by decide +kernel
theorem filter_snoc {rows : List (List Nat)} {i : Nat} {r : List Nat} (p : List Nat → Bool) (h : rows[i]? = some r) : (rows.take (i+1)).filter p = (rows.take i).filter p ++ (if p r = true then [r] else []) := by
  rw [take_snoc h, List.filter_append]
  congr 1
  cases h' : p r <;> simp [List.filter, h']
set_option maxHeartbeats 1000000 in
seal L2.PSs L2.PS L2.PE L2.PA in
theorem ok_fit {k : Nat} {t : Nat → List Rope → Bool} (hk : 1 ≤ k) (F : Fun K "fitting_rows" "fitting_rows" s_fitting_rows f fd) (G1 : FnOk P w K mg base CX0 1 f1 d1 ["count", "size"] spRise) (b1 : Binds K d1 ["count", "size"] []) (k1 : PySem.W.keepIn K (.ref f1) = true) (m1 : mg "rising_rows" = some (.ref f1))
    (G2 : FnOk P w K mg base CX0 2 g gd ["net", "chosen"] (spFits k t)) (b2 : Binds K gd ["net", "chosen"] []) (k2 : PySem.W.keepIn K (.ref g) = true)
    (mC : mg "TooMany" = some (.ref C)) (xC : PySem.W.excIn K C [.type "ValueError", .type "Exception", .type "BaseException", .type "object"] "ValueError.__new__" = true) (ml : mg "len" = none) (mt : mg "tuple" = none) :
    FnOk P w K mg base (CXr P w) 3 f fd ["net", "size", "fits"] (spFit C g k t) := by
  refine okX F scFt (fun vs H Q E h => ?_) (fun cdv A outer s H vs Q E hr h => ?_)
  · obtain ⟨a, n, m, rs, size, rfl, _⟩ := h
    rfl
  obtain ⟨a, n, m, rs, size, rfl, ⟨ra, tv, ha, cs, hra, hC⟩, J, m20, hsz, q0, q1⟩ := h
  have hr1 := hr.mono (show 1 ≤ 2 by decide)
  refine ⟨_, pss_cons (ps_set (i := 3) scFt.nd rfl (Or.inr rfl) (pe_ix (ixT (K := K)) (pv 0) pe_int (fun _ _ => rfl)))
    (pss_cons (ps_if (pt_cmpR op_gt (pe_callB (callLen (K := K)) (by rfl) ml bt_len (pa_cons (pv 3) pa_nil)) pe_int (nomark _)) (pss_one (ps_raise (by rfl) mC xC PySem.F.excBase_ValueError rfl raise_out (pa_cons pe_str pa_nil))) pss_nil)
    (pss_cons (ps_set (i := 4) scFt.nd rfl (Or.inl rfl) (pe_call (CX := CX0) G1 hr1 (by rfl) m1 k1 b1 .nil (pass0 (X := _)) (pa_cons (pe_callB (callLen (K := K)) (by rfl) ml bt_len (pa_cons (pv 3) pa_nil)) (pa_cons (pv 1) pa_nil))))
    (pss_one (ps_ret (pe_callTy (callTup (K := K)) (by rfl) mt bt_tuple (pa_cons (pe_compF (Nc := ["row", "fits", "net", "ropes"]) (cap := [(1, 2), (2, 0), (3, 3)]) (g := gName 0)
        (tt := tB (tCallV g (tVar 1) (spFits k t) E0 (tCons (tVar 2) (tCons (tComp 2 [(1, 3)] (iTup K (tVar 0)) (gName 0) (tOp (rIxT K) (tVar 1) (tVar 0))) tNil)))) (te := tVar 0) rfl (piLst (K := K) (pv 4))
        (comp_mk rfl rfl (by decide +kernel) (by decide +kernel) (List.forall_mem_cons.mpr ⟨⟨rfl, rfl⟩, List.forall_mem_cons.mpr ⟨⟨rfl, rfl⟩, List.forall_mem_cons.mpr ⟨⟨rfl, rfl⟩, List.forall_mem_nil _⟩⟩⟩) rfl
          (List.forall_mem_cons.mpr ⟨⟨_, _, rfl, rfl, rfl, rfl, rfl⟩, List.forall_mem_cons.mpr ⟨⟨_, _, rfl, rfl, rfl, rfl, rfl⟩, List.forall_mem_cons.mpr ⟨⟨_, _, rfl, rfl, rfl, rfl, rfl⟩, List.forall_mem_nil _⟩⟩⟩))
        (fun C fp pins s' H' => pg_name (i := 0) ndRFNR rfl (Or.inl rfl))
        (fun C fp pins s' H' => pt_val (pe_callV G2 hr (pv 1) k2 b2 pass0 (pa_cons (pv 2) (pa_cons (pe_comp (Nc := ["k", "ropes"]) (cap := [(1, 3)]) (g := gName 0) (te := tOp (rIxT K) (tVar 1) (tVar 0)) rfl (piTup (K := K) (pv 0))
          (comp_mk rfl rfl (by decide +kernel) (by decide +kernel) (List.forall_mem_cons.mpr ⟨⟨rfl, rfl⟩, List.forall_mem_nil _⟩) rfl (List.forall_mem_cons.mpr ⟨⟨_, _, rfl, rfl, rfl, rfl, rfl⟩, List.forall_mem_nil _⟩))
          (fun C fp pins s' H' => pg_name (i := 0) ndKRo rfl (Or.inl rfl)) (fun C fp pins s' H' => pe_ix (ixT (K := K)) (pv 1) (pv 0) (fun _ _ => rfl))) pa_nil))))
        (fun C fp pins s' H' => pv 0)) pa_nil)))))), ?_⟩
  have lcs : (cs.map V.ref).length = m := by rw [List.length_map, hC.1, J.len]
  refine ⟨_, rfl, a, _, _, _, rfl, rfl, SqT.of ha, t3_1 _ _ _, ?_⟩
  refine ⟨_, rfl, ra, _, rfl, .inr (SqT.of hra), _, _, rfl, rfl, _, rfl, ?_⟩
  by_cases h9 : 9 < m
  · refine iteDT (by omega) ?_
    exact ⟨by show 1 ≤ sizeLine; decide, q0 h9 H (Same.refl _)⟩
  refine iteDF (by omega) ?_
  have two := J.two
  have few := J.few
  refine ⟨_, rfl, ra, _, rfl, .inr (SqT.of hra), _, rfl, m, size, by rw [lcs]; rfl, by omega, by omega, fun p H1 s1 _ hp => ?_⟩
  obtain ⟨bs, hp1, hB⟩ := hp
  have few' := rise_few m (by omega) size (by omega)
  refine ⟨_, rfl, p, rfl, ⟨_, SqL.of hp1⟩, fun acc hacc => ?_⟩
  refine comp_runF (run_list hp1) (by rw [List.length_map, hB.1]; omega) hacc (fun i ys σ hp => ∃ gs : List Addr, ys = gs.map V.ref ∧ At RowN hp gs (((riseR m size).take i).filter fun row => t n (pickR rs row)) ∧ ∃ u, σ = [u, some (.ref g), some (.ref a), some (.ref ra)]) ⟨[], rfl, At.nil, none, rfl⟩ ?_ ?_
  · rintro i ys σ H2' x H2 hi sm hacc2 ⟨gs, rfl, hG, u, rfl⟩ ⟨rfl, hx⟩ Cc Nn hCc hNn
    obtain ⟨b, r, rfl, _, hy, hb⟩ := hB.ref hx
    obtain ⟨rl, rb⟩ := rise_len (List.mem_of_getElem? hy)
    have hb2 : H2 b = some (.tup (natV r)) := sm _ _ hb
    have s02 := s1.trans sm
    refine ⟨_, rfl, rfl, _, rfl, _, rfl, b, rfl, ⟨_, SqT.of hb2⟩, fun acc2 hacc3 => ?_⟩
    refine comp_run (run_tup hb2) (by rw [List.length_map]; omega) hacc3 (fun j ys σ hp => ∃ gs' : List Addr, ys = gs'.map V.ref ∧ At RopeR hp gs' ((pickR rs r).take j) ∧ ∃ u, σ = [u, some (.ref ra)]) ⟨[], rfl, At.nil, none, rfl⟩ ?_ ?_
    · rintro j ys σ H3' x H3 hj sm3 hacc4 ⟨gs', rfl, hG', u, rfl⟩ ⟨rfl, hx'⟩ C2 hC2
      rw [List.getElem?_map] at hx'
      obtain ⟨kk, hkk, rfl⟩ := Option.map_eq_some_iff.mp hx'
      have hkm : kk < rs.length := by rw [J.len]; exact rb kk (List.mem_of_getElem? hkk)
      have s03 := s02.trans sm3
      obtain ⟨c, hc, hcR⟩ := hC.get (List.getElem?_eq_getElem hkm)
      refine ⟨_, rfl, _, rfl, ra, _, _, _, rfl, rfl, SqT.of (s03 _ _ hra), atI_nat (ref_at hc), ?_⟩
      refine hC2 _ _ _ (Same.refl _) ⟨gs' ++ [c], by simp, ?_, _, rfl⟩
      have ep : (pickR rs r)[j]? = some rs[kk] := by
        unfold pickR
        rw [List.getElem?_map, hkk]
        simp [List.getD_eq_getElem?_getD, List.getElem?_eq_getElem hkm]
      rw [take_snoc ep]
      exact hG'.snoc (rope_del (mo_rope s03 hcR) hacc4)
    rintro ys σ H3 s3 ha3 hl3 ⟨gs', rfl, hG', u, rfl⟩
    have lp : (pickR rs r).length = size := by unfold pickR; rw [List.length_map, rl]
    rw [List.length_map, rl, List.take_of_length_le (by rw [lp]; exact Nat.le_refl _)] at hG'
    have s03 := s02.trans s3
    refine ⟨a, acc2, n, rs, pickR rs r, rfl, ⟨ra, tv, s03 _ _ ha, cs, s03 _ _ hra, hC.keep mo_rope s03⟩, ⟨gs', ha3, hG'.keep mo_rope (del_sub H3 acc2)⟩, pick_ends J rb, by omega, by omega, fun H4 s4 => ⟨_, rfl, ?_⟩⟩
    have s24 := s3.trans s4
    have fs := filter_snoc (fun row => t n (pickR rs row)) hy
    dsimp only
    by_cases ht : t n (pickR rs r) = true
    · rw [if_pos ht]
      refine ⟨_, rfl, hCc _ _ _ s24 ⟨gs ++ [b], by simp, ?_, _, rfl⟩⟩
      rw [fs, if_pos ht]
      exact (hG.keep mo_rowN (del_mono acc s24)).snoc (RowN.del (t := r) (s24 _ _ hb2) (s24 _ _ hacc2))
    · rw [if_neg ht]
      refine hNn _ _ s24 ⟨gs, rfl, ?_, _, rfl⟩
      rw [fs, if_neg ht, List.append_nil]
      exact hG.keep mo_rowN (del_mono acc s24)
  rintro ys σ H2 s2 ha2 ⟨gs, rfl, hG, u, rfl⟩
  rw [List.length_map, hB.1, List.take_length] at hG
  refine ⟨acc, _, rfl, .inl ⟨SqL.of ha2, fun pp hpp => ?_⟩⟩
  have sp := same_new hpp (.tup (gs.map V.ref))
  exact q1 (by omega) pp _ ((s1.trans s2).trans sp) ⟨gs, upd_same, (hG.keep mo_rowN (del_sub H2 acc)).keep mo_rowN sp⟩
/-- trees or halves of a net -/
def spAll20 (C : Addr) (k : Nat) (t : Nat → List Rope → Bool) : Sp := fun vs H Q E => ∃ (a : Addr) (n m : Nat) (rs : List Rope), vs = [.ref a] ∧ NetR H a n rs ∧ NetJ n m rs ∧ m ≤ 20 ∧
  (9 < m → ∀ H', Same H H' → E (.ref C) none H') ∧ (m ≤ 9 → ∀ p H', Same H H' → TupR RowN H' p ((riseR m (n - k)).filter fun row => t n (pickR rs row)) → Q (.ref p) H')
theorem scTs : FnScope ["net"] ["net"] (defScope s_trees) := ⟨rfl, rfl, rfl, by decide +kernel, rfl, by decide +kernel, by decide +kernel⟩
theorem scHs : FnScope ["net"] ["net"] (defScope s_halves) := ⟨rfl, rfl, rfl, by decide +kernel, rfl, by decide +kernel, by decide +kernel⟩
theorem ok_trees (F : Fun K "trees" "trees" s_trees f fd) (G : FnOk P w K mg base (CXr P w) 3 h hd ["net", "size", "fits"] (spFit C g 1 treeB)) (bG : Binds K hd ["net", "size", "fits"] []) (kG : PySem.W.keepIn K (.ref h) = true) (mG : mg "fitting_rows" = some (.ref h)) (mg1 : mg "is_tree" = some (.ref g)) :
    FnOk P w K mg base (CXr P w) 4 f fd ["net"] (spAll20 C 1 treeB) := by
  refine okX F scTs (fun vs H Q E h => ?_) (fun cdv A outer s H vs Q E hr h => ?_)
  · obtain ⟨a, n, m, rs, rfl, _⟩ := h
    rfl
  obtain ⟨a, n, m, rs, rfl, ⟨ra, tv, ha, hra⟩, J, m20, q0, q1⟩ := h
  refine ⟨_, pss_one (ps_ret (pe_call (CX := CXr P w) (E := E) G hr (by rfl) mG kG bG .nil pass_out (pa_cons (pv 0) (pa_cons (pe_op op_sub (pe_ix (ixT (K := K)) (pv 0) pe_int (fun _ _ => rfl)) pe_int) (pa_cons (pe_glob (v := .ref g) (by rfl) mg1 rfl) pa_nil))))), ?_⟩
  have two := J.two
  exact ⟨_, rfl, _, rfl, a, _, _, _, rfl, rfl, SqT.of ha, t3_0 _ _ _, _, _, rfl, rfl, a, n, m, rs, n - 1, by dsimp only; rw [show ((n : Int) - 1) = ((n - 1 : Nat) : Int) by omega]; rfl, ⟨ra, tv, ha, hra⟩, J, m20, by omega, q0, q1⟩
theorem ok_halves (F : Fun K "halves" "halves" s_halves f fd) (G : FnOk P w K mg base (CXr P w) 3 h hd ["net", "size", "fits"] (spFit C g 2 halfB)) (bG : Binds K hd ["net", "size", "fits"] []) (kG : PySem.W.keepIn K (.ref h) = true) (mG : mg "fitting_rows" = some (.ref h)) (mg1 : mg "is_half" = some (.ref g)) :
    FnOk P w K mg base (CXr P w) 4 f fd ["net"] (spAll20 C 2 halfB) := by
  refine okX F scHs (fun vs H Q E h => ?_) (fun cdv A outer s H vs Q E hr h => ?_)
  · obtain ⟨a, n, m, rs, rfl, _⟩ := h
    rfl
  obtain ⟨a, n, m, rs, rfl, ⟨ra, tv, ha, hra⟩, J, m20, q0, q1⟩ := h
  refine ⟨_, pss_one (ps_ret (pe_call (CX := CXr P w) (E := E) G hr (by rfl) mG kG bG .nil pass_out (pa_cons (pv 0) (pa_cons (pe_op op_sub (pe_ix (ixT (K := K)) (pv 0) pe_int (fun _ _ => rfl)) pe_int) (pa_cons (pe_glob (v := .ref g) (by rfl) mg1 rfl) pa_nil))))), ?_⟩
  have two := J.two
  exact ⟨_, rfl, _, rfl, a, _, _, _, rfl, rfl, SqT.of ha, t3_0 _ _ _, _, _, rfl, rfl, a, n, m, rs, n - 2, by dsimp only; rw [show ((n : Int) - 2) = ((n - 2 : Nat) : Int) by omega]; rfl, ⟨ra, tv, ha, hra⟩, J, m20, by omega, q0, q1⟩
end
end My
/-! the law's own rising rows and marks -/
namespace My
open PySem L2 Mth Wd
theorem natV_int (r : List Nat) : natV r = (r.map fun x : Nat => (x : Int)).map V.int := by unfold natV; rw [List.map_map]; rfl
section
variable {P : Program} {w : World} {K : PySem.W.Frag} {mg : Str → Option Value} {base : Heap} {f g h f1 f2 f3 f4 C : Addr} {fd gd hd d1 d2 d3 d4 : FuncData}
theorem scLR : FnScope ["_law_count", "_law_many", "_law_found", "_law_turn", "_law_longer", "_law_one", "_law_first", "_law_k"] ["_law_count", "_law_many"] (defScope s_law_rising) := ⟨rfl, rfl, rfl, by decide +kernel, rfl, by decide +kernel, by decide +kernel⟩
set_option maxHeartbeats 1000000 in
seal L2.PSs L2.PS L2.PE L2.PA in
theorem ok_lrise (F : Fun K "_law_rising" "_law_rising" s_law_rising f fd) (mr : mg "range" = none) : FnOk P w K mg base CX0 1 f fd ["_law_count", "_law_many"] spRise := by
  refine F.ok scLR (fun vs H Q E h => ?_) (fun cdv A outer s H vs Q E hr h => ?_)
  · obtain ⟨m, n, rfl, _⟩ := h
    rfl
  obtain ⟨m, n, rfl, hm, hn, q⟩ := h
  have hu : (A.deeper (PyProof.Rows.envOfC "_law_rising" (defScope s_law_rising) s.heap.objs.size f cdv)).units + 64 < cLine := hr.units
  refine ⟨_, pss_cons (ps_set (i := 2) scLR.nd rfl (Or.inl rfl) (pe_lst (pa_cons (pe_tup pa_nil) pa_nil)))
    (pss_cons (ps_for PassesOwn.never rfl (pi_range1 (by rfl) mr (pa_cons (pv 1) pa_nil)) (pg_name (i := 3) scLR.nd rfl (Or.inl rfl))
      (pss_cons (ps_set (i := 4) scLR.nd rfl (Or.inl rfl) (pe_lst pa_nil))
      (pss_cons (ps_for PassesOwn.never rfl (pi_list (pv 2)) (pg_name (i := 5) scLR.nd rfl (Or.inl rfl))
        (pss_cons (ps_set (i := 6) scLR.nd rfl (Or.inl rfl) pe_int)
        (pss_cons (ps_if (pt_cmpR (op_ne_tup hu) (pv 5) (pe_tup pa_nil) (nomark _)) (pss_one (ps_set (i := 6) scLR.nd rfl (Or.inl rfl) (pe_op op_add (pe_ix ix_tup (pv 5) (pe_un un_neg pe_int) (fun _ _ => rfl)) pe_int))) pss_nil)
        (pss_one (ps_for PassesOwn.never rfl (pi_range2 (by rfl) mr (pa_cons (pv 6) (pa_cons (pv 0) pa_nil))) (pg_name (i := 7) scLR.nd rfl (Or.inl rfl))
          (pss_one (ps_expr (pe_bm PySem.F.plainAttrs_list PySem.F.slot_list_append PySem.F.type_list_append mt_append (pv 4) (pa_cons (pe_op op_catA (pv 5) (pe_tup (pa_cons (pv 7) pa_nil))) pa_nil)))))))))
      (pss_one (ps_set (i := 2) scLR.nd rfl (Or.inl rfl) (pv 4))))))
    (pss_one (ps_ret (pv 2)))), ?_⟩
  refine ⟨by show 0 ≤ sizeLine; decide, fun t ht => ⟨by show 1 ≤ sizeLine; decide, fun R0 hR0 => ?_⟩⟩
  dsimp only at ht hR0 ⊢
  have s1 := same_new ht (.tup [])
  have e1 : RowN (upd H t (.tup [])) t [] := upd_same
  generalize upd H t (.tup []) = H1 at s1 e1 hR0
  have s2 := same_new hR0 (.lst [.ref t])
  have e2 : LstR RowN (upd H1 R0 (.lst [.ref t])) R0 (riseR m 0) := ⟨[t], upd_same, At.snoc (bs := []) (xs := []) At.nil (mo_rowN s2 e1)⟩
  have s02 := s1.trans s2
  generalize upd H1 R0 (.lst [.ref t]) = H2 at s2 e2 s02
  refine ⟨_, rfl, ((n : Nat) : Int), rfl, by omega, by omega, ?_⟩
  rw [show ((n : Nat) : Int).toNat = n by omega]
  refine for_range (n := n) (fun i σ H3 => Same H H3 ∧ ∃ R u3 u4 u5 u6 u7, σ = [some (.int (m : Int)), some (.int (n : Int)), some (.ref R), u3, u4, u5, u6, u7] ∧ H R = none ∧ LstR RowN H3 R (riseR m i)) ⟨s02, R0, none, none, none, none, none, rfl, s1.free hR0, e2⟩ ?_ ?_
  · rintro i σ H3 hi ⟨s3, R, u3, u4, u5, u6, u7, rfl, _, bs, hR, hB⟩
    refine name_go ?_
    refine ⟨by show 0 ≤ sizeLine; decide, fun L hL => ?_⟩
    have sL := same_new hL (.lst [])
    have eL : (upd H3 L (.lst [])) L = some (.lst (([] : List Addr).map V.ref)) := upd_same
    have nL : H L = none := s3.free hL
    have s4 := s3.trans sL
    have hR4 := sL _ _ hR
    have hB4 := hB.keep mo_rowN sL
    have RL : R ≠ L := fun z => by rw [z, hL] at hR; cases hR
    generalize upd H3 L (.lst []) = H4 at sL eL s4 hR4 hB4
    refine ⟨_, rfl, R, rfl, ⟨_, SqL.of hR4⟩, ?_⟩
    refine for_list (xs := bs.map V.ref) (fun j σ H5 => SameB L H4 H5 ∧ Same H H5 ∧ ∃ gs u5 u6 u7, σ = [some (.int (m : Int)), some (.int (n : Int)), some (.ref R), some (.int ((0 : Int) + (i : Int))), some (.ref L), u5, u6, u7] ∧ H5 L = some (.lst (gs.map V.ref)) ∧ At RowN H5 gs (((riseR m i).take j).flatMap (extR m)))
      ⟨SameB.refl _ _, s4, [], u5, u6, u7, rfl, eL, At.nil⟩ (fun j σ H5 _ h => SqL.of (h.1 _ _ RL hR4)) ?_ ?_
    · rintro j x σ H5 hx ⟨sb5, s5, gs, v5, v6, v7, rfl, hL5, aG⟩
      obtain ⟨b, r, rfl, _, hy, hb⟩ := hB4.ref hx
      have hbL : b ≠ L := fun z => by
        rw [z] at hb
        have := hb.symm.trans eL
        cases this
      have hb5 : RowN H5 b r := sb5 _ _ hbL hb
      obtain ⟨rl, rb⟩ := rise_len (List.mem_of_getElem? hy)
      have lle := least_le rb
      refine name_go ?_
      refine seq_join (G := fun σ H' => H' = H5 ∧ σ = [some (.int (m : Int)), some (.int (n : Int)), some (.ref R), some (.int ((0 : Int) + (i : Int))), some (.ref L), some (.ref b), some (.int 0), v7]) (fun rest => nx_go (rest _ _ ⟨rfl, rfl⟩)) ?_
      rintro σ H6 ⟨rfl, rfl⟩
      refine seq_join (G := fun σ H' => Same H6 H' ∧ σ = [some (.int (m : Int)), some (.int (n : Int)), some (.ref R), some (.int ((0 : Int) + (i : Int))), some (.ref L), some (.ref b), some (.int (leastR r : Int)), v7]) (fun rest => ?_) ?_
      · refine ⟨_, rfl, by show 0 ≤ sizeLine; decide, fun e0 he0 => ?_⟩
        dsimp only at he0 ⊢
        have s7 := same_new he0 (.tup [])
        have e7 : (upd H6 e0 (.tup [])) e0 = some (.tup (([] : List Int).map V.int)) := upd_same
        generalize upd H6 e0 (.tup []) = H7 at s7 e7
        have hb7 : RowN H7 b r := mo_rowN s7 hb5
        refine ⟨b, e0, r.map (fun x : Nat => (x : Int)), [], rfl, rfl, by rw [← natV_int]; exact hb7, e7, _, rfl, ?_⟩
        by_cases hr0 : r = []
        · refine iteNS (by rw [hr0]; rfl) ?_
          refine rest _ _ ⟨s7, ?_⟩
          rw [hr0]; rfl
        · obtain ⟨x, ex, ax⟩ := at_last hr0
          refine iteNN (fun z => hr0 (List.map_eq_nil_iff.mp z)) ?_
          refine ⟨_, rfl, _, rfl, b, _, _, _, rfl, rfl, SqT.of hb7, ax, _, _, rfl, rfl, ?_⟩
          refine rest _ _ ⟨s7, ?_⟩
          rw [ex]; rfl
      rintro σ H7 ⟨s7, rfl⟩
      have hb7 : RowN H7 b r := mo_rowN s7 hb5
      refine ⟨_, rfl, _, rfl, _, _, rfl, ⟨by omega, by omega, by omega, by omega⟩, ?_⟩
      rw [show ((m : Int) - (leastR r : Int)).toNat = m - leastR r by omega]
      have plen := pre_len (m := m) (i := i) (j := j + 1) hm (by omega)
      rw [pre_snoc hy] at plen
      refine for_range (n := m - leastR r) (fun k σ H8 => SameB L H4 H8 ∧ Same H H8 ∧ ∃ gs' u7, σ = [some (.int (m : Int)), some (.int (n : Int)), some (.ref R), some (.int ((0 : Int) + (i : Int))), some (.ref L), some (.ref b), some (.int (leastR r : Int)), u7] ∧ H8 L = some (.lst ((gs ++ gs').map V.ref)) ∧ At RowN H8 (gs ++ gs') (((riseR m i).take j).flatMap (extR m) ++ (extR m r).take k))
        ⟨sb5.trans s7.b, s5.trans s7, [], v7, rfl, by rw [List.append_nil]; exact s7 _ _ hL5, by rw [List.append_nil, List.take_zero, List.append_nil]; exact aG.keep mo_rowN s7⟩ ?_ ?_
      · rintro k σ H8 hk ⟨sb8, s8, gs', w7, rfl, hL8, aG8⟩
        refine name_go ?_
        have hb8 : H8 b = some (.tup (natV r)) := sb8 _ _ hbL hb
        refine ⟨_, rfl, .inl ⟨rfl, _, SqL.of hL8⟩, _, rfl, _, rfl, by show 1 ≤ sizeLine; decide, fun tp htp => ?_⟩
        dsimp only at htp ⊢
        rw [show (leastR r : Int) + (k : Int) = ((leastR r + k : Nat) : Int) by omega] at *
        have s9 := same_new htp (.tup [.int ((leastR r + k : Nat) : Int)])
        have e9 : (upd H8 tp (.tup [.int ((leastR r + k : Nat) : Int)])) tp = some (.tup [.int ((leastR r + k : Nat) : Int)]) := upd_same
        generalize upd H8 tp (.tup [.int ((leastR r + k : Nat) : Int)]) = H9 at s9 e9
        have l8 := aG8.1
        rw [List.length_append, List.length_append, List.length_take] at l8
        rw [List.length_append, ext_len] at plen
        have fin : ∀ p H10, Same H9 H10 → RowN H10 p (r ++ [leastR r + k]) → rAppend (.ref L) [.ref p] H10 (fun _ H11 => SameB L H4 H11 ∧ Same H H11 ∧ ∃ gs' u7, [some (V.int (m : Int)), some (V.int (n : Int)), some (V.ref R), some (V.int ((0 : Int) + (i : Int))), some (V.ref L), some (V.ref b), some (V.int (leastR r : Int)), some (V.int ((leastR r + k : Nat) : Int))] = [some (V.int (m : Int)), some (V.int (n : Int)), some (V.ref R), some (V.int ((0 : Int) + (i : Int))), some (V.ref L), some (V.ref b), some (V.int (leastR r : Int)), u7] ∧ H11 L = some (.lst ((gs ++ gs').map V.ref)) ∧ At RowN H11 (gs ++ gs') (((riseR m i).take j).flatMap (extR m) ++ (extR m r).take (k+1))) := fun p H10 s10 h10 => by
          have s8t := s9.trans s10
          have hL10 := s8t _ _ hL8
          refine ⟨L, _, .ref p, rfl, rfl, hL10, by rw [List.length_map, List.length_append]; exact szl (by omega), ?_⟩
          have eA : (gs ++ gs').map V.ref ++ [V.ref p] = (gs ++ (gs' ++ [p])).map V.ref := by simp
          rw [eA]
          refine ⟨(sb8.trans s8t.b).put _, (s8.trans s8t).up nL _, gs' ++ [p], _, rfl, upd_same, ?_⟩
          rw [take_snoc (ext_at hk), ← List.append_assoc, ← List.append_assoc]
          exact at_row_upd hL10 ((aG8.keep mo_rowN s8t).snoc h10)
        refine ⟨b, tp, _, _, rfl, rfl, SqT.of (s9 _ _ hb8), SqT.of e9, (fun z => by cases z), by rw [List.length_map]; exact szle (by simp; omega), fun z => ?_, fun _ p hp => ?_⟩
        · have : r = [] := List.map_eq_nil_iff.mp z
          subst this
          exact fin tp H9 (Same.refl _) e9
        · refine fin p _ (same_new hp _) ?_
          show (upd H9 p _) p = _
          rw [upd_same, natV_app]
      rintro σ H8 ⟨sb8, s8, gs', w7, rfl, hL8, aG8⟩
      rw [List.take_of_length_le (l := extR m r) (by rw [ext_len]; exact Nat.le_refl _), ← pre_snoc hy] at aG8
      exact ⟨sb8, s8, gs ++ gs', _, _, _, rfl, hL8, aG8⟩
    rintro σ H5 ⟨sb5, s5, gs, v5, v6, v7, rfl, hL5, aG⟩
    rw [List.length_map, hB4.1, List.take_length, ← rise_succ] at aG
    refine ⟨_, rfl, ?_⟩
    exact ⟨s5, L, _, _, _, _, _, rfl, nL, gs, hL5, aG⟩
  · rintro σ H3 ⟨s3, R, u3, u4, u5, u6, u7, rfl, nR, hR⟩
    exact ⟨_, rfl, q _ _ s3 nR hR⟩
/-- the marks of places, or None -/
def spMarks : Sp := fun vs H Q _ => ∃ (a b : Addr) (n m : Nat) (rs : List Rope) (row : List Nat), vs = [.ref a, .ref b] ∧ NetR H a n rs ∧ NetJ n m rs ∧ n ≤ 100 ∧ RowN H b row ∧ (∀ x ∈ row, x < m) ∧ row.length ≤ 100 ∧
  (marksF (List.range n) (pickR rs row) = none → ∀ H', Same H H' → Q .non H') ∧ (∀ ms, marksF (List.range n) (pickR rs row) = some ms → ms.length = n → ∀ l H', Same H H' → H' l = some (.lst (natV ms)) → Q (.ref l) H')
theorem scMa : FnScope ["_law_net_here", "_law_chosen", "_law_marks_here", "_law_rope", "_law_one", "_law_other", "_law_ease_here"] ["_law_net_here", "_law_chosen"] (defScope s_law_marks) := ⟨rfl, rfl, rfl, by decide +kernel, rfl, by decide +kernel, by decide +kernel⟩
theorem ndMa : (["_law_mark", "_law_marks_here", "_law_one", "_law_other"] : List Str).Nodup := by decide +kernel
theorem nat_getD {ms : List Nat} {i : Nat} (h : i < ms.length) : atI (natV ms) ((i : Nat) : Int) = some (.int ((ms.getD i 0 : Nat) : Int)) := nat_at (by rw [List.getD_eq_getElem?_getD, List.getElem?_eq_getElem h]; rfl)
theorem pick_at {rs : List Rope} {row : List Nat} {i k : Nat} (h : row[i]? = some k) : (pickR rs row)[i]? = some (rs.getD k (0, 0, 0)) := by
  unfold pickR
  rw [List.getElem?_map, h]; rfl
set_option maxHeartbeats 1000000 in
seal L2.PSs L2.PS L2.PE L2.PA in
theorem ok_marks (F : Fun K "_law_marks" "_law_marks" s_law_marks f fd) (mr : mg "range" = none) (mi : mg "list" = none) : FnOk P w K mg base CX0 1 f fd ["_law_net_here", "_law_chosen"] spMarks := by
  refine F.ok scMa (fun vs H Q E h => ?_) (fun cdv A outer s H vs Q E hr h => ?_)
  · obtain ⟨a, b, n, m, rs, row, rfl, _⟩ := h
    rfl
  obtain ⟨a, b, n, m, rs, row, rfl, ⟨ra, tv, ha, cs, hra, hC⟩, J, h100, hb, hrow, hl100, q0, q1⟩ := h
  refine ⟨_, pss_cons (ps_set (i := 2) scMa.nd rfl (Or.inr rfl) (pe_listRange rfl (by rfl) mi (by rfl) mr (pe_ix (ixT (K := K)) (pv 0) pe_int (fun _ _ => rfl))))
    (pss_cons (ps_for PassesOwn.never rfl (piTup (K := K) (pv 1)) (pg_name (i := 3) scMa.nd rfl (Or.inl rfl))
      (pss_cons (ps_asg (pe_ix (ixT (K := K)) (pe_ix (ixT (K := K)) (pv 0) pe_int (fun _ _ => rfl)) (pv 3) (fun _ _ => rfl)) (pg_tup rfl (pgs_cons (pg_name (i := 4) scMa.nd rfl (Or.inr rfl)) (pgs_cons (pg_name (i := 5) scMa.nd rfl (Or.inr rfl)) (pgs_cons (pg_name (i := 6) scMa.nd rfl (Or.inl rfl)) pgs_nil)))))
      (pss_cons (ps_if (pt_cmpR op_eq (pe_ix (ixL (K := K)) (pv 2) (pv 4) (fun _ _ => rfl)) (pe_ix (ixL (K := K)) (pv 2) (pv 5) (fun _ _ => rfl)) (nomark _)) (pss_one (ps_ret pe_non)) pss_nil)
      (pss_one (ps_set (i := 2) scMa.nd rfl (Or.inr rfl) (pe_comp (Nc := ["_law_mark", "_law_marks_here", "_law_one", "_law_other"]) (cap := [(1, 2), (2, 4), (3, 5)]) (g := gName 0)
        (te := tIf (tTest (tOp rEq (tVar 0) (tOp (rIxL K) (tVar 1) (tVar 3)))) (tOp (rIxL K) (tVar 1) (tVar 2)) (tVar 0)) rfl (piLst (K := K) (pv 2))
        (comp_mk rfl rfl (by decide +kernel) (by decide +kernel) (List.forall_mem_cons.mpr ⟨⟨rfl, rfl⟩, List.forall_mem_cons.mpr ⟨⟨rfl, rfl⟩, List.forall_mem_cons.mpr ⟨⟨rfl, rfl⟩, List.forall_mem_nil _⟩⟩⟩) rfl
          (List.forall_mem_cons.mpr ⟨⟨_, _, rfl, rfl, rfl, rfl, rfl⟩, List.forall_mem_cons.mpr ⟨⟨_, _, rfl, rfl, rfl, rfl, rfl⟩, List.forall_mem_cons.mpr ⟨⟨_, _, rfl, rfl, rfl, rfl, rfl⟩, List.forall_mem_nil _⟩⟩⟩))
        (fun C fp pins s' H' => pg_name (i := 0) ndMa rfl (Or.inl rfl))
        (fun C fp pins s' H' => pe_ifExp (pt_cmpR op_eq (pv 0) (pe_ix (ixL (K := K)) (pv 1) (pv 3) (fun _ _ => rfl)) (nomark _)) (pe_ix (ixL (K := K)) (pv 1) (pv 2) (fun _ _ => rfl)) (pv 0))))))))
    (pss_one (ps_ret (pv 2)))), ?_⟩
  have two := J.two
  refine ⟨_, rfl, a, _, _, _, rfl, rfl, SqT.of ha, t3_0 _ _ _, n, rfl, by omega, fun l0 hl0 => ?_⟩
  have s1 := same_new hl0 (.lst (natV (List.range n)))
  have e1 : (upd H l0 (.lst (natV (List.range n)))) l0 = some (.lst (natV (List.range n))) := upd_same
  generalize upd H l0 (.lst (natV (List.range n))) = H1 at s1 e1
  refine ⟨_, rfl, b, rfl, ⟨_, SqT.of (s1 _ _ hb)⟩, ?_⟩
  refine for_tup (xs := natV row) (fun i σ H2 => Same H H2 ∧ ∃ l ms u3 u4 u5 u6, σ = [some (.ref a), some (.ref b), some (.ref l), u3, u4, u5, u6] ∧ H2 l = some (.lst (natV ms)) ∧ MarkK n ms ∧ marksF (List.range n) (pickR rs row) = marksF ms ((pickR rs row).drop i))
    ⟨s1, l0, _, none, none, none, none, rfl, e1, mark0 n, rfl⟩ (fun i σ H2 _ h => SqT.of (h.1 _ _ hb)) ?_ ?_
  · rintro i x σ H2 hx ⟨s2, l, ms, u3, u4, u5, u6, rfl, hl2, mk, em⟩
    rw [List.getElem?_map] at hx
    obtain ⟨k, hk, rfl⟩ := Option.map_eq_some_iff.mp hx
    have hkm : k < rs.length := by rw [J.len]; exact hrow k (List.mem_of_getElem? hk)
    obtain ⟨c, hc, hcR⟩ := hC.get (List.getElem?_eq_getElem hkm)
    obtain ⟨r1, r2⟩ := J.ends _ (List.getElem_mem hkm)
    have ep := pick_at (rs := rs) hk
    rw [List.getD_eq_getElem?_getD, List.getElem?_eq_getElem hkm, Option.getD_some] at ep
    generalize rs[k] = r at hcR r1 r2 ep
    obtain ⟨hil, eil⟩ := List.getElem?_eq_some_iff.mp ep
    rw [List.drop_eq_getElem_cons hil, eil] at em
    obtain ⟨e, hc1, he⟩ := mo_rope s2 hcR
    refine name_go ?_
    have g1 := nat_getD (ms := ms) (i := r.1) (by rw [mk.len]; exact r1)
    have g2 := nat_getD (ms := ms) (i := r.2.1) (by rw [mk.len]; exact r2)
    refine ⟨_, rfl, a, _, _, _, rfl, rfl, SqT.of (s2 _ _ ha), t3_1 _ _ _, _, rfl, ra, _, _, _, rfl, rfl, SqT.of (s2 _ _ hra), atI_nat (ref_at hc), c, _, rfl, SqT.of hc1, rfl, _, _, rfl, _, _, rfl, _, _, rfl, rfl, ?_⟩
    refine ⟨_, rfl, _, rfl, l, _, _, _, rfl, rfl, SqL.of hl2, g1, _, rfl, _, rfl, l, _, _, _, rfl, rfl, SqL.of hl2, g2, rfl, _, rfl, ?_⟩
    by_cases heq : ms.getD r.1 0 = ms.getD r.2.1 0
    · refine iteDT (iv (by rw [heq])) ?_
      refine q0 ?_ H2 s2
      rw [em]
      unfold marksF
      rw [if_pos heq]
    · refine iteDF (ivn (by omega)) ?_
      refine ⟨_, rfl, l, rfl, ⟨_, SqL.of hl2⟩, fun acc hacc => ?_⟩
      refine comp_run (run_list hl2) (by rw [List.length_map, mk.len]; omega) hacc (fun j ys σ _ => ys = natV ((joinM ms r).take j) ∧ ∃ u, σ = [u, some (.ref l), some (.int (r.1 : Int)), some (.int (r.2.1 : Int))]) ⟨rfl, none, rfl⟩ ?_ ?_
      · rintro j ys σ H3' x H3 hj sm hacc2 ⟨rfl, u, rfl⟩ ⟨rfl, hx'⟩ Cc hCc
        rw [List.getElem?_map] at hx'
        obtain ⟨y, hy, rfl⟩ := Option.map_eq_some_iff.mp hx'
        have ej : (joinM ms r)[j]? = some (if y = ms.getD r.2.1 0 then ms.getD r.1 0 else y) := by unfold joinM; rw [List.getElem?_map, hy]; rfl
        refine ⟨_, rfl, _, rfl, _, rfl, l, _, _, _, rfl, rfl, SqL.of (sm _ _ hl2), g2, rfl, _, rfl, ?_⟩
        by_cases hye : y = ms.getD r.2.1 0
        · refine iteDT (iv (by rw [hye])) ?_
          rw [if_pos hye] at ej
          refine ⟨_, rfl, _, rfl, l, _, _, _, rfl, rfl, SqL.of (sm _ _ hl2), g1, hCc _ _ _ (Same.refl _) ⟨?_, _, rfl⟩⟩
          rw [take_snoc ej, natV_app]
        · refine iteDF (ivn (by omega)) ?_
          rw [if_neg hye] at ej
          refine ⟨_, rfl, hCc _ _ _ (Same.refl _) ⟨?_, _, rfl⟩⟩
          rw [take_snoc ej, natV_app]
      rintro ys σ H3 s3 ha3 hl3 ⟨rfl, u, rfl⟩
      have mk' := mk.join (r := r) r1
      rw [List.length_map, mk.len, List.take_of_length_le (by rw [mk'.len]; exact Nat.le_refl _)] at ha3
      refine ⟨s2.trans s3, acc, joinM ms r, _, _, _, _, rfl, ha3, mk', ?_⟩
      rw [em]
      conv => lhs; unfold marksF
      rw [if_neg heq]
  · rintro σ H2 ⟨s2, l, ms, u3, u4, u5, u6, rfl, hl2, mk, em⟩
    have el : (natV row).length = (pickR rs row).length := by unfold pickR; rw [List.length_map, List.length_map]
    rw [el, List.drop_length] at em
    exact ⟨_, rfl, q1 ms em mk.len l H2 s2 hl2⟩
end
end My
/-! the law's trees and halves; rows compared -/
namespace My
open PySem L2 Mth Wd
section
variable {P : Program} {w : World} {K : PySem.W.Frag} {mg : Str → Option Value} {base : Heap} {f g h f1 f2 f3 f4 C : Addr} {fd gd hd d1 d2 d3 d4 : FuncData}
def spLT (k : Nat) (t : Nat → List Rope → Bool) : Sp := fun vs H Q _ => ∃ (a : Addr) (n m : Nat) (rs : List Rope), vs = [.ref a] ∧ NetR H a n rs ∧ NetJ n m rs ∧ m ≤ 9 ∧ ∀ p H', Same H H' → LstR RowN H' p ((riseR m (n - k)).filter fun row => t n (pickR rs row)) → Q (.ref p) H'
theorem scLTr : FnScope ["_law_net_here"] ["_law_net_here"] (defScope s_law_trees) := ⟨rfl, rfl, rfl, by decide +kernel, rfl, by decide +kernel, by decide +kernel⟩
theorem ndON : (["_law_one", "_law_net_here"] : List Str).Nodup := by decide +kernel
abbrev rNotN : R2 := fun x y H Q => y = .non ∧ Q (.bl (!decide (x = .non))) H
theorem nn_ref (l : Addr) : ¬ (V.ref l = V.non) := fun z => by cases z
set_option maxHeartbeats 1000000 in
theorem ok_ltrees (F : Fun K "_law_trees" "_law_trees" s_law_trees f fd) (G1 : FnOk P w K mg base CX0 1 f1 d1 ["_law_count", "_law_many"] spRise) (b1 : Binds K d1 ["_law_count", "_law_many"] []) (k1 : PySem.W.keepIn K (.ref f1) = true) (m1 : mg "_law_rising" = some (.ref f1))
    (G2 : FnOk P w K mg base CX0 1 f2 d2 ["_law_net_here", "_law_chosen"] spMarks) (b2 : Binds K d2 ["_law_net_here", "_law_chosen"] []) (k2 : PySem.W.keepIn K (.ref f2) = true) (m2 : mg "_law_marks" = some (.ref f2)) (ml : mg "len" = none) : FnOk P w K mg base CX0 2 f fd ["_law_net_here"] (spLT 1 treeB) := by
  refine F.ok scLTr (fun vs H Q E h => ?_) (fun cdv A outer s H vs Q E hr h => ?_)
  · obtain ⟨a, n, m, rs, rfl, _⟩ := h
    rfl
  obtain ⟨a, n, m, rs, rfl, ⟨ra, tv, ha, cs, hra, hC⟩, J, hm, q⟩ := h
  refine ⟨_, pss_one (ps_ret (pe_compF (Nc := ["_law_one", "_law_net_here"]) (cap := [(1, 0)]) (g := gName 0) (tt := tTest (tOp rNotN (tCall spMarks [] E0 (tCons (tVar 1) (tCons (tVar 0) tNil))) (tC .non))) (te := tVar 0) rfl
      (piLst (K := K) (pe_call G1 hr (by rfl) m1 k1 b1 .nil pass0 (pa_cons (pe_callB (callLen (K := K)) (by rfl) ml bt_len (pa_cons (pe_ix (ixT (K := K)) (pv 0) pe_int (fun _ _ => rfl)) pa_nil)) (pa_cons (pe_op op_sub (pe_ix (ixT (K := K)) (pv 0) pe_int (fun _ _ => rfl)) pe_int) pa_nil))))
      (comp_mk rfl rfl (by decide +kernel) (by decide +kernel) (List.forall_mem_cons.mpr ⟨⟨rfl, rfl⟩, List.forall_mem_nil _⟩) rfl (List.forall_mem_cons.mpr ⟨⟨_, _, rfl, rfl, rfl, rfl, rfl⟩, List.forall_mem_nil _⟩))
      (fun C fp pins s' H' => pg_name (i := 0) ndON rfl (Or.inl rfl))
      (fun C fp pins s' H' => pt_cmpR op_notN (pe_call G2 hr (by rfl) m2 k2 b2 .nil pass0 (pa_cons (pv 1) (pa_cons (pv 0) pa_nil))) pe_non (nomark _))
      (fun C fp pins s' H' => pv 0))), ?_⟩
  have two := J.two
  have few := J.few
  have lcs : (cs.map V.ref).length = m := by rw [List.length_map, hC.1, J.len]
  refine ⟨_, rfl, a, _, _, _, rfl, rfl, SqT.of ha, t3_1 _ _ _, ra, _, rfl, .inr (SqT.of hra), _, rfl, a, _, _, _, rfl, rfl, SqT.of ha, t3_0 _ _ _, _, _, rfl, rfl, m, n - 1, ?_, by omega, by omega, fun p H1 s1 _ hp => ?_⟩
  · dsimp only
    rw [lcs, show ((n : Int) - 1) = ((n - 1 : Nat) : Int) by omega]; rfl
  obtain ⟨bs, hp1, hB⟩ := hp
  have few' := rise_few m (by omega) (n - 1) (by omega)
  refine ⟨p, rfl, ⟨_, SqL.of hp1⟩, fun acc hacc => ?_⟩
  refine comp_runF (run_list hp1) (by rw [List.length_map, hB.1]; omega) hacc (fun i ys σ hp => ∃ gs : List Addr, ys = gs.map V.ref ∧ At RowN hp gs (((riseR m (n - 1)).take i).filter fun row => treeB n (pickR rs row)) ∧ ∃ u, σ = [u, some (.ref a)]) ⟨[], rfl, At.nil, none, rfl⟩ ?_ ?_
  · rintro i ys σ H2' x H2 hi sm hacc2 ⟨gs, rfl, hG, u, rfl⟩ ⟨rfl, hx⟩ Cc Nn hCc hNn
    obtain ⟨b, r, rfl, _, hy, hb⟩ := hB.ref hx
    obtain ⟨rl, rb⟩ := rise_len (List.mem_of_getElem? hy)
    have hb2 : H2 b = some (.tup (natV r)) := sm _ _ hb
    have s02 := s1.trans sm
    have fs := filter_snoc (fun row => treeB n (pickR rs row)) hy
    refine ⟨_, rfl, _, rfl, a, b, n, m, rs, r, rfl, ⟨ra, tv, s02 _ _ ha, cs, s02 _ _ hra, hC.keep mo_rope s02⟩, J, by omega, hb2, rb, by omega, fun hnone H3 s3 => ⟨rfl, _, rfl, ?_⟩, fun ms hms _ l H3 s3 hl => ⟨rfl, _, rfl, ?_⟩⟩
    · have ht : treeB n (pickR rs r) = false := by unfold treeB; rw [hnone]; rfl
      refine hNn _ _ s3 ⟨gs, rfl, ?_, _, rfl⟩
      rw [fs, if_neg (by rw [ht]; decide), List.append_nil]
      exact hG.keep mo_rowN (del_mono acc s3)
    · have ht : treeB n (pickR rs r) = true := by unfold treeB; rw [hms]; rfl
      refine ⟨_, rfl, hCc _ _ _ s3 ⟨gs ++ [b], by simp, ?_, _, rfl⟩⟩
      rw [fs, if_pos ht]
      exact (hG.keep mo_rowN (del_mono acc s3)).snoc (RowN.del (t := r) (s3 _ _ hb2) (s3 _ _ hacc2))
  rintro ys σ H2 s2 ha2 ⟨gs, rfl, hG, u, rfl⟩
  rw [List.length_map, hB.1, List.take_length] at hG
  exact q acc H2 (s1.trans s2) ⟨gs, ha2, hG.keep mo_rowN (del_sub H2 acc)⟩
theorem scLHa : FnScope ["_law_net_here", "_law_found", "_law_one", "_law_marks_here"] ["_law_net_here"] (defScope s_law_halves) := ⟨rfl, rfl, rfl, by decide +kernel, rfl, by decide +kernel, by decide +kernel⟩
set_option maxHeartbeats 1000000 in
seal L2.PSs L2.PS L2.PE L2.PA in
theorem ok_lhalves (F : Fun K "_law_halves" "_law_halves" s_law_halves f fd) (G1 : FnOk P w K mg base CX0 1 f1 d1 ["_law_count", "_law_many"] spRise) (b1 : Binds K d1 ["_law_count", "_law_many"] []) (k1 : PySem.W.keepIn K (.ref f1) = true) (m1 : mg "_law_rising" = some (.ref f1))
    (G2 : FnOk P w K mg base CX0 1 f2 d2 ["_law_net_here", "_law_chosen"] spMarks) (b2 : Binds K d2 ["_law_net_here", "_law_chosen"] []) (k2 : PySem.W.keepIn K (.ref f2) = true) (m2 : mg "_law_marks" = some (.ref f2)) (ml : mg "len" = none) : FnOk P w K mg base CX0 2 f fd ["_law_net_here"] (spLT 2 halfB) := by
  refine F.ok scLHa (fun vs H Q E h => ?_) (fun cdv A outer s H vs Q E hr h => ?_)
  · obtain ⟨a, n, m, rs, rfl, _⟩ := h
    rfl
  obtain ⟨a, n, m, rs, rfl, ⟨ra, tv, ha, cs, hra, hC⟩, J, hm, q⟩ := h
  refine ⟨_, pss_cons (ps_set (i := 1) scLHa.nd rfl (Or.inl rfl) (pe_lst pa_nil))
    (pss_cons (ps_for PassesOwn.never rfl (piLst (K := K) (pe_call G1 hr (by rfl) m1 k1 b1 .nil pass0 (pa_cons (pe_callB (callLen (K := K)) (by rfl) ml bt_len (pa_cons (pe_ix (ixT (K := K)) (pv 0) pe_int (fun _ _ => rfl)) pa_nil)) (pa_cons (pe_op op_sub (pe_ix (ixT (K := K)) (pv 0) pe_int (fun _ _ => rfl)) pe_int) pa_nil)))) (pg_name (i := 2) scLHa.nd rfl (Or.inl rfl))
      (pss_cons (ps_set (i := 3) scLHa.nd rfl (Or.inl rfl) (pe_call G2 hr (by rfl) m2 k2 b2 .nil pass0 (pa_cons (pv 0) (pa_cons (pv 2) pa_nil))))
      (pss_one (ps_if (PW.pt (pw_and (pt_cmpR op_notN (pv 3) pe_non (nomark _)) (pw_and1 (pt_cmpR op_ne (pe_ix (ixL (K := K)) (pv 3) pe_int (fun _ _ => rfl)) (pe_ix (ixL (K := K)) (pv 3) pe_int (fun _ _ => rfl)) (nomark _)))))
        (pss_one (ps_expr (pe_bm PySem.F.plainAttrs_list PySem.F.slot_list_append PySem.F.type_list_append mt_append (pv 1) (pa_cons (pv 2) pa_nil)))) pss_nil))))
    (pss_one (ps_ret (pv 1)))), ?_⟩
  have two := J.two
  have few := J.few
  have lcs : (cs.map V.ref).length = m := by rw [List.length_map, hC.1, J.len]
  refine ⟨by show 0 ≤ sizeLine; decide, fun L hL => ?_⟩
  have sL := same_new hL (.lst [])
  have eL : (upd H L (.lst [])) L = some (.lst (([] : List Addr).map V.ref)) := upd_same
  generalize upd H L (.lst []) = H0 at sL eL
  refine ⟨_, rfl, a, _, _, _, rfl, rfl, SqT.of (sL _ _ ha), t3_1 _ _ _, ra, _, rfl, .inr (SqT.of (sL _ _ hra)), _, rfl, a, _, _, _, rfl, rfl, SqT.of (sL _ _ ha), t3_0 _ _ _, _, _, rfl, rfl, m, n - 2, ?_, by omega, by omega, fun p H1 s1 np hp => ?_⟩
  · dsimp only
    rw [lcs, show ((n : Int) - 2) = ((n - 2 : Nat) : Int) by omega]; rfl
  obtain ⟨bs, hp1, hB⟩ := hp
  have few' := rise_few m (by omega) (n - 2) (by omega)
  have s01 := sL.trans s1
  have eL1 := s1 _ _ eL
  have pL : p ≠ L := fun z => by rw [z, eL] at np; cases np
  refine ⟨p, rfl, ⟨_, SqL.of hp1⟩, ?_⟩
  refine for_list (xs := bs.map V.ref) (fun i σ H2 => SameB L H1 H2 ∧ Same H H2 ∧ ∃ gs u2 u3, σ = [some (.ref a), some (.ref L), u2, u3] ∧ H2 L = some (.lst (gs.map V.ref)) ∧ At RowN H2 gs (((riseR m (n - 2)).take i).filter fun row => halfB n (pickR rs row)))
    ⟨SameB.refl _ _, s01, [], none, none, rfl, eL1, At.nil⟩ (fun i σ H2 _ h => SqL.of (h.1 _ _ pL hp1)) ?_ ?_
  · rintro i x σ H2 hx ⟨sb2, s2, gs, u2, u3, rfl, hL2, hG⟩
    obtain ⟨b, r, rfl, _, hy, hb⟩ := hB.ref hx
    obtain ⟨rl, rb⟩ := rise_len (List.mem_of_getElem? hy)
    have hbL : b ≠ L := fun z => by
      rw [z] at hb
      have := hb.symm.trans eL1
      cases this
    have hb2 : H2 b = some (.tup (natV r)) := sb2 _ _ hbL hb
    have hi : i < (riseR m (n - 2)).length := (List.getElem?_eq_some_iff.mp hy).1
    have fs := filter_snoc (fun row => halfB n (pickR rs row)) hy
    have gl : gs.length ≤ i := by
      rw [hG.1]
      refine Nat.le_trans (List.length_filter_le ..) ?_
      rw [List.length_take]; omega
    refine name_go ?_
    refine ⟨_, rfl, _, rfl, a, b, n, m, rs, r, rfl, ⟨ra, tv, s2 _ _ ha, cs, s2 _ _ hra, hC.keep mo_rope s2⟩, J, by omega, hb2, rb, by omega, fun hnone H3 s3 => ?_, fun ms hms hlen l H3 s3 hl => ?_⟩
    · have ht : halfB n (pickR rs r) = false := by unfold halfB; rw [hnone]
      refine ⟨_, rfl, rfl, _, rfl, iteNS rfl ?_⟩
      refine ⟨sb2.trans s3.b, s2.trans s3, gs, _, _, rfl, s3 _ _ hL2, ?_⟩
      rw [fs, if_neg (by rw [ht]; decide), List.append_nil]
      exact hG.keep mo_rowN s3
    · have g0 := nat_getD (ms := ms) (i := 0) (by omega)
      have g1 := nat_getD (ms := ms) (i := 1) (by omega)
      refine ⟨_, rfl, rfl, _, rfl, iteNN (nn_ref l) ?_⟩
      refine ⟨_, rfl, l, _, _, _, rfl, rfl, SqL.of hl, g0, _, rfl, l, _, _, _, rfl, rfl, SqL.of hl, g1, rfl, _, rfl, ?_⟩
      by_cases he : ms.getD 0 0 = ms.getD 1 0
      · have ht : halfB n (pickR rs r) = false := by unfold halfB; rw [hms]; exact decide_eq_false fun z => z he
        refine iteNS (iv (by rw [he])) ?_
        refine ⟨sb2.trans s3.b, s2.trans s3, gs, _, _, rfl, s3 _ _ hL2, ?_⟩
        rw [fs, if_neg (by rw [ht]; decide), List.append_nil]
        exact hG.keep mo_rowN s3
      · have ht : halfB n (pickR rs r) = true := by unfold halfB; rw [hms]; exact decide_eq_true he
        refine iteNN (ivn (by omega)) ?_
        have hL3 := s3 _ _ hL2
        refine ⟨_, rfl, .inl ⟨rfl, _, SqL.of hL3⟩, _, rfl, L, _, .ref b, rfl, rfl, hL3, by rw [List.length_map]; exact szl (by omega), ?_⟩
        have eA : gs.map V.ref ++ [V.ref b] = (gs ++ [b]).map V.ref := by simp
        rw [eA]
        refine ⟨(sb2.trans s3.b).put _, (s2.trans s3).up hL _, gs ++ [b], _, _, rfl, upd_same, ?_⟩
        rw [fs, if_pos ht]
        exact at_row_upd hL3 ((hG.keep mo_rowN s3).snoc (mo_rowN s3 hb2))
  · rintro σ H2 ⟨sb2, s2, gs, u2, u3, rfl, hL2, hG⟩
    rw [List.length_map, hB.1, List.take_length] at hG
    exact ⟨_, rfl, q L H2 s2 ⟨gs, hL2, hG⟩⟩
end
end My
/-! rows compared; refusals; the law -/
namespace L2
open PySem PySem.Spec PyProof.Rows
/-- a choice of two within try -/
theorem pxs_if {X : Cx} {c : PySem.Expr} {a b : List Stmt} {tc : TT} {ta tb : TXS} {pos : Pos} (hc : PT X.nox c tc) (ha : PXS X a ta) (hb : PXS X b tb) : PXS X [.If c a b pos] (fun D σ H E => tc σ H fun k H1 => if k = true then ta D σ H1 E else tb D σ H1 E) := by
  intro pins s σ H D E W I h hW
  refine wpAny_execs_cons (wpAny_If (wpAny_mono (hc pins s σ H _ (I.wish _) h) (fun d s1 ⟨H1, I1', q1⟩ => ?_) fun _ _ z => False.elim z))
  have I1 : Inv X pins σ H1 s1 := I1'.unwish
  have fin : ∀ {body : List Stmt}, wpAny (model X.prog X.w) X.A (execs body X.env) (SP X pins D) W s1 → wpAny (model X.prog X.w) X.A (execs body X.env) (fun f s' => match f with | .next => wpAny (model X.prog X.w) X.A (execs [] X.env) (SP X pins D) W s' | f => SP X pins D f s') W s1 := fun z =>
    wpAny_mono z (fun f s2 q => by
      cases f with
      | next => exact wpAny_execs_nil q
      | ret v => exact q
      | brk => exact q
      | cont => exact q) fun _ _ z => z
  cases d with
  | true => exact fin (ha pins s1 σ H1 D E W I1 q1 hW)
  | false => exact fin (hb pins s1 σ H1 D E W I1 q1 hW)
end L2
namespace My
open PySem L2 Mth Wd
section
variable {P : Program} {w : World} {K : PySem.W.Frag} {mg : Str → Option Value} {base : Heap} {f g h f1 f2 f3 f4 f5 f6 f7 f8 C CF CL CA : Addr} {fd gd hd d1 d2 d3 d4 d5 d6 d7 d8 : FuncData}
def spRows : Sp := fun vs H Q _ => ∃ (p d : Addr) (rows : List (List Nat)), vs = [.ref p, .ref d] ∧ TupR RowN H p rows ∧ LstR RowN H d rows ∧ rows.length ≤ 126 ∧ (∀ r ∈ rows, r.length ≤ 9) ∧ ∀ H', Same H H' → Q (.bl true) H'
theorem scRw : FnScope ["_law_found", "_law_due", "_law_row"] ["_law_found", "_law_due"] (defScope s_law_rows) := ⟨rfl, rfl, rfl, by decide +kernel, rfl, by decide +kernel, by decide +kernel⟩
theorem ndK1 : (["_law_k"] : List Str).Nodup := by decide +kernel
theorem bt_ValueError : bootBuiltins "ValueError" = some (.type "ValueError") := by decide +kernel
def datR (r : List Nat) : PyData := .tuple (r.map fun x : Nat => PyData.int (x : Int))
theorem rd_rowN {H : Hp} {b : Addr} {r : List Nat} (h : RowN H b r) : RdD H (.ref b) (datR r) := by
  refine .tup h (by rw [List.length_map, List.length_map]) fun i x d e1 e2 => ?_
  rw [List.getElem?_map] at e1 e2
  obtain ⟨y, hy, rfl⟩ := Option.map_eq_some_iff.mp e1
  rw [hy] at e2
  cases e2
  exact .int _
theorem shp_row (r : List Nat) : Shp 1 (datR r) := .tup fun d hd => by
  obtain ⟨x, _, rfl⟩ := List.mem_map.mp hd
  exact .int _
theorem rd_rows {H : Hp} {bs : List Addr} {rows : List (List Nat)} (h : At RowN H bs rows) : ∀ (i : Nat) (x : V) (d : PyData), (bs.map V.ref)[i]? = some x → (rows.map datR)[i]? = some d → RdD H x d := fun i x d e1 e2 => by
  rw [List.getElem?_map] at e1 e2
  obtain ⟨b, hb, rfl⟩ := Option.map_eq_some_iff.mp e1
  obtain ⟨r, hr, rfl⟩ := Option.map_eq_some_iff.mp e2
  exact rd_rowN (h.2 i b r hb hr)
set_option maxHeartbeats 1000000 in
theorem ok_rows (F : Fun K "_law_rows" "_law_rows" s_law_rows f fd) (ms : mg "isinstance" = none) (mt : mg "tuple" = none) (ml : mg "len" = none) (man : mg "any" = none) (mb : mg "bool" = none) (mi : mg "int" = none) (mli : mg "list" = none) : FnOk P w K mg base CX0 1 f fd ["_law_found", "_law_due"] spRows := by
  refine F.ok scRw (fun vs H Q E h => ?_) (fun cdv A outer s H vs Q E hr h => ?_)
  · obtain ⟨p, d, rows, rfl, _⟩ := h
    rfl
  obtain ⟨p, d, rows, rfl, ⟨bs, hp, hB⟩, ⟨ds, hd, hD⟩, h126, h9, q⟩ := h
  have hu : (A.deeper (PyProof.Rows.envOfC "_law_rows" (defScope s_law_rows) s.heap.objs.size f cdv)).units + 64 < cLine := hr.units
  refine ⟨_, pss_cons (ps_if (PW.pt (pw_or (pt_not (pt_val (pe_callB (call_isi (c := .ty "tuple") (cv := .type "tuple") fun _ z => z) (by rfl) ms bt_isinstance (pa_cons (pv 0) (pa_cons (pe_bltn (v := .ty "tuple") (by rfl) mt bt_tuple rfl) pa_nil)))))
        (pw_or1 (pt_cmpR op_ne (pe_callB (callLen (K := K)) (by rfl) ml bt_len (pa_cons (pv 0) pa_nil)) (pe_callB (callLen (K := K)) (by rfl) ml bt_len (pa_cons (pv 1) pa_nil)) (nomark _))))) (pss_one (ps_ret pe_bl)) pss_nil)
    (pss_cons (ps_for PassesOwn.never rfl (piTup (K := K) (pv 0)) (pg_name (i := 2) scRw.nd rfl (Or.inl rfl))
      (pss_one (ps_if (PW.pt (pw_or (pt_not (pt_val (pe_callB (call_isi (c := .ty "tuple") (cv := .type "tuple") fun _ z => z) (by rfl) ms bt_isinstance (pa_cons (pv 2) (pa_cons (pe_bltn (v := .ty "tuple") (by rfl) mt bt_tuple rfl) pa_nil)))))
        (pw_or1 (pt_val (pe_callB (call_anyB rfl) (by rfl) man bt_any (pa_cons (pe_comp (Nc := ["_law_k"]) (cap := []) (g := gName 0)
          (te := tOrV (tCB (rIsi K (.ty "bool") (.type "bool")) (tCons (tVar 0) (tCons (tC (.ty "bool")) tNil))) (tNotV (tCB (rIsi K (.ty "int") (.type "int")) (tCons (tVar 0) (tCons (tC (.ty "int")) tNil))))) rfl (piTup (K := K) (pv 2))
          (comp_mk rfl rfl (by decide +kernel) (by decide +kernel) (List.forall_mem_nil _) rfl (List.forall_mem_nil _)) (fun C fp pins s' H' => pg_name (i := 0) ndK1 rfl (Or.inl rfl))
          (fun C fp pins s' H' => pe_or (pe_callB (call_isi (c := .ty "bool") (cv := .type "bool") fun _ z => z) (by rfl) ms bt_isinstance (pa_cons (pv 0) (pa_cons (pe_bltn (v := .ty "bool") (by rfl) mb bt_bool rfl) pa_nil)))
            (pe_one (pe_not (pe_callB (call_isi (c := .ty "int") (cv := .type "int") fun _ z => z) (by rfl) ms bt_isinstance (pa_cons (pv 0) (pa_cons (pe_bltn (v := .ty "int") (by rfl) mi bt_int rfl) pa_nil))))))) pa_nil)))))) (pss_one (ps_ret pe_bl)) pss_nil)))
    (pss_one (ps_ret (pe_cmpR (op_eqL hu) (pe_callTy call_list_of (by rfl) mli bt_list (pa_cons (pv 0) pa_nil)) (pv 1) (nomark _))))), ?_⟩
  refine ⟨_, rfl, _, _, _, rfl, TyOf.tup hp, kit_self K _, _, rfl, iteF ?_⟩
  refine ⟨_, rfl, p, _, rfl, .inr (SqT.of hp), _, rfl, d, _, rfl, .inl (SqL.of hd), rfl, _, rfl, ?_⟩
  refine iteNS (iv (by rw [List.length_map, List.length_map, hB.1, hD.1])) ?_
  refine ⟨_, rfl, p, rfl, ⟨_, SqT.of hp⟩, ?_⟩
  refine for_tup (xs := bs.map V.ref) (fun i σ H2 => Same H H2 ∧ ∃ u, σ = [some (.ref p), some (.ref d), u]) ⟨Same.refl _, none, rfl⟩ (fun i σ H2 _ h => SqT.of (h.1 _ _ hp)) ?_ ?_
  · rintro i x σ H2 hx ⟨s2, u, rfl⟩
    obtain ⟨b, r, rfl, _, hy, hb⟩ := hB.ref hx
    have hb2 : H2 b = some (.tup (natV r)) := s2 _ _ hb
    have r9 := h9 r (List.mem_of_getElem? hy)
    refine name_go ?_
    refine ⟨_, rfl, _, _, _, rfl, TyOf.tup hb2, kit_self K _, _, rfl, iteF ?_⟩
    refine ⟨_, rfl, b, rfl, ⟨_, SqT.of hb2⟩, fun acc hacc => ?_⟩
    refine comp_run (run_tup hb2) (by rw [List.length_map]; omega) hacc (fun j ys σ _ => ys = (List.replicate j false).map V.bl ∧ ∃ u, σ = [u]) ⟨rfl, none, rfl⟩ ?_ ?_
    · rintro j ys σ H3' x H3 hj sm hacc2 ⟨hys, u, rfl⟩ ⟨rfl, hx'⟩ Cc hCc
      rw [List.getElem?_map] at hx'
      obtain ⟨y, hy', rfl⟩ := Option.map_eq_some_iff.mp hx'
      refine ⟨_, rfl, _, _, _, rfl, TyOf.int _, kit_int_bool K, _, rfl, iteF ?_⟩
      refine ⟨_, rfl, _, _, _, rfl, TyOf.int _, kit_self K _, _, rfl, hCc _ _ _ (Same.refl _) ⟨?_, _, rfl⟩⟩
      rw [hys, List.replicate_succ', List.map_append]; rfl
    · rintro ys σ H3 s3 ha3 hl3 ⟨hys, _⟩
      refine ⟨acc, List.replicate (natV r).length false, rfl, SqL.of (by rw [ha3, hys]), ?_⟩
      rw [show (List.replicate (natV r).length false).any id = false by simp]
      exact ⟨_, rfl, iteF ⟨s2.trans s3, _, rfl⟩⟩
  · rintro σ H2 ⟨s2, u, rfl⟩
    refine ⟨_, rfl, p, _, rfl, .inr (SqT.of (s2 _ _ hp)), fun l hl => ?_⟩
    have s3 := same_new hl (.lst (bs.map V.ref))
    have e3 : (upd H2 l (.lst (bs.map V.ref))) l = some (.lst (bs.map V.ref)) := upd_same
    generalize upd H2 l (.lst (bs.map V.ref)) = H3 at s3 e3
    have s03 := s2.trans s3
    refine ⟨_, rfl, 1, l, d, bs.map V.ref, ds.map V.ref, rows.map datR, by decide, rfl, rfl, e3, s03 _ _ hd, by rw [List.length_map, List.length_map, hB.1], by rw [List.length_map, List.length_map, hD.1], rd_rows (hB.keep mo_rowN s03), rd_rows (hD.keep mo_rowN s03), fun x hx => ?_, q H3 s03⟩
    obtain ⟨r, _, rfl⟩ := List.mem_map.mp hx
    exact shp_row r
/-- refused with TooMany alone -/
def spRefu : Sp := fun vs H Q _ => ∃ (a : Addr) (n m : Nat) (rs : List Rope) (z : Int), vs = [.ref a, .int z] ∧ NetR H a n rs ∧ NetJ n m rs ∧ 9 < m ∧ m ≤ 20 ∧ ∀ H', Same H H' → Q (.bl true) H'
theorem scRu : FnScope ["_law_net_here", "_law_way", "_law_heard", "e"] ["_law_net_here", "_law_way"] (defScope s_law_refused) := ⟨rfl, rfl, rfl, by decide +kernel, rfl, by decide +kernel, by decide +kernel⟩
set_option maxHeartbeats 1000000 in
theorem ok_refu (F : Fun K "_law_refused" "_law_refused" s_law_refused f fd) (G1 : FnOk P w K mg base (CXr P w) 4 f1 d1 ["net"] (spAll20 C 1 treeB)) (b1 : Binds K d1 ["net"] []) (k1 : PySem.W.keepIn K (.ref f1) = true) (m1 : mg "trees" = some (.ref f1))
    (G2 : FnOk P w K mg base (CXr P w) 4 f2 d2 ["net"] (spAll20 C 2 halfB)) (b2 : Binds K d2 ["net"] []) (k2 : PySem.W.keepIn K (.ref f2) = true) (m2 : mg "halves" = some (.ref f2))
    (mC : mg "TooMany" = some (.ref C)) (mF : mg "FloorError" = some (.ref CF)) (mL : mg "Loose" = some (.ref CL)) (mA : mg "NoAnswer" = some (.ref CA)) (xF : PySem.W.exmOne K (.ref C) (.ref CF) = some true) (T : XCls K C)
    (y1 : PySem.W.kitOne K (.ref C) (.type "ValueError") = some true) (y2 : PySem.W.kitOne K (.ref C) (.ref CL) = some false) (y3 : PySem.W.kitOne K (.ref C) (.ref CA) = some false)
    (ms : mg "isinstance" = none) (mv : mg "ValueError" = none) : FnOk P w K mg base CX0 5 f fd ["_law_net_here", "_law_way"] spRefu := by
  refine F.ok scRu (fun vs H Q E h => ?_) (fun cdv A outer s H vs Q E hr h => ?_)
  · obtain ⟨a, n, m, rs, z, rfl, _⟩ := h
    rfl
  obtain ⟨a, n, m, rs, z, rfl, hN, J, h9, h20, q⟩ := h
  refine ⟨_, pss_cons (ps_set (i := 2) scRu.nd rfl (Or.inl rfl) pe_non)
    (pss_cons (ps_try (i := 3) scRu.nd rfl rfl (by rfl) mF rfl rfl (pxs_if (pt_cmpR op_eq (pv 1) pe_int (nomark _)) (pxs_expr (px_call G1 hr (by rfl) m1 k1 b1 .nil (pa_cons (pv 0) pa_nil))) (pxs_expr (px_call G2 hr (by rfl) m2 k2 b2 .nil (pa_cons (pv 0) pa_nil)))) (fun a => pss_one (ps_set (i := 2) scRu.nd rfl (Or.inl rfl) (pv 3))))
    (pss_cons (ps_if (PW.pt (pw_or (pt_not (pt_val (pe_callB (call_isiE (c := .ref C) (cv := .ref C) fun _ z => z) (by rfl) ms bt_isinstance (pa_cons (pv 2) (pa_cons (pe_glob (v := .ref C) (by rfl) mC rfl) pa_nil)))))
      (pw_or1 (pt_not (pt_val (pe_callB (call_isiE (c := .ty "ValueError") (cv := .type "ValueError") fun _ z => z) (by rfl) ms bt_isinstance (pa_cons (pv 2) (pa_cons (pe_bltn (v := .ty "ValueError") (by rfl) mv bt_ValueError rfl) pa_nil)))))))) (pss_one (ps_ret pe_bl)) pss_nil)
    (pss_one (ps_ret (pe_and (pe_not (pe_callB (call_isiE (c := .ref CL) (cv := .ref CL) fun _ z => z) (by rfl) ms bt_isinstance (pa_cons (pv 2) (pa_cons (pe_glob (v := .ref CL) (by rfl) mL rfl) pa_nil))))
      (pe_one (pe_not (pe_callB (call_isiE (c := .ref CA) (cv := .ref CA) fun _ z => z) (by rfl) ms bt_isinstance (pa_cons (pv 2) (pa_cons (pe_glob (v := .ref CA) (by rfl) mA rfl) pa_nil)))))))))), ?_⟩
  have fin : ∀ (H' : Hp) (e : Addr), Same H H' → H' e = none → ∀ v3 : Option V, tSeq (tIfS (tOr (tNot (tB (tCB (rIsiE K (.ref C) (.ref C)) (tCons (tVar 2) (tCons (tC (.ref C)) tNil))))) (tNot (tB (tCB (rIsiE K (.ty "ValueError") (.type "ValueError")) (tCons (tVar 2) (tCons (tC (.ty "ValueError")) tNil)))))) (tRet (tC (.bl false))) tNext)
      (tRet (tAndV (tNotV (tCB (rIsiE K (.ref CL) (.ref CL)) (tCons (tVar 2) (tCons (tC (.ref CL)) tNil)))) (tNotV (tCB (rIsiE K (.ref CA) (.ref CA)) (tCons (tVar 2) (tCons (tC (.ref CA)) tNil)))))) { nx := fun _ H' => Q .non H', rt := Q } [some (.ref a), some (.int z), some (.ref e), v3] (upd H' e (excO e (.ref C))) := fun H' e s' he v3 => by
    refine ⟨_, rfl, e, C, true, rfl, upd_same, T, kit_self K _, _, rfl, iteF ?_⟩
    refine ⟨_, rfl, e, C, true, rfl, upd_same, T, y1, _, rfl, iteF ?_⟩
    refine ⟨_, rfl, e, C, false, rfl, upd_same, T, y2, _, rfl, _, rfl, iteT ?_⟩
    exact ⟨_, rfl, e, C, false, rfl, upd_same, T, y3, _, rfl, q _ (s'.trans (same_new he _))⟩
  refine ⟨_, rfl, rfl, _, rfl, ?_⟩
  refine ite2 (fun _ => ?_) (fun _ => ?_)
  · exact ⟨_, rfl, a, n, m, rs, rfl, hN, J, h20, fun _ H' s' => ⟨xF, fun e he => ⟨_, rfl, fin H' e s' he _⟩⟩, fun z => absurd h9 (by omega)⟩
  · exact ⟨_, rfl, a, n, m, rs, rfl, hN, J, h20, fun _ H' s' => ⟨xF, fun e he => ⟨_, rfl, fin H' e s' he _⟩⟩, fun z => absurd h9 (by omega)⟩
end
end My
/-! the law -/
namespace My
open PySem L2 Mth Wd
section
variable {P : Program} {w : World} {K : PySem.W.Frag} {mg : Str → Option Value} {base : Heap} {f g h f1 f2 f3 f4 f5 f6 f7 f8 f9 C CF CL CA : Addr} {fd gd hd d1 d2 d3 d4 d5 d6 d7 d8 d9 : FuncData}
def spLaw (K : PySem.W.Frag) : Sp := fun vs H Q _ => ∃ (a : Addr) (ns : List Int), vs = [.ref a] ∧ SqL K H a (ns.map V.int) ∧ ns.length ≤ 63 ∧ ∀ H', Q (.bl true) H'
theorem scLw : FnScope ["_law_script", "_law_cells", "_law_net_here"] ["_law_script"] (defScope sLaw) := ⟨rfl, rfl, rfl, by decide +kernel, rfl, by decide +kernel, by decide +kernel⟩
theorem fil_len {m k : Nat} {p : List Nat → Bool} (hm : m ≤ 9) (hk : k ≤ 9) : ((riseR m k).filter p).length ≤ 126 := Nat.le_trans (List.length_filter_le ..) (rise_few m (by omega) k (by omega))
theorem fil_row {m k : Nat} {p : List Nat → Bool} (hk : k ≤ 9) : ∀ r ∈ (riseR m k).filter p, r.length ≤ 9 := fun r hr => by
  have := (rise_len (List.mem_filter.mp hr).1).1
  omega
set_option maxHeartbeats 2000000 in
seal L2.PSs L2.PS L2.PE L2.PA in
theorem ok_law (F : Fun K "law" "law" sLaw f fd) (G1 : FnOk P w K mg base CX0 1 f1 d1 ["_law_script", "_law_k"] (spCell K)) (b1 : Binds K d1 ["_law_script", "_law_k"] []) (k1 : PySem.W.keepIn K (.ref f1) = true) (m1 : mg "_law_cell" = some (.ref f1))
    (G2 : FnOk P w K mg base CX0 4 f2 d2 ["_law_cells", "_law_first"] spNet) (b2 : Binds K d2 ["_law_cells", "_law_first"] []) (k2 : PySem.W.keepIn K (.ref f2) = true) (m2 : mg "_law_net" = some (.ref f2))
    (G3 : FnOk P w K mg base CX0 5 f3 d3 ["_law_net_here", "_law_way"] spRefu) (b3 : Binds K d3 ["_law_net_here", "_law_way"] []) (k3 : PySem.W.keepIn K (.ref f3) = true) (m3 : mg "_law_refused" = some (.ref f3))
    (G4 : FnOk P w K mg base CX0 5 f4 d4 ["_law_script", "_law_at", "_law_sizes"] (spSome K)) (b4 : Binds K d4 ["_law_script", "_law_at", "_law_sizes"] []) (k4 : PySem.W.keepIn K (.ref f4) = true) (m4 : mg "_law_some_net" = some (.ref f4))
    (G5 : FnOk P w K mg base (CXr P w) 4 f5 d5 ["net"] (spAll20 C 1 treeB)) (b5 : Binds K d5 ["net"] []) (k5 : PySem.W.keepIn K (.ref f5) = true) (m5 : mg "trees" = some (.ref f5))
    (G6 : FnOk P w K mg base (CXr P w) 4 f6 d6 ["net"] (spAll20 C 2 halfB)) (b6 : Binds K d6 ["net"] []) (k6 : PySem.W.keepIn K (.ref f6) = true) (m6 : mg "halves" = some (.ref f6))
    (G7 : FnOk P w K mg base CX0 2 f7 d7 ["_law_net_here"] (spLT 1 treeB)) (b7 : Binds K d7 ["_law_net_here"] []) (k7 : PySem.W.keepIn K (.ref f7) = true) (m7 : mg "_law_trees" = some (.ref f7))
    (G8 : FnOk P w K mg base CX0 2 f8 d8 ["_law_net_here"] (spLT 2 halfB)) (b8 : Binds K d8 ["_law_net_here"] []) (k8 : PySem.W.keepIn K (.ref f8) = true) (m8 : mg "_law_halves" = some (.ref f8))
    (G9 : FnOk P w K mg base CX0 1 f9 d9 ["_law_found", "_law_due"] spRows) (b9 : Binds K d9 ["_law_found", "_law_due"] []) (k9 : PySem.W.keepIn K (.ref f9) = true) (m9 : mg "_law_rows" = some (.ref f9)) (mr : mg "range" = none) :
    FnOk P w K mg base CX0 6 f fd ["_law_script"] (spLaw K) := by
  refine F.ok scLw (fun vs H Q E h => ?_) (fun cdv A outer s H vs Q E hr h => ?_)
  · obtain ⟨a, ns, rfl, _⟩ := h
    rfl
  obtain ⟨a, ns, rfl, hS, hl, q⟩ := h
  have r1 := hr.mono (show 1 ≤ 5 by decide)
  have r2 := hr.mono (show 2 ≤ 5 by decide)
  have r4 := hr.mono (show 4 ≤ 5 by decide)
  refine ⟨_, pss_cons (ps_if (pt_cmpR op_eq (pe_op op_mod (pe_call G1 r1 (by rfl) m1 k1 b1 .nil pass0 (pa_cons (pv 0) (pa_cons pe_int pa_nil))) pe_int) pe_int (nomark _))
      (pss_cons (ps_setComp (i := 1) scLw.nd rfl (Or.inl rfl) (Nc := ["_law_k", "_law_script"]) (cap := [(1, 0)]) (g := gName 0) (te := tCall (spCell K) [] E0 (tCons (tVar 1) (tCons (tOp (rI0 fun i j => .int (i + j)) (tC (.int 3)) (tVar 0)) tNil))) rfl
        (pi_range1 (by rfl) mr (pa_cons (pe_op op_add pe_int (pe_op op_mod (pe_call G1 r1 (by rfl) m1 k1 b1 .nil pass0 (pa_cons (pv 0) (pa_cons pe_int pa_nil))) pe_int)) pa_nil))
        (comp_mk rfl rfl (by decide +kernel) (by decide +kernel) (List.forall_mem_cons.mpr ⟨⟨rfl, rfl⟩, List.forall_mem_nil _⟩) rfl (List.forall_mem_cons.mpr ⟨⟨_, _, rfl, rfl, rfl, rfl, rfl⟩, List.forall_mem_nil _⟩))
        (fun C fp pins s' H' => pg_name (i := 0) ndKS rfl (Or.inl rfl)) (fun C fp pins s' H' => pe_call G1 r1 (by rfl) m1 k1 b1 .nil pass0 (pa_cons (pv 1) (pa_cons (pe_op op_add pe_int (pv 0)) pa_nil))))
      (pss_cons (ps_set (i := 2) scLw.nd rfl (Or.inl rfl) (pe_call G2 r4 (by rfl) m2 k2 b2 .nil pass0 (pa_cons (pv 1) (pa_cons (pe_call G1 r1 (by rfl) m1 k1 b1 .nil pass0 (pa_cons (pv 0) (pa_cons pe_int pa_nil))) pa_nil))))
      (pss_one (ps_ret (pe_and (pe_call G3 hr (by rfl) m3 k3 b3 .nil pass0 (pa_cons (pv 2) (pa_cons pe_int pa_nil))) (pe_one (pe_call G3 hr (by rfl) m3 k3 b3 .nil pass0 (pa_cons (pv 2) (pa_cons pe_int pa_nil)))))))))
      pss_nil)
    (pss_cons (ps_set (i := 2) scLw.nd rfl (Or.inl rfl) (pe_call G4 hr (by rfl) m4 k4 b4 .nil pass0 (pa_cons (pv 0) (pa_cons pe_int (pa_cons (pe_lst (pa_cons pe_int (pa_cons pe_int (pa_cons pe_int (pa_cons pe_int (pa_cons pe_int (pa_cons pe_int (pa_cons pe_int (pa_cons pe_int (pa_cons pe_int pa_nil)))))))))) pa_nil)))))
    (pss_one (ps_ret (pe_and (pe_call G9 r1 (by rfl) m9 k9 b9 .nil pass0 (pa_cons (pe_call (CX := CXr P w) G5 r4 (by rfl) m5 k5 b5 .nil passR0 (pa_cons (pv 2) pa_nil)) (pa_cons (pe_call G7 r2 (by rfl) m7 k7 b7 .nil pass0 (pa_cons (pv 2) pa_nil)) pa_nil)))
      (pe_one (pe_call G9 r1 (by rfl) m9 k9 b9 .nil pass0 (pa_cons (pe_call (CX := CXr P w) G6 r4 (by rfl) m6 k6 b6 .nil passR0 (pa_cons (pv 2) pa_nil)) (pa_cons (pe_call G8 r2 (by rfl) m8 k8 b8 .nil pass0 (pa_cons (pv 2) pa_nil)) pa_nil)))))))), ?_⟩
  refine ⟨_, rfl, a, ns, _, rfl, ⟨hS, hl⟩, by omega, fun z0 hz0 => ⟨_, _, rfl, rfl, (show (0 : Int) < 5 by decide), rfl, _, rfl, ?_⟩⟩
  refine ite2 (fun _ => ?_) (fun _ => ?_)
  · refine ⟨_, rfl, a, ns, _, rfl, ⟨hS, hl⟩, by omega, fun z1 hz1 => ⟨_, _, rfl, rfl, (show (0 : Int) < 5 by decide), _, _, rfl, rfl, ?_⟩⟩
    have e0 := Int.emod_nonneg z1 (show (5 : Int) ≠ 0 by decide)
    have e1 := Int.emod_lt_of_pos z1 (show (0 : Int) < 5 by decide)
    dsimp only
    generalize z1 % 5 = y at e0 e1
    obtain ⟨yn, rfl⟩ := Int.eq_ofNat_of_zero_le e0
    refine ⟨_, rfl, by omega, by omega, fun acc hacc => ?_⟩
    rw [show ((9 : Int) + (yn : Int)).toNat = 9 + yn by omega]
    refine comp_run run_range (by omega) hacc (fun i ys σ _ => ∃ zs : List Int, ys = zs.map V.int ∧ zs.length = i ∧ (∀ x ∈ zs, 0 ≤ x) ∧ ∃ u, σ = [u, some (.ref a)]) ⟨[], rfl, rfl, by simp, none, rfl⟩ ?_ ?_
    · rintro i ys σ H2' x H2 hi sm hacc2 ⟨zs, rfl, lz, nz, u, rfl⟩ ⟨rfl, rfl⟩ Cc hC
      refine ⟨_, rfl, _, rfl, _, _, rfl, rfl, a, ns, _, rfl, ⟨sm.seq hS, hl⟩, by omega, fun z hz => hC _ _ _ (Same.refl _) ⟨zs ++ [z], by simp, by simp [lz], fun x hx => ?_, _, rfl⟩⟩
      rcases List.mem_append.mp hx with w | w
      · exact nz x w
      · rw [List.mem_singleton.mp w]; exact hz.1
    rintro ys σ H2 s2 hc hl2 ⟨zs, rfl, lz, nz, u, rfl⟩
    refine ⟨_, rfl, _, rfl, a, ns, _, rfl, ⟨s2.seq hS, hl⟩, by omega, fun z2 hz2 => ⟨acc, zs, z2, rfl, hc, by omega, nz, fun p H3 n rs s3 hN J => ?_⟩⟩
    refine ⟨_, rfl, p, n, _, rs, _, rfl, hN, J, by omega, by omega, fun H4 s4 => ⟨_, rfl, iteT ?_⟩⟩
    exact ⟨_, rfl, p, n, _, rs, _, rfl, mo_net s4 hN, J, by omega, by omega, fun H5 s5 => q H5⟩
  · refine ⟨_, rfl, by show 9 ≤ sizeLine; decide, fun L hL => ?_⟩
    have sL := same_new hL (.lst [.int 7, .int 0, .int 1, .int 2, .int 3, .int 4, .int 5, .int 6, .int 8])
    have eL : (upd H L (.lst [.int 7, .int 0, .int 1, .int 2, .int 3, .int 4, .int 5, .int 6, .int 8])) L = some (.lst (([7, 0, 1, 2, 3, 4, 5, 6, 8] : List Int).map V.int)) := upd_same
    generalize upd H L (.lst [.int 7, .int 0, .int 1, .int 2, .int 3, .int 4, .int 5, .int 6, .int 8]) = H1 at sL eL
    refine ⟨a, L, ns, [7, 0, 1, 2, 3, 4, 5, 6, 8], 9, 1, rfl, by decide, ⟨sL.seq hS, hl⟩, eL, by decide, by decide, by decide, by decide, fun p H2 n m rs s2 hN J hm => ?_⟩
    have two := J.two
    have few := J.few
    refine ⟨_, rfl, p, n, m, rs, rfl, hN, J, by omega, fun z => absurd z (by omega), fun _ p1 H3 s3 t1 => ?_⟩
    refine ⟨_, rfl, p, n, m, rs, rfl, mo_net s3 hN, J, hm, fun p2 H4 s4 t2 => ?_⟩
    refine ⟨p1, p2, _, rfl, mo_tup (R := RowN) (fun s h => mo_rowN s h) s4 t1, t2, fil_len hm (by omega), fil_row (by omega), fun H5 s5 => ⟨_, rfl, iteT ?_⟩⟩
    have s25 := s3.trans (s4.trans s5)
    refine ⟨_, rfl, p, n, m, rs, rfl, mo_net s25 hN, J, by omega, fun z => absurd z (by omega), fun _ p3 H6 s6 t3 => ?_⟩
    refine ⟨_, rfl, p, n, m, rs, rfl, mo_net (s25.trans s6) hN, J, hm, fun p4 H7 s7 t4 => ?_⟩
    exact ⟨p3, p4, _, rfl, mo_tup (R := RowN) (fun s h => mo_rowN s h) s7 t3, t4, fil_len hm (by omega), fil_row (by omega), fun H8 s8 => q H8⟩
end
end My
namespace My
open PySem L2 Mth
theorem len_1 {α : Type} {us : List α} (h : us.length = 1) : ∃ a0, us = [a0] := by
  match us, h with
  | [a0], _ => exact ⟨a0, rfl⟩
theorem len_2 {α : Type} {us : List α} (h : us.length = 2) : ∃ a0 a1, us = [a0, a1] := by
  match us, h with
  | [a0, a1], _ => exact ⟨a0, a1, rfl⟩
theorem len_3 {α : Type} {us : List α} (h : us.length = 3) : ∃ a0 a1 a2, us = [a0, a1, a2] := by
  match us, h with
  | [a0, a1, a2], _ => exact ⟨a0, a1, a2, rfl⟩
set_option maxHeartbeats 4000000 in
theorem all_mk {l : PySem.W.OpenLaw} {w : World} {K : PySem.W.Frag} {h : Heap} {mg : Str → Option Value} {fa C CF CL CA f1 f2 f3 f4 f5 f6 f7 f8 f9 f10 f11 f12 f13 f14 f15 f16 f17 f18 f19 f20 f21 f22 f23 : Addr} (X : K.In h) (G : h.Ns mainGlobals mg) (hfa : mg "law" = some (.ref fa))
    {od1 an1 od2 an2 od3 an3 od4 an4 od5 an5 od6 an6 od7 an7 od8 an8 od9 an9 od10 an10 od11 an11 od12 an12 od13 an13 od14 an14 od15 an15 od16 an16 od17 an17 od18 an18 od19 an19 od20 an20 od21 an21 od22 an22 od23 an23 : Option Addr}
    {sl1 sl2 sl3 sl4 sl5 sl6 sl7 sl8 sl9 sl10 sl11 sl12 sl13 sl14 sl15 sl16 sl17 sl18 sl19 sl20 sl21 sl22 sl23 : Array (Option Value)}
    {oc1 kV1 dc1 pm1 cd1 ct1 oc2 kV2 dc2 pm2 cd2 ct2 oc3 kV3 dc3 pm3 cd3 ct3 oc4 kV4 dc4 pm4 cd4 ct4 oc5 kV5 dc5 pm5 cd5 ct5 oc6 kV6 dc6 pm6 cd6 ct6 oc7 kV7 dc7 pm7 cd7 ct7 oc8 kV8 dc8 pm8 cd8 ct8 oc9 kV9 dc9 pm9 cd9 ct9 oc10 kV10 dc10 pm10 cd10 ct10 oc11 kV11 dc11 pm11 cd11 ct11 oc12 kV12 dc12 pm12 cd12 ct12 oc13 kV13 dc13 pm13 cd13 ct13 oc14 kV14 dc14 pm14 cd14 ct14 oc15 kV15 dc15 pm15 cd15 ct15 oc16 kV16 dc16 pm16 cd16 ct16 oc17 kV17 dc17 pm17 cd17 ct17 oc18 kV18 dc18 pm18 cd18 ct18 oc19 kV19 dc19 pm19 cd19 ct19 oc20 kV20 dc20 pm20 cd20 ct20 oc21 kV21 dc21 pm21 cd21 ct21 oc22 kV22 dc22 pm22 cd22 ct22 oc23 kV23 dc23 pm23 cd23 ct23 : Value}
    (a1 : PySem.W.nsIn K mainGlobals "led_to" = some (some (.ref f1))) (l1 : K.lookup f1 = some ⟨oc1, od1, .func (PySem.W.fnOf "led_to" "led_to" (defArgs s_led_to) (defBody s_led_to) (defScope s_led_to) .none kV1 dc1 pm1 an1 cd1 ct1), sl1⟩) (c1 : PySem.W.codeIn K cd1 "led_to" = true) (k1 : PySem.W.keepIn K (.ref f1) = true)
    (a2 : PySem.W.nsIn K mainGlobals "rising_rows" = some (some (.ref f2))) (l2 : K.lookup f2 = some ⟨oc2, od2, .func (PySem.W.fnOf "rising_rows" "rising_rows" (defArgs s_rising_rows) (defBody s_rising_rows) (defScope s_rising_rows) .none kV2 dc2 pm2 an2 cd2 ct2), sl2⟩) (c2 : PySem.W.codeIn K cd2 "rising_rows" = true) (k2 : PySem.W.keepIn K (.ref f2) = true)
    (a3 : PySem.W.nsIn K mainGlobals "is_tree" = some (some (.ref f3))) (l3 : K.lookup f3 = some ⟨oc3, od3, .func (PySem.W.fnOf "is_tree" "is_tree" (defArgs s_is_tree) (defBody s_is_tree) (defScope s_is_tree) .none kV3 dc3 pm3 an3 cd3 ct3), sl3⟩) (c3 : PySem.W.codeIn K cd3 "is_tree" = true) (k3 : PySem.W.keepIn K (.ref f3) = true)
    (a4 : PySem.W.nsIn K mainGlobals "is_half" = some (some (.ref f4))) (l4 : K.lookup f4 = some ⟨oc4, od4, .func (PySem.W.fnOf "is_half" "is_half" (defArgs s_is_half) (defBody s_is_half) (defScope s_is_half) .none kV4 dc4 pm4 an4 cd4 ct4), sl4⟩) (c4 : PySem.W.codeIn K cd4 "is_half" = true) (k4 : PySem.W.keepIn K (.ref f4) = true)
    (a5 : PySem.W.nsIn K mainGlobals "fitting_rows" = some (some (.ref f5))) (l5 : K.lookup f5 = some ⟨oc5, od5, .func (PySem.W.fnOf "fitting_rows" "fitting_rows" (defArgs s_fitting_rows) (defBody s_fitting_rows) (defScope s_fitting_rows) .none kV5 dc5 pm5 an5 cd5 ct5), sl5⟩) (c5 : PySem.W.codeIn K cd5 "fitting_rows" = true) (k5 : PySem.W.keepIn K (.ref f5) = true)
    (a6 : PySem.W.nsIn K mainGlobals "trees" = some (some (.ref f6))) (l6 : K.lookup f6 = some ⟨oc6, od6, .func (PySem.W.fnOf "trees" "trees" (defArgs s_trees) (defBody s_trees) (defScope s_trees) .none kV6 dc6 pm6 an6 cd6 ct6), sl6⟩) (c6 : PySem.W.codeIn K cd6 "trees" = true) (k6 : PySem.W.keepIn K (.ref f6) = true)
    (a7 : PySem.W.nsIn K mainGlobals "halves" = some (some (.ref f7))) (l7 : K.lookup f7 = some ⟨oc7, od7, .func (PySem.W.fnOf "halves" "halves" (defArgs s_halves) (defBody s_halves) (defScope s_halves) .none kV7 dc7 pm7 an7 cd7 ct7), sl7⟩) (c7 : PySem.W.codeIn K cd7 "halves" = true) (k7 : PySem.W.keepIn K (.ref f7) = true)
    (a8 : PySem.W.nsIn K mainGlobals "_law_cell" = some (some (.ref f8))) (l8 : K.lookup f8 = some ⟨oc8, od8, .func (PySem.W.fnOf "_law_cell" "_law_cell" (defArgs sCellAt) (defBody sCellAt) (defScope sCellAt) .none kV8 dc8 pm8 an8 cd8 ct8), sl8⟩) (c8 : PySem.W.codeIn K cd8 "_law_cell" = true) (k8 : PySem.W.keepIn K (.ref f8) = true)
    (a9 : PySem.W.nsIn K mainGlobals "_law_low" = some (some (.ref f9))) (l9 : K.lookup f9 = some ⟨oc9, od9, .func (PySem.W.fnOf "_law_low" "_law_low" (defArgs sLow) (defBody sLow) (defScope sLow) .none kV9 dc9 pm9 an9 cd9 ct9), sl9⟩) (c9 : PySem.W.codeIn K cd9 "_law_low" = true) (k9 : PySem.W.keepIn K (.ref f9) = true)
    (a10 : PySem.W.nsIn K mainGlobals "_law_ease" = some (some (.ref f10))) (l10 : K.lookup f10 = some ⟨oc10, od10, .func (PySem.W.fnOf "_law_ease" "_law_ease" (defArgs sLEase) (defBody sLEase) (defScope sLEase) .none kV10 dc10 pm10 an10 cd10 ct10), sl10⟩) (c10 : PySem.W.codeIn K cd10 "_law_ease" = true) (k10 : PySem.W.keepIn K (.ref f10) = true)
    (a11 : PySem.W.nsIn K mainGlobals "_law_spot" = some (some (.ref f11))) (l11 : K.lookup f11 = some ⟨oc11, od11, .func (PySem.W.fnOf "_law_spot" "_law_spot" (defArgs sSpot) (defBody sSpot) (defScope sSpot) .none kV11 dc11 pm11 an11 cd11 ct11), sl11⟩) (c11 : PySem.W.codeIn K cd11 "_law_spot" = true) (k11 : PySem.W.keepIn K (.ref f11) = true)
    (a12 : PySem.W.nsIn K mainGlobals "_law_next" = some (some (.ref f12))) (l12 : K.lookup f12 = some ⟨oc12, od12, .func (PySem.W.fnOf "_law_next" "_law_next" (defArgs sNext) (defBody sNext) (defScope sNext) .none kV12 dc12 pm12 an12 cd12 ct12), sl12⟩) (c12 : PySem.W.codeIn K cd12 "_law_next" = true) (k12 : PySem.W.keepIn K (.ref f12) = true)
    (a13 : PySem.W.nsIn K mainGlobals "_law_put" = some (some (.ref f13))) (l13 : K.lookup f13 = some ⟨oc13, od13, .func (PySem.W.fnOf "_law_put" "_law_put" (defArgs sPut) (defBody sPut) (defScope sPut) .none kV13 dc13 pm13 an13 cd13 ct13), sl13⟩) (c13 : PySem.W.codeIn K cd13 "_law_put" = true) (k13 : PySem.W.keepIn K (.ref f13) = true)
    (a14 : PySem.W.nsIn K mainGlobals "_law_grow" = some (some (.ref f14))) (l14 : K.lookup f14 = some ⟨oc14, od14, .func (PySem.W.fnOf "_law_grow" "_law_grow" (defArgs sGrow) (defBody sGrow) (defScope sGrow) .none kV14 dc14 pm14 an14 cd14 ct14), sl14⟩) (c14 : PySem.W.codeIn K cd14 "_law_grow" = true) (k14 : PySem.W.keepIn K (.ref f14) = true)
    (a15 : PySem.W.nsIn K mainGlobals "_law_net" = some (some (.ref f15))) (l15 : K.lookup f15 = some ⟨oc15, od15, .func (PySem.W.fnOf "_law_net" "_law_net" (defArgs sNet) (defBody sNet) (defScope sNet) .none kV15 dc15 pm15 an15 cd15 ct15), sl15⟩) (c15 : PySem.W.codeIn K cd15 "_law_net" = true) (k15 : PySem.W.keepIn K (.ref f15) = true)
    (a16 : PySem.W.nsIn K mainGlobals "_law_some_net" = some (some (.ref f16))) (l16 : K.lookup f16 = some ⟨oc16, od16, .func (PySem.W.fnOf "_law_some_net" "_law_some_net" (defArgs sSomeNet) (defBody sSomeNet) (defScope sSomeNet) .none kV16 dc16 pm16 an16 cd16 ct16), sl16⟩) (c16 : PySem.W.codeIn K cd16 "_law_some_net" = true) (k16 : PySem.W.keepIn K (.ref f16) = true)
    (a17 : PySem.W.nsIn K mainGlobals "_law_rising" = some (some (.ref f17))) (l17 : K.lookup f17 = some ⟨oc17, od17, .func (PySem.W.fnOf "_law_rising" "_law_rising" (defArgs s_law_rising) (defBody s_law_rising) (defScope s_law_rising) .none kV17 dc17 pm17 an17 cd17 ct17), sl17⟩) (c17 : PySem.W.codeIn K cd17 "_law_rising" = true) (k17 : PySem.W.keepIn K (.ref f17) = true)
    (a18 : PySem.W.nsIn K mainGlobals "_law_marks" = some (some (.ref f18))) (l18 : K.lookup f18 = some ⟨oc18, od18, .func (PySem.W.fnOf "_law_marks" "_law_marks" (defArgs s_law_marks) (defBody s_law_marks) (defScope s_law_marks) .none kV18 dc18 pm18 an18 cd18 ct18), sl18⟩) (c18 : PySem.W.codeIn K cd18 "_law_marks" = true) (k18 : PySem.W.keepIn K (.ref f18) = true)
    (a19 : PySem.W.nsIn K mainGlobals "_law_trees" = some (some (.ref f19))) (l19 : K.lookup f19 = some ⟨oc19, od19, .func (PySem.W.fnOf "_law_trees" "_law_trees" (defArgs s_law_trees) (defBody s_law_trees) (defScope s_law_trees) .none kV19 dc19 pm19 an19 cd19 ct19), sl19⟩) (c19 : PySem.W.codeIn K cd19 "_law_trees" = true) (k19 : PySem.W.keepIn K (.ref f19) = true)
    (a20 : PySem.W.nsIn K mainGlobals "_law_halves" = some (some (.ref f20))) (l20 : K.lookup f20 = some ⟨oc20, od20, .func (PySem.W.fnOf "_law_halves" "_law_halves" (defArgs s_law_halves) (defBody s_law_halves) (defScope s_law_halves) .none kV20 dc20 pm20 an20 cd20 ct20), sl20⟩) (c20 : PySem.W.codeIn K cd20 "_law_halves" = true) (k20 : PySem.W.keepIn K (.ref f20) = true)
    (a21 : PySem.W.nsIn K mainGlobals "_law_rows" = some (some (.ref f21))) (l21 : K.lookup f21 = some ⟨oc21, od21, .func (PySem.W.fnOf "_law_rows" "_law_rows" (defArgs s_law_rows) (defBody s_law_rows) (defScope s_law_rows) .none kV21 dc21 pm21 an21 cd21 ct21), sl21⟩) (c21 : PySem.W.codeIn K cd21 "_law_rows" = true) (k21 : PySem.W.keepIn K (.ref f21) = true)
    (a22 : PySem.W.nsIn K mainGlobals "_law_refused" = some (some (.ref f22))) (l22 : K.lookup f22 = some ⟨oc22, od22, .func (PySem.W.fnOf "_law_refused" "_law_refused" (defArgs s_law_refused) (defBody s_law_refused) (defScope s_law_refused) .none kV22 dc22 pm22 an22 cd22 ct22), sl22⟩) (c22 : PySem.W.codeIn K cd22 "_law_refused" = true) (k22 : PySem.W.keepIn K (.ref f22) = true)
    (a23 : PySem.W.nsIn K mainGlobals "law" = some (some (.ref f23))) (l23 : K.lookup f23 = some ⟨oc23, od23, .func (PySem.W.fnOf "law" "law" (defArgs sLaw) (defBody sLaw) (defScope sLaw) .none kV23 dc23 pm23 an23 cd23 ct23), sl23⟩) (c23 : PySem.W.codeIn K cd23 "law" = true) (k23 : PySem.W.keepIn K (.ref f23) = true)
    (aC : PySem.W.nsIn K mainGlobals "TooMany" = some (some (.ref C)))
    (aCF : PySem.W.nsIn K mainGlobals "FloorError" = some (some (.ref CF)))
    (aCL : PySem.W.nsIn K mainGlobals "Loose" = some (some (.ref CL)))
    (aCA : PySem.W.nsIn K mainGlobals "NoAnswer" = some (some (.ref CA)))
    (xC : PySem.W.excIn K C [.type "ValueError", .type "Exception", .type "BaseException", .type "object"] "ValueError.__new__" = true)
    (xF : PySem.W.exmOne K (.ref C) (.ref CF) = some true)
    (y1 : PySem.W.kitOne K (.ref C) (.type "ValueError") = some true)
    (y2 : PySem.W.kitOne K (.ref C) (.ref CL) = some false)
    (y3 : PySem.W.kitOne K (.ref C) (.ref CA) = some false)
    (g1 : PySem.W.findIn K (.ref C) "__getattribute__" = some (some (.builtin "BaseException.__getattribute__")))
    (g2 : PySem.W.findIn K (.ref C) "__getattr__" = some none)
    (g3 : PySem.W.findIn K (.ref C) "__class__" = some (some (.builtin "object.__class__")))
    (g4 : PySem.W.specialIn K (.builtin "object.__class__") "__get__" = some (some (.builtin "getset_descriptor.__get__")))
    (g5 : PySem.W.takesIn K (.builtin "object.__class__") = some true)
    (g6 : PySem.W.mroIn K C (.type "object") = some true)
    (g7 : PySem.W.mroIn K C (.type "BaseException") = some true)
    (g8 : (PySem.W.clsIn K C).isSome = true)
    (z_abs : PySem.W.nsIn K mainGlobals "abs" = some none)
    (z_len : PySem.W.nsIn K mainGlobals "len" = some none)
    (z_range : PySem.W.nsIn K mainGlobals "range" = some none)
    (z_list : PySem.W.nsIn K mainGlobals "list" = some none)
    (z_tuple : PySem.W.nsIn K mainGlobals "tuple" = some none)
    (z_isinstance : PySem.W.nsIn K mainGlobals "isinstance" = some none)
    (z_int : PySem.W.nsIn K mainGlobals "int" = some none)
    (z_bool : PySem.W.nsIn K mainGlobals "bool" = some none)
    (z_min : PySem.W.nsIn K mainGlobals "min" = some none)
    (z_any : PySem.W.nsIn K mainGlobals "any" = some none)
    (z_ValueError : PySem.W.nsIn K mainGlobals "ValueError" = some none)
    : ∃ fd : FuncData, (∀ (s : Shared) (v : Value), BindsTo s fd ⟨[v], []⟩ [("_law_script", v)]) ∧ ∀ base : Heap, K.In base → base.Ns mainGlobals mg → FnOk l.prog w K mg base CX0 6 fa fd ["_law_script"] (spLaw K) := by
  have e := hfa.symm.trans (PySem.W.mg_of X G a23)
  cases e
  have F1 := fun_mk (st := s_led_to) l1 c1 k1
  have b1 := F1.binds (ps := ["start", "ropes"]) fun _ _ _ _ _ _ us hl => by obtain ⟨_, _, rfl⟩ := len_2 hl; rfl
  have m1 := PySem.W.mg_of X G a1
  have F2 := fun_mk (st := s_rising_rows) l2 c2 k2
  have b2 := F2.binds (ps := ["count", "size"]) fun _ _ _ _ _ _ us hl => by obtain ⟨_, _, rfl⟩ := len_2 hl; rfl
  have m2 := PySem.W.mg_of X G a2
  have F3 := fun_mk (st := s_is_tree) l3 c3 k3
  have b3 := F3.binds (ps := ["net", "chosen"]) fun _ _ _ _ _ _ us hl => by obtain ⟨_, _, rfl⟩ := len_2 hl; rfl
  have m3 := PySem.W.mg_of X G a3
  have F4 := fun_mk (st := s_is_half) l4 c4 k4
  have b4 := F4.binds (ps := ["net", "chosen"]) fun _ _ _ _ _ _ us hl => by obtain ⟨_, _, rfl⟩ := len_2 hl; rfl
  have m4 := PySem.W.mg_of X G a4
  have F5 := fun_mk (st := s_fitting_rows) l5 c5 k5
  have b5 := F5.binds (ps := ["net", "size", "fits"]) fun _ _ _ _ _ _ us hl => by obtain ⟨_, _, _, rfl⟩ := len_3 hl; rfl
  have m5 := PySem.W.mg_of X G a5
  have F6 := fun_mk (st := s_trees) l6 c6 k6
  have b6 := F6.binds (ps := ["net"]) fun _ _ _ _ _ _ us hl => by obtain ⟨_, rfl⟩ := len_1 hl; rfl
  have m6 := PySem.W.mg_of X G a6
  have F7 := fun_mk (st := s_halves) l7 c7 k7
  have b7 := F7.binds (ps := ["net"]) fun _ _ _ _ _ _ us hl => by obtain ⟨_, rfl⟩ := len_1 hl; rfl
  have m7 := PySem.W.mg_of X G a7
  have F8 := fun_mk (st := sCellAt) l8 c8 k8
  have b8 := F8.binds (ps := ["_law_script", "_law_k"]) fun _ _ _ _ _ _ us hl => by obtain ⟨_, _, rfl⟩ := len_2 hl; rfl
  have m8 := PySem.W.mg_of X G a8
  have F9 := fun_mk (st := sLow) l9 c9 k9
  have b9 := F9.binds (ps := ["_law_top", "_law_bottom"]) fun _ _ _ _ _ _ us hl => by obtain ⟨_, _, rfl⟩ := len_2 hl; rfl
  have m9 := PySem.W.mg_of X G a9
  have F10 := fun_mk (st := sLEase) l10 c10 k10
  have b10 := F10.binds (ps := ["_law_cell_here"]) fun _ _ _ _ _ _ us hl => by obtain ⟨_, rfl⟩ := len_1 hl; rfl
  have m10 := PySem.W.mg_of X G a10
  have F11 := fun_mk (st := sSpot) l11 c11 k11
  have b11 := F11.binds (ps := ["_law_turns", "_law_end"]) fun _ _ _ _ _ _ us hl => by obtain ⟨_, _, rfl⟩ := len_2 hl; rfl
  have m11 := PySem.W.mg_of X G a11
  have F12 := fun_mk (st := sNext) l12 c12 k12
  have b12 := F12.binds (ps := ["_law_turns", "_law_end"]) fun _ _ _ _ _ _ us hl => by obtain ⟨_, _, rfl⟩ := len_2 hl; rfl
  have m12 := PySem.W.mg_of X G a12
  have F13 := fun_mk (st := sPut) l13 c13 k13
  have b13 := F13.binds (ps := ["_law_turns", "_law_end", "_law_fresh"]) fun _ _ _ _ _ _ us hl => by obtain ⟨_, _, _, rfl⟩ := len_3 hl; rfl
  have m13 := PySem.W.mg_of X G a13
  have F14 := fun_mk (st := sGrow) l14 c14 k14
  have b14 := F14.binds (ps := ["_law_ropes", "_law_turns", "_law_cell_here"]) fun _ _ _ _ _ _ us hl => by obtain ⟨_, _, _, rfl⟩ := len_3 hl; rfl
  have m14 := PySem.W.mg_of X G a14
  have F15 := fun_mk (st := sNet) l15 c15 k15
  have b15 := F15.binds (ps := ["_law_cells", "_law_first"]) fun _ _ _ _ _ _ us hl => by obtain ⟨_, _, rfl⟩ := len_2 hl; rfl
  have m15 := PySem.W.mg_of X G a15
  have F16 := fun_mk (st := sSomeNet) l16 c16 k16
  have b16 := F16.binds (ps := ["_law_script", "_law_at", "_law_sizes"]) fun _ _ _ _ _ _ us hl => by obtain ⟨_, _, _, rfl⟩ := len_3 hl; rfl
  have m16 := PySem.W.mg_of X G a16
  have F17 := fun_mk (st := s_law_rising) l17 c17 k17
  have b17 := F17.binds (ps := ["_law_count", "_law_many"]) fun _ _ _ _ _ _ us hl => by obtain ⟨_, _, rfl⟩ := len_2 hl; rfl
  have m17 := PySem.W.mg_of X G a17
  have F18 := fun_mk (st := s_law_marks) l18 c18 k18
  have b18 := F18.binds (ps := ["_law_net_here", "_law_chosen"]) fun _ _ _ _ _ _ us hl => by obtain ⟨_, _, rfl⟩ := len_2 hl; rfl
  have m18 := PySem.W.mg_of X G a18
  have F19 := fun_mk (st := s_law_trees) l19 c19 k19
  have b19 := F19.binds (ps := ["_law_net_here"]) fun _ _ _ _ _ _ us hl => by obtain ⟨_, rfl⟩ := len_1 hl; rfl
  have m19 := PySem.W.mg_of X G a19
  have F20 := fun_mk (st := s_law_halves) l20 c20 k20
  have b20 := F20.binds (ps := ["_law_net_here"]) fun _ _ _ _ _ _ us hl => by obtain ⟨_, rfl⟩ := len_1 hl; rfl
  have m20 := PySem.W.mg_of X G a20
  have F21 := fun_mk (st := s_law_rows) l21 c21 k21
  have b21 := F21.binds (ps := ["_law_found", "_law_due"]) fun _ _ _ _ _ _ us hl => by obtain ⟨_, _, rfl⟩ := len_2 hl; rfl
  have m21 := PySem.W.mg_of X G a21
  have F22 := fun_mk (st := s_law_refused) l22 c22 k22
  have b22 := F22.binds (ps := ["_law_net_here", "_law_way"]) fun _ _ _ _ _ _ us hl => by obtain ⟨_, _, rfl⟩ := len_2 hl; rfl
  have m22 := PySem.W.mg_of X G a22
  have F23 := fun_mk (st := sLaw) l23 c23 k23
  have mC := PySem.W.mg_of X G aC
  have mF := PySem.W.mg_of X G aCF
  have mL := PySem.W.mg_of X G aCL
  have mA := PySem.W.mg_of X G aCA
  have XT : XCls K C := ⟨g1, g2, g3, g4, g5, g6, g7, g8⟩
  have m_abs := PySem.W.mg_none_of X G z_abs
  have m_len := PySem.W.mg_none_of X G z_len
  have m_range := PySem.W.mg_none_of X G z_range
  have m_list := PySem.W.mg_none_of X G z_list
  have m_tuple := PySem.W.mg_none_of X G z_tuple
  have m_isinstance := PySem.W.mg_none_of X G z_isinstance
  have m_int := PySem.W.mg_none_of X G z_int
  have m_bool := PySem.W.mg_none_of X G z_bool
  have m_min := PySem.W.mg_none_of X G z_min
  have m_any := PySem.W.mg_none_of X G z_any
  have m_ValueError := PySem.W.mg_none_of X G z_ValueError
  refine ⟨PySem.W.fnOf "law" "law" (defArgs sLaw) (defBody sLaw) (defScope sLaw) .none kV23 dc23 pm23 an23 cd23 ct23, fun s v => .of_eq rfl, fun base _ _ => ?_⟩
  have O1 : FnOk l.prog w K mg base CX0 1 f1 _ ["start", "ropes"] spLed := ok_led F1 m_len
  have O2 : FnOk l.prog w K mg base CX0 1 f2 _ ["count", "size"] spRise := ok_rise F2 m_range
  have O3 : FnOk l.prog w K mg base CX0 2 f3 _ ["net", "chosen"] (spFits 1 treeB) := ok_isTree F3 O1 b1 k1 m1 m_len
  have O4 : FnOk l.prog w K mg base CX0 2 f4 _ ["net", "chosen"] (spFits 2 halfB) := ok_isHalf F4 O1 b1 k1 m1 m_len
  have O5a : FnOk l.prog w K mg base (CXr l.prog w) 3 f5 _ ["net", "size", "fits"] (spFit C f3 1 treeB) := ok_fit (by decide) F5 O2 b2 k2 m2 O3 b3 k3 mC xC m_len m_tuple
  have O5b : FnOk l.prog w K mg base (CXr l.prog w) 3 f5 _ ["net", "size", "fits"] (spFit C f4 2 halfB) := ok_fit (by decide) F5 O2 b2 k2 m2 O4 b4 k4 mC xC m_len m_tuple
  have O6 : FnOk l.prog w K mg base (CXr l.prog w) 4 f6 _ ["net"] (spAll20 C 1 treeB) := ok_trees F6 O5a b5 k5 m5 m3
  have O7 : FnOk l.prog w K mg base (CXr l.prog w) 4 f7 _ ["net"] (spAll20 C 2 halfB) := ok_halves F7 O5b b5 k5 m5 m4
  have O8 : FnOk l.prog w K mg base CX0 1 f8 _ ["_law_script", "_law_k"] (spCell K) := ok_cell F8 m_len
  have O9 : FnOk l.prog w K mg base CX0 1 f9 _ ["_law_top", "_law_bottom"] spLow := ok_low F9 m_abs
  have O10 : FnOk l.prog w K mg base CX0 2 f10 _ ["_law_cell_here"] spEase := ok_ease F10 O9 b9 k9 m9
  have O11 : FnOk l.prog w K mg base CX0 1 f11 _ ["_law_turns", "_law_end"] spSpot := ok_spot F11 m_len m_range
  have O12 : FnOk l.prog w K mg base CX0 2 f12 _ ["_law_turns", "_law_end"] spNext := ok_next F12 O11 b11 k11 m11
  have O13 : FnOk l.prog w K mg base CX0 2 f13 _ ["_law_turns", "_law_end", "_law_fresh"] spPut := ok_put F13 O11 b11 k11 m11
  have O14 : FnOk l.prog w K mg base CX0 3 f14 _ ["_law_ropes", "_law_turns", "_law_cell_here"] spGrow := ok_grow F14 O10 b10 k10 m10 O13 b13 k13 m13 O11 b11 k11 m11 O12 b12 k12 m12 m_len m_range
  have O15 : FnOk l.prog w K mg base CX0 4 f15 _ ["_law_cells", "_law_first"] spNet := ok_net F15 O10 b10 k10 m10 O14 b14 k14 m14 m_len m_tuple
  have O16 : FnOk l.prog w K mg base CX0 5 f16 _ ["_law_script", "_law_at", "_law_sizes"] (spSome K) := ok_some F16 O8 b8 k8 m8 O15 b15 k15 m15 m_len m_min m_range
  have O17 : FnOk l.prog w K mg base CX0 1 f17 _ ["_law_count", "_law_many"] spRise := ok_lrise F17 m_range
  have O18 : FnOk l.prog w K mg base CX0 1 f18 _ ["_law_net_here", "_law_chosen"] spMarks := ok_marks F18 m_range m_list
  have O19 : FnOk l.prog w K mg base CX0 2 f19 _ ["_law_net_here"] (spLT 1 treeB) := ok_ltrees F19 O17 b17 k17 m17 O18 b18 k18 m18 m_len
  have O20 : FnOk l.prog w K mg base CX0 2 f20 _ ["_law_net_here"] (spLT 2 halfB) := ok_lhalves F20 O17 b17 k17 m17 O18 b18 k18 m18 m_len
  have O21 : FnOk l.prog w K mg base CX0 1 f21 _ ["_law_found", "_law_due"] spRows := ok_rows F21 m_isinstance m_tuple m_len m_any m_bool m_int m_list
  have O22 : FnOk l.prog w K mg base CX0 5 f22 _ ["_law_net_here", "_law_way"] spRefu := ok_refu F22 O6 b6 k6 m6 O7 b7 k7 m7 mC mF mL mA xF XT y1 y2 y3 m_isinstance m_ValueError
  exact ok_law F23 O8 b8 k8 m8 O15 b15 k15 m15 O22 b22 k22 m22 O16 b16 k16 m16 O6 b6 k6 m6 O7 b7 k7 m7 O19 b19 k19 m19 O20 b20 k20 m20 O21 b21 k21 m21 m_range
theorem walk {l : PySem.W.OpenLaw} {q : Program} {loose : List Str} {XP : (Str → Option Value) → Heap → Prop} {YP : World → Heap → Prop} {d : DefRec} {K : Params → PySem.W.Frag} (hn : l.most = some 63) (hdf : d.params.defaults = [])
    (hY : ∀ (w : World) (h : Heap), YP w h → (K w.params).In h)
    (F : ∀ (w : World) (mg : Str → Option Value) (fa : Addr) (h : Heap), (K w.params).In h → h.Ns mainGlobals mg → mg d.name = some (.ref fa) →
      ∃ fd : FuncData, (∀ (s : Shared) (u : Value), BindsTo s fd ⟨[u], []⟩ [("_law_script", u)]) ∧ ∀ base : Heap, (K w.params).In base → base.Ns mainGlobals mg → FnOk l.prog w (K w.params) mg base CX0 6 fa fd ["_law_script"] (spLaw (K w.params))) :
    PySem.W.WalkO q loose XP YP l.row.toRowW d [] (fun f vs => PySem.call f vs) :=
  L2.walk_of (n := 63) (k := 6) (x := "_law_script") (CX := fun _ => CX0) (sp := fun w => spLaw (K w.params)) hn (by decide) hdf ⟨rfl, by decide, by decide⟩ hY F (fun _ _ a ns hl _ hS => ⟨a, ns, rfl, hS, hl, fun _ => rfl⟩) fun _ _ _ _ _ z => z
end My
open PySem PySem.W PyProof.Rows
set_option maxRecDepth 100000 in
set_option maxHeartbeats 0 in
theorem PySem.Challenge.cw_currentfloor_k20_trees_told_holds : PySem.Challenge.rw_currentfloor_k20_trees_told.Holds := by
  w_on; o_law; k_head; (case hw => w_witness2)
  k_fill
  refine My.walk (l := PySem.Challenge.rw_currentfloor_k20_trees_told) rfl rfl (fun w h Y => PySem.W.kIn_of Y) ?F
  case F =>
    intro w mg fa h KX G hmg
    refine' My.all_mk KX G hmg ?a1 ?l1 ?c1 ?k1 ?a2 ?l2 ?c2 ?k2 ?a3 ?l3 ?c3 ?k3 ?a4 ?l4 ?c4 ?k4 ?a5 ?l5 ?c5 ?k5 ?a6 ?l6 ?c6 ?k6 ?a7 ?l7 ?c7 ?k7 ?a8 ?l8 ?c8 ?k8 ?a9 ?l9 ?c9 ?k9 ?a10 ?l10 ?c10 ?k10 ?a11 ?l11 ?c11 ?k11 ?a12 ?l12 ?c12 ?k12 ?a13 ?l13 ?c13 ?k13 ?a14 ?l14 ?c14 ?k14 ?a15 ?l15 ?c15 ?k15 ?a16 ?l16 ?c16 ?k16 ?a17 ?l17 ?c17 ?k17 ?a18 ?l18 ?c18 ?k18 ?a19 ?l19 ?c19 ?k19 ?a20 ?l20 ?c20 ?k20 ?a21 ?l21 ?c21 ?k21 ?a22 ?l22 ?c22 ?k22 ?a23 ?l23 ?c23 ?k23 ?aC ?aCF ?aCL ?aCA ?xC ?xF ?y1 ?y2 ?y3 ?g1 ?g2 ?g3 ?g4 ?g5 ?g6 ?g7 ?g8 ?z_abs ?z_len ?z_range ?z_list ?z_tuple ?z_isinstance ?z_int ?z_bool ?z_min ?z_any ?z_ValueError
    (case a1 => k_is)
    (case l1 => k_is)
    (case c1 => k_is)
    (case k1 => k_is)
    (case a2 => k_is)
    (case l2 => k_is)
    (case c2 => k_is)
    (case k2 => k_is)
    (case a3 => k_is)
    (case l3 => k_is)
    (case c3 => k_is)
    (case k3 => k_is)
    (case a4 => k_is)
    (case l4 => k_is)
    (case c4 => k_is)
    (case k4 => k_is)
    (case a5 => k_is)
    (case l5 => k_is)
    (case c5 => k_is)
    (case k5 => k_is)
    (case a6 => k_is)
    (case l6 => k_is)
    (case c6 => k_is)
    (case k6 => k_is)
    (case a7 => k_is)
    (case l7 => k_is)
    (case c7 => k_is)
    (case k7 => k_is)
    (case a8 => k_is)
    (case l8 => k_is)
    (case c8 => k_is)
    (case k8 => k_is)
    (case a9 => k_is)
    (case l9 => k_is)
    (case c9 => k_is)
    (case k9 => k_is)
    (case a10 => k_is)
    (case l10 => k_is)
    (case c10 => k_is)
    (case k10 => k_is)
    (case a11 => k_is)
    (case l11 => k_is)
    (case c11 => k_is)
    (case k11 => k_is)
    (case a12 => k_is)
    (case l12 => k_is)
    (case c12 => k_is)
    (case k12 => k_is)
    (case a13 => k_is)
    (case l13 => k_is)
    (case c13 => k_is)
    (case k13 => k_is)
    (case a14 => k_is)
    (case l14 => k_is)
    (case c14 => k_is)
    (case k14 => k_is)
    (case a15 => k_is)
    (case l15 => k_is)
    (case c15 => k_is)
    (case k15 => k_is)
    (case a16 => k_is)
    (case l16 => k_is)
    (case c16 => k_is)
    (case k16 => k_is)
    (case a17 => k_is)
    (case l17 => k_is)
    (case c17 => k_is)
    (case k17 => k_is)
    (case a18 => k_is)
    (case l18 => k_is)
    (case c18 => k_is)
    (case k18 => k_is)
    (case a19 => k_is)
    (case l19 => k_is)
    (case c19 => k_is)
    (case k19 => k_is)
    (case a20 => k_is)
    (case l20 => k_is)
    (case c20 => k_is)
    (case k20 => k_is)
    (case a21 => k_is)
    (case l21 => k_is)
    (case c21 => k_is)
    (case k21 => k_is)
    (case a22 => k_is)
    (case l22 => k_is)
    (case c22 => k_is)
    (case k22 => k_is)
    (case a23 => k_is)
    (case l23 => k_is)
    (case c23 => k_is)
    (case k23 => k_is)
    (case aC => k_is)
    (case aCF => k_is)
    (case aCL => k_is)
    (case aCA => k_is)
    (case xC => k_exc)
    (case xF => kernel_rfl)
    (case y1 => kernel_rfl)
    (case y2 => kernel_rfl)
    (case y3 => kernel_rfl)
    (case g1 => first | k_is | kernel_rfl)
    (case g2 => first | k_is | kernel_rfl)
    (case g3 => first | k_is | kernel_rfl)
    (case g4 => first | k_is | kernel_rfl)
    (case g5 => first | k_is | kernel_rfl)
    (case g6 => first | k_is | kernel_rfl)
    (case g7 => first | k_is | kernel_rfl)
    (case g8 => first | k_is | kernel_rfl)
    (case z_abs => k_is)
    (case z_len => k_is)
    (case z_range => k_is)
    (case z_list => k_is)
    (case z_tuple => k_is)
    (case z_isinstance => k_is)
    (case z_int => k_is)
    (case z_bool => k_is)
    (case z_min => k_is)
    (case z_any => k_is)
    (case z_ValueError => k_is)
