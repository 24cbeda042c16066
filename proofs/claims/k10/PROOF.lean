import PyProof.Rows.All
import Wide.All
import OpenK.AllK
import Wide.FinOn
import Lean
import PyProof.EqAt
import PyProof.EqKinds
import PyProof.TupleCall
import PySem.Challenge.RW_moot_k10_kinds_in_order
set_option Elab.async false
set_option linter.all false
set_option maxRecDepth 100000
/-! THE HAND LAYER, for ints, bools, texts, own classes, LISTS and tuples (index, slices, in, append, pop ..), calls, loops. Paste it whole ahead of your own text; what your proof does not reach may be deleted. -/
namespace L2
open PySem PySem.Spec PyProof.Rows

/-- a key: an int or a str -/
abbrev Key := Sum Int Str
def keyIs : Key → Value → Bool
  | .inl k, v => Value.isInt k v
  | .inr x, v => Value.isStrOf x v
def keyH (w : World) : Key → Int
  | .inl k => hashInt k
  | .inr x => hashStr w x
theorem keyIs_shape : ∀ {k : Key} {v : Value}, keyIs k v = true → (∃ i t, k = Sum.inl i ∧ v = Value.int i t) ∨ (∃ x t, k = Sum.inr x ∧ v = Value.str x t)
  | .inl i, v, h => by
    obtain ⟨t, e⟩ := Value.isInt_shape (k := i) (v := v) h
    exact .inl ⟨i, t, rfl, e⟩
  | .inr x, v, h => by
    obtain ⟨t, e⟩ := Value.isStrOf_shape (x := x) (v := v) h
    exact .inr ⟨x, t, rfl, e⟩
theorem keyIs_int (i : Int) (t : Tok) : keyIs (.inl i) (.int i t) = true := by simp [keyIs, Value.isInt]
theorem keyIs_str (x : Str) (t : Tok) : keyIs (.inr x) (.str x t) = true := by simp [keyIs, Value.isStrOf]
theorem key_ll (a b : Int) : decide ((Sum.inl a : Key) = Sum.inl b) = (a == b) := by
  by_cases e : a = b
  · subst e; simp
  · have h : ¬ (Sum.inl a : Key) = Sum.inl b := fun q => e (Sum.inl.inj q)
    rw [decide_eq_false h]
    exact (beq_eq_false_iff_ne.mpr e).symm
theorem key_rr (a b : Str) : decide ((Sum.inr a : Key) = Sum.inr b) = decide (a = b) := by
  by_cases e : a = b
  · subst e; simp
  · have h : ¬ (Sum.inr a : Key) = Sum.inr b := fun q => e (Sum.inr.inj q)
    rw [decide_eq_false h, decide_eq_false e]
theorem key_lr (a : Int) (b : Str) : decide ((Sum.inl a : Key) = Sum.inr b) = false := decide_eq_false (fun q => nomatch q)
theorem key_rl (a : Str) (b : Int) : decide ((Sum.inr a : Key) = Sum.inl b) = false := decide_eq_false (fun q => nomatch q)

def mixKind (prog : Program) (w : World) : PySem.KeyKind prog w Key where
  is := keyIs
  hash := keyH w
  inj := fun v a b ha hb => by
    rcases keyIs_shape ha with ⟨i, t, rfl, rfl⟩ | ⟨x, t, rfl, rfl⟩
    · rcases keyIs_shape hb with ⟨j, u, rfl, e⟩ | ⟨y, u, rfl, e⟩
      · injection e with e1 _; rw [e1]
      · exact nomatch e
    · rcases keyIs_shape hb with ⟨j, u, rfl, e⟩ | ⟨y, u, rfl, e⟩
      · exact nomatch e
      · injection e with e1 _; rw [e1]
  byValue := fun k v h => by
    rcases keyIs_shape h with ⟨i, t, rfl, rfl⟩ | ⟨x, t, rfl, rfl⟩ <;> rfl
  pyHash := fun hv h => by
    rcases keyIs_shape hv with ⟨i, t, rfl, rfl⟩ | ⟨x, t, rfl, rfl⟩
    · exact wpAny_pyHash_int h
    · exact wpAny_pyHash_str h
  eqBool := fun hu hv h => by
    rcases keyIs_shape hu with ⟨i, t, rfl, rfl⟩ | ⟨x, t, rfl, rfl⟩
    · rcases keyIs_shape hv with ⟨j, u, rfl, rfl⟩ | ⟨y, u, rfl, rfl⟩
      · rw [key_ll] at h; exact wpAny_eqBool_int h
      · rw [key_lr] at h; exact SeqAt.EqAt.int_str i t y u _ _ _ _ h
    · rcases keyIs_shape hv with ⟨j, u, rfl, rfl⟩ | ⟨y, u, rfl, rfl⟩
      · rw [key_rl] at h; exact SeqAt.EqAt.str_int x t j u _ _ _ _ h
      · rw [key_rr] at h; exact wpAny_eqBool_str h
  «strs» := fun k x t v h => by
    rcases keyIs_shape h with ⟨i, u, rfl, e⟩ | ⟨y, u, rfl, e⟩
    · exact nomatch e
    · injection e with e1 _
      subst e1
      cases v <;> rfl

theorem mixKind_is (prog : Program) (w : World) (k : Key) (v : Value) : (mixKind prog w).is k v = keyIs k v := rfl
theorem mixKind_int (prog : Program) (w : World) (i : Int) (t : Tok) : (mixKind prog w).is (.inl i) (.int i t) = true := keyIs_int i t
theorem mixKind_str (prog : Program) (w : World) (x : Str) (t : Tok) : (mixKind prog w).is (.inr x) (.str x t) = true := keyIs_str x t
end L2

namespace L2
open PySem PySem.Spec PyProof.Rows

/-- a value, without the heap -/
inductive V where
  | non | bl (b : Bool) | int (i : Int) | str (x : Str) | byt (b : Array UInt8) | flt (b : UInt64) | ref (a : Addr) | ty (n : String)
  deriving DecidableEq

def RelV : V → Value → Prop
  | .non, u => u = Value.none
  | .bl b, u => u = Value.bool b
  | .int i, u => ∃ t, u = Value.int i t
  | .str x, u => ∃ t, u = Value.str x t
  | .byt b, u => ∃ t, u = Value.bytes b t
  | .flt b, u => ∃ t, u = Value.float b t
  | .ref a, u => u = Value.ref a
  | .ty n, u => u = Value.type n

abbrev Vals : List V → List Value → Prop := Paired RelV
theorem Vals.length {xs : List V} {us : List Value} (r : Vals xs us) : xs.length = us.length := Paired.length r
theorem Vals.get : ∀ {xs : List V} {us : List Value} {i : Nat} {x : V}, Vals xs us → xs[i]? = some x → ∃ u, us[i]? = some u ∧ RelV x u
  | _, _, _, _, .nil, e => by simp at e
  | _, _, 0, _, .cons r _, e => by simp at e; subst e; exact ⟨_, rfl, r⟩
  | _, _, i + 1, x, .cons _ t, e => by
    obtain ⟨u, h1, h2⟩ := Vals.get (i := i) (x := x) t (by simpa using e)
    exact ⟨u, by simpa using h1, h2⟩
theorem Vals.set {x : V} {u : Value} (r : RelV x u) : ∀ {xs : List V} {us : List Value} (i : Nat), Vals xs us → Vals (xs.set i x) (us.set i u)
  | _, _, _, .nil => .nil
  | _, _, 0, .cons _ t => .cons r t
  | _, _, i + 1, .cons q t => .cons q (Vals.set r i t)
theorem Vals.append : ∀ {xs ys : List V} {us ws : List Value}, Vals xs us → Vals ys ws → Vals (xs ++ ys) (us ++ ws)
  | _, _, _, _, .nil, s => s
  | _, _, _, _, .cons r t, s => .cons r (Vals.append t s)
theorem Vals.take : ∀ {xs : List V} {us : List Value} (n : Nat), Vals xs us → Vals (xs.take n) (us.take n)
  | _, _, 0, _ => .nil
  | _, _, _ + 1, .nil => .nil
  | _, _, n + 1, .cons r t => .cons r (Vals.take n t)
theorem Vals.drop : ∀ {xs : List V} {us : List Value} (n : Nat), Vals xs us → Vals (xs.drop n) (us.drop n)
  | _, _, 0, r => r
  | _, _, _ + 1, .nil => .nil
  | _, _, n + 1, .cons _ t => Vals.drop n t
theorem Vals.none_of : ∀ {xs : List V} {us : List Value} {i : Nat}, Vals xs us → xs[i]? = none → us[i]? = none := fun {xs us i} r e => by
  have h1 := r.length
  have h2 : xs.length ≤ i := List.getElem?_eq_none_iff.mp e
  exact List.getElem?_eq_none_iff.mpr (by omega)

def RelO : Option V → Option Value → Prop
  | some v, some u => RelV v u
  | none, none => True
  | _, _ => False
def KV {κ : Type} : List (κ × V) → List (κ × Value) → Prop := Paired fun (p : κ × V) (q : κ × Value) => p.1 = q.1 ∧ RelV p.2 q.2

/-- a key of a dict (00_mix): an int or a text -/
def kV : Key → V
  | .inl i => .int i
  | .inr x => .str x

/-- what stands at a tracked address -/
inductive HO where
  /-- a list -/
  | lst (xs : List V)
  /-- a tuple (never changes) -/
  | tup (xs : List V)
  /-- a dict whose keys are ints and texts; one whose keys are tuples of ints and texts (the empty one is both) -/
  | dK (kvs : List (Key × V)) | dT (kvs : List (List Key × V))
  /-- a set of ints: its members, its size -/
  | set (S : Int → Bool) (n : Nat)
  /-- an instance of the class at C, its dict at dx, its attributes -/
  | ins (C dx : Addr) (fs : List (Str × V))
  /-- the dict of the instance at x -/
  | own (x : Addr)
  /-- the dict of an exception -/
  | xd (fs : List (Str × V))
  /-- a bound method, f of x -/
  | met (f x : Addr)
  /-- a range object lo, lo + 1, .. below hi -/
  | rng (lo hi : Int)
  /-- a thing that is known to the object (the script; a dict while a loop walks it): read, never written while it is so -/
  | frz (o : Obj) (u : HO)
  /-- a code object's table -/
  | tbl (ps : Array Value)
  /-- any other thing, by what is true of its one object (a def of one's own: SetO a S n := HO.ext fun h => ..) -/
  | ext (φ : Heap → Prop)

abbrev Hp := Addr → Option HO
def upd (H : Hp) (a : Addr) (o : HO) : Hp := fun b => if b = a then some o else H b
theorem upd_same {H : Hp} {a : Addr} {o : HO} : upd H a o a = some o := by unfold upd; rw [if_pos rfl]
theorem upd_ne {H : Hp} {a b : Addr} {o : HO} (h : b ≠ a) : upd H a o b = H b := by unfold upd; rw [if_neg h]
theorem upd_upd {H : Hp} {a : Addr} {o u : HO} : upd (upd H a o) a u = upd H a u := by
  funext b; unfold upd; split <;> rfl
/-- two objects of different content stand apart -/
theorem ne_of {H : Hp} {a b : Addr} {o u : HO} (h : H a = some o) (h' : H b = some u) (d : o ≠ u) : a ≠ b := by
  intro e; subst e; rw [h] at h'; exact d (Option.some.inj h')
theorem ne_of_none {H : Hp} {a b : Addr} {o : HO} (h : H a = some o) (h' : H b = none) : a ≠ b := by
  intro e; subst e; rw [h] at h'; cases h'

section
variable (P : Program) (w : World)
def ObjOk (H : Hp) (h : Heap) (a : Addr) : HO → Prop
  | .lst xs => xs.length ≤ sizeLine ∧ ∃ (its : List Value) (n : Nat), Vals xs its ∧ h.get? a = some { cls := .type "list", data := .seq its.toArray n }
  | .tup xs => xs.length ≤ sizeLine ∧ ∃ its : List Value, Vals xs its ∧ IsTup h a its.toArray
  | .dK kvs => kvs.length ≤ sizeLine ∧ (a == sysModules) = false ∧ ∃ vs, KV kvs vs ∧ h.DictOf (mixKind P w) a vs
  | .dT kvs => kvs.length ≤ sizeLine ∧ (a == sysModules) = false ∧ ∃ xs : List (List Key × Addr × Value),
      Paired (fun (p : List Key × V) (q : List Key × Addr × Value) => p.1 = q.1 ∧ H q.2.1 = some (.tup (p.1.map kV)) ∧ RelV p.2 q.2.2) kvs xs ∧
      ∃ o es ep, h.get? a = some o ∧ o.ExactDict ∧ o.data = .dict es ep ∧ es.toList = xs.map (entryOfKey (tupleKind (mixKind P w))) ∧ (xs.map (·.1)).Nodup
  | .set S n => h.SetOf (intKind P w) a S n
  | .ins C dx fs => H dx = some (.own a) ∧ fs.length ≤ 1000 ∧ dx ≠ a ∧ h.get? a = some (PySem.W.instObj C dx) ∧
      ∃ mA, h.Ns1 dx mA ∧ (∀ f, RelO (fs.lookup f) (mA f)) ∧ PySem.Within mA (fs.map (·.1))
  | .own _ => ∃ o, h.get? a = some o
  | .xd fs => ∃ mA, h.Ns1 a mA ∧ ∀ f, RelO (fs.lookup f) (mA f)
  | .rng lo hi => ∃ t u v, h.get? a = some { cls := .type "range", data := .fields #[.int lo t, .int hi u, .int 1 v] }
  | .frz o u => h.get? a = some o ∧ ObjOk H h a u
  | .tbl ps => h.get? a = some { cls := .none, data := .fields ps }
  | .met f x => h.get? a = some (PySem.W.methodObj (.ref f) (.ref x))
  | .ext φ => φ h ∧ (∃ o, h.get? a = some o) ∧ ∀ h1 h2 : Heap, φ h1 → (∀ o, h1.get? a = some o → h2.get? a = some o) → φ h2
/-- the abstract heap is held -/
def HOk (H : Hp) (h : Heap) : Prop := ∀ a o, H a = some o → ObjOk P w H h a o
end

section
variable {P : Program} {w : World} {H H' : Hp} {h h' : Heap} {a : Addr} {o : HO}
theorem ObjOk.lt (x : ObjOk P w H h a o) : a < h.objs.size := by
  cases o with
  | lst xs => obtain ⟨_, _, _, _, e⟩ := x; exact Heap.lt_size e
  | tup xs => obtain ⟨_, _, _, p⟩ := x; exact p.lt
  | dK kvs => obtain ⟨_, _, _, _, o, _, _, e, _⟩ := x; exact Heap.lt_size e
  | dT kvs => obtain ⟨_, _, _, _, o, _, _, e, _⟩ := x; exact Heap.lt_size e
  | set S n => obtain ⟨o, _, _, _, e, _⟩ := x; exact Heap.lt_size e
  | ins C dx fs => obtain ⟨_, _, _, e, _⟩ := x; exact Heap.lt_size e
  | own y => obtain ⟨_, e⟩ := x; exact Heap.lt_size e
  | xd fs => obtain ⟨_, ⟨_, _, _, e, _⟩, _⟩ := x; exact Heap.lt_size e
  | rng lo hi => obtain ⟨_, _, _, e⟩ := x; exact Heap.lt_size e
  | frz ob u => obtain ⟨e, _⟩ := x; exact Heap.lt_size e
  | tbl ps => exact Heap.lt_size (show h.get? a = some _ from x)
  | met f y => exact Heap.lt_size (show h.get? a = some _ from x)
  | ext φ => obtain ⟨_, ⟨_, e⟩, _⟩ := x; exact Heap.lt_size e
theorem Paired.mapP {α β : Type} {F G : α → β → Prop} : ∀ {l₁ : List α} {l₂ : List β}, Paired F l₁ l₂ → (∀ a b, F a b → G a b) → Paired G l₁ l₂
  | _, _, .nil, _ => .nil
  | _, _, .cons r t, f => .cons (f _ _ r) (Paired.mapP t f)
theorem Paired.imp' {α β : Type} {F G : α → β → Prop} (f : ∀ a b, F a b → G a b) {l₁ : List α} {l₂ : List β} (r : Paired F l₁ l₂) : Paired G l₁ l₂ := Paired.mapP r f
/-- what an object's description leans on: its own object, its own dict, the tuples -/
theorem ObjOk.stay (x : ObjOk P w H h a o) (k : ∀ b u, (b = a ∨ H b = some (.own a)) → h.get? b = some u → h'.get? b = some u)
    (ho : ∀ b, H b = some (.own a) → H' b = some (.own a)) (ht : ∀ b xs, H b = some (.tup xs) → H' b = some (.tup xs)) : ObjOk P w H' h' a o := by
  induction o with
  | lst xs => obtain ⟨z, its, n, r, e⟩ := x; exact ⟨z, its, n, r, k _ _ (.inl rfl) e⟩
  | tup xs => obtain ⟨z, its, r, ob, e, c⟩ := x; exact ⟨z, its, r, ob, k _ _ (.inl rfl) e, c⟩
  | dK kvs => obtain ⟨z, y, vs, r, ob, es, ep, e, c⟩ := x; exact ⟨z, y, vs, r, ob, es, ep, k _ _ (.inl rfl) e, c⟩
  | dT kvs =>
    obtain ⟨z, y, xs, r, ob, es, ep, e, c⟩ := x
    exact ⟨z, y, xs, Paired.mapP r fun p q z => ⟨z.1, ht _ _ z.2.1, z.2.2⟩, ob, es, ep, k _ _ (.inl rfl) e, c⟩
  | set S n => obtain ⟨ob, es, ep, t, e, c⟩ := x; exact ⟨ob, es, ep, t, k _ _ (.inl rfl) e, c⟩
  | ins C dx fs =>
    obtain ⟨d, z, ne, e, mA, ⟨od, es, ep, e2, c⟩, r⟩ := x
    exact ⟨ho _ d, z, ne, k _ _ (.inl rfl) e, mA, ⟨od, es, ep, k _ _ (.inr d) e2, c⟩, r⟩
  | own y => obtain ⟨ob, e⟩ := x; exact ⟨ob, k _ _ (.inl rfl) e⟩
  | xd fs => obtain ⟨mA, ⟨od, es, ep, e, c⟩, r⟩ := x; exact ⟨mA, ⟨od, es, ep, k _ _ (.inl rfl) e, c⟩, r⟩
  | rng lo hi => obtain ⟨t, u, v, e⟩ := x; exact ⟨t, u, v, k _ _ (.inl rfl) e⟩
  | frz ob u ih => obtain ⟨e, q⟩ := x; exact ⟨k _ _ (.inl rfl) e, ih q⟩
  | tbl ps =>
    have e : h.get? a = some { cls := .none, data := .fields ps } := x
    show h'.get? a = some { cls := .none, data := .fields ps }
    exact k a _ (.inl rfl) e
  | met f y =>
    have e : h.get? a = some (PySem.W.methodObj (.ref f) (.ref y)) := x
    show h'.get? a = some (PySem.W.methodObj (.ref f) (.ref y))
    exact k a _ (.inl rfl) e
  | ext φ => obtain ⟨p, ⟨o, e⟩, st⟩ := x; exact ⟨st _ _ p fun o q => k _ _ (.inl rfl) q, ⟨o, k _ _ (.inl rfl) e⟩, st⟩
theorem HOk.lt (x : HOk P w H h) (e : H a = some o) : a < h.objs.size := (x a o e).lt
theorem HOk.fresh (x : HOk P w H h) (e : h.objs.size ≤ a) : H a = none := by
  cases q : H a with
  | none => rfl
  | some u => exact absurd (Nat.lt_of_lt_of_le (x.lt q) e) (Nat.lt_irrefl _)
/-- every object of the heap is kept -/
theorem HOk.kept (x : HOk P w H h) (k : ∀ b u, h.get? b = some u → h'.get? b = some u) : HOk P w H h' := fun a o e =>
  (x a o e).stay (fun b u _ q => k b u q) (fun _ q => q) fun _ _ q => q
/-- a new object is laid and tracked -/
theorem HOk.laid (x : HOk P w H h) (k : ∀ b u, h.get? b = some u → h'.get? b = some u) (hp : h.objs.size ≤ a) (new : ObjOk P w (upd H a o) h' a o) : HOk P w (upd H a o) h' := fun b u e => by
  have hn := x.fresh hp
  by_cases hb : b = a
  · subst hb; rw [upd_same] at e; cases e; exact new
  · rw [upd_ne hb] at e
    exact (x b u e).stay (fun c v _ q => k c v q) (fun c q => by rw [upd_ne (ne_of_none q hn)]; exact q) fun c xs q => by rw [upd_ne (ne_of_none q hn)]; exact q
end

/-- what may be read as u: it is u, or a known u -/
def Rd (H : Hp) (a : Addr) (u : HO) : Prop := H a = some u ∨ ∃ o, H a = some (.frz o u)
theorem Rd.of {H : Hp} {a : Addr} {u : HO} (h : H a = some u) : Rd H a u := .inl h
theorem Rd.ok {P : Program} {w : World} {H : Hp} {h : Heap} {a : Addr} {u : HO} (r : Rd H a u) (x : HOk P w H h) : ObjOk P w H h a u := by
  rcases r with r | ⟨o, r⟩
  · exact x a u r
  · obtain ⟨_, q⟩ := x a _ r
    exact q
/-- what may be written -/
def Mut : Option HO → Prop
  | some (.lst _) => True
  | some (.dK _) => True
  | some (.dT _) => True
  | some (.set _ _) => True
  | some (.ins _ _ _) => True
  | some (.ext _) => True
  | _ => False
section
variable {P : Program} {w : World} {H : Hp} {h h' : Heap} {x e : Addr} {o' : HO}
/-- the object at e is changed: x itself, or the dict of the instance x -/
theorem HOk.write (ok : HOk P w H h) (mu : Mut (H x)) (he : e = x ∨ H e = some (.own x)) (k : ∀ b u, b ≠ e → h.get? b = some u → h'.get? b = some u) (heo : ∃ u, h'.get? e = some u)
    (new : ObjOk P w (upd H x o') h' x o') : HOk P w (upd H x o') h' := fun b u q => by
  have nown : ∀ c y, H c = some (.own y) → c ≠ x := fun c y r z => by subst z; rw [r] at mu; exact mu
  have ntup : ∀ c xs, H c = some (.tup xs) → c ≠ x := fun c xs r z => by subst z; rw [r] at mu; exact mu
  by_cases hb : b = x
  · subst hb; rw [upd_same] at q; cases q; exact new
  · rw [upd_ne hb] at q
    by_cases hbe : b = e
    · have q' : H b = some (.own x) := by
        rcases he with z | z
        · exact absurd (hbe.trans z) hb
        · rw [hbe]; exact z
      rw [q] at q'; cases q'
      obtain ⟨v, hv⟩ := heo
      exact ⟨v, by rw [hbe]; exact hv⟩
    · refine (ok b u q).stay (fun c v hc r => k c v ?_ r) (fun c r => by rw [upd_ne (nown c b r)]; exact r) fun c xs r => by rw [upd_ne (ntup c xs r)]; exact r
      rcases hc with rfl | hc
      · exact hbe
      · rintro rfl
        rcases he with z | z
        · exact nown c b hc z
        · rw [hc] at z; cases z; exact hb rfl
end

/-! ### kept unless tracked; of the frames at fs (the callers') the slots may change (an exception that passes writes there); of the records at ex (iterators) nothing is said -/
structure Un (fs ex : List Addr) (H H' : Hp) (h h' : Heap) : Prop where
  keep : ∀ b o, h.get? b = some o → H b = none → b ∉ fs → b ∉ ex → h'.get? b = some o
  slot : ∀ b o, h.get? b = some o → H b = none → b ∈ fs → b ∉ ex → ∃ sl, h'.get? b = some { o with slots := sl }
  free : ∀ b o, h.get? b = some o → H b = none → b ∉ ex → H' b = none
  there : ∀ b o, h.get? b = some o → b ∉ ex → ∃ o', h'.get? b = some o'
  tups : ∀ b xs, H b = some (.tup xs) → H' b = some (.tup xs)
  frzs : ∀ b o u, H b = some (.frz o u) → H' b = some (.frz o u)
  tbls : ∀ b ps, H b = some (.tbl ps) → ∃ more, H' b = some (.tbl (ps ++ more))
section
variable {fs fs' ex ex' : List Addr} {H H1 H2 : Hp} {h h1 h2 h' : Heap} {a x e : Addr} {o : HO}
theorem Un.any (u : Un fs ex H H1 h h1) {b : Addr} {ob : Obj} (q : h.get? b = some ob) (n : H b = none) (hx : b ∉ ex) : ∃ sl, h1.get? b = some { ob with slots := sl } := by
  by_cases hb : b ∈ fs
  · exact u.slot b ob q n hb hx
  · exact ⟨ob.slots, u.keep b ob q n hb hx⟩
theorem Un.trans (a : Un fs ex H H1 h h1) (b : Un fs ex H1 H2 h1 h2) : Un fs ex H H2 h h2 where
  keep := fun c ob q n hc hx => b.keep c ob (a.keep c ob q n hc hx) (a.free c ob q n hx) hc hx
  slot := fun c ob q n hc hx => by
    obtain ⟨sl, e1⟩ := a.slot c ob q n hc hx
    obtain ⟨sl', e2⟩ := b.slot c _ e1 (a.free c ob q n hx) hc hx
    exact ⟨sl', e2⟩
  free := fun c ob q n hx => by
    obtain ⟨o', e1⟩ := a.there c ob q hx
    exact b.free c o' e1 (a.free c ob q n hx) hx
  there := fun c ob q hx => by
    obtain ⟨o', e1⟩ := a.there c ob q hx
    exact b.there c o' e1 hx
  tups := fun c xs q => b.tups c xs (a.tups c xs q)
  frzs := fun c ob xs q => b.frzs c ob xs (a.frzs c ob xs q)
  tbls := fun c ps q => by
    obtain ⟨m1, e1⟩ := a.tbls c ps q
    obtain ⟨m2, e2⟩ := b.tbls c _ e1
    exact ⟨m1 ++ m2, by rw [e2, Array.append_assoc]⟩
theorem Un.kept (k : ∀ b u, h.get? b = some u → h'.get? b = some u) : Un fs ex H H h h' :=
  ⟨fun b ob q _ _ _ => k b ob q, fun b ob q _ _ _ => ⟨ob.slots, k b ob q⟩, fun _ _ _ n _ => n, fun b ob q _ => ⟨ob, k b ob q⟩, fun _ _ q => q, fun _ _ _ q => q, fun _ ps q => ⟨#[], by rw [q]; simp⟩⟩
theorem Un.refl : Un fs ex H H h h := Un.kept fun _ _ q => q
theorem Un.laid (k : ∀ b u, h.get? b = some u → h'.get? b = some u) (hp : h.objs.size ≤ a) (hn : H a = none) : Un fs ex H (upd H a o) h h' where
  keep := fun b u q _ _ _ => k b u q
  slot := fun b u q _ _ _ => ⟨u.slots, k b u q⟩
  free := fun b u q n _ => by rw [upd_ne (Nat.ne_of_lt (Nat.lt_of_lt_of_le (Heap.lt_size q) hp))]; exact n
  there := fun b u q _ => ⟨u, k b u q⟩
  tups := fun b xs q => by rw [upd_ne (ne_of_none q hn)]; exact q
  frzs := fun b u xs q => by rw [upd_ne (ne_of_none q hn)]; exact q
  tbls := fun b ps q => ⟨#[], by rw [upd_ne (ne_of_none q hn), q]; simp⟩
theorem Un.write (mu : Mut (H x)) (he : e = x ∨ H e = some (.own x)) (k : ∀ b u, b ≠ e → h.get? b = some u → h'.get? b = some u) (heo : ∃ u, h'.get? e = some u) : Un fs ex H (upd H x o) h h' := by
  have hx : ∀ b, H b = none → b ≠ x := fun b n z => by subst z; rw [n] at mu; exact mu
  have hb : ∀ b, H b = none → b ≠ e := fun b n z => by
    subst z
    rcases he with r | r
    · exact hx b n r
    · rw [n] at r; cases r
  have hm : ∀ b u, H b = some u → ¬ Mut (some u) → b ≠ x := fun b u q nm z => by subst z; rw [q] at mu; exact nm mu
  refine ⟨fun b u q n _ _ => k b u (hb b n) q, fun b u q n _ _ => ⟨u.slots, k b u (hb b n) q⟩, fun b u q n _ => by rw [upd_ne (hx b n)]; exact n, fun b u q _ => ?_,
    fun b xs q => by rw [upd_ne (hm b _ q fun z => z)]; exact q, fun b u xs q => by rw [upd_ne (hm b _ q fun z => z)]; exact q, fun b ps q => ⟨#[], by rw [upd_ne (hm b _ q fun z => z), q]; simp⟩⟩
  by_cases hbe : b = e
  · subst hbe; exact heo
  · exact ⟨u, k b u hbe q⟩
theorem Un.mono (u : Un fs ex H H1 h h1) (hs : ∀ b ∈ fs, b ∈ fs') (hx : ∀ b ∈ ex, b ∈ ex') : Un fs' ex' H H1 h h1 :=
  ⟨fun b ob q n hb he => u.keep b ob q n (fun z => hb (hs b z)) fun z => he (hx b z), fun _ _ q n _ he => u.any q n fun z => he (hx _ z), fun b ob q n he => u.free b ob q n fun z => he (hx b z), fun b ob q he => u.there b ob q fun z => he (hx b z), u.tups, u.frzs, u.tbls⟩
end

/-! ### the heap without what is tracked -/
def trk (h : Heap) (H : Hp) : List Addr := (List.range h.objs.size).filter fun a => (H a).isSome
def hidT (h : Heap) (H : Hp) : Heap := PySem.W.hideAll h (trk h H)
theorem hidT_size (h : Heap) (H : Hp) : (hidT h H).objs.size = h.objs.size := PySem.W.hideAll_size _ _
theorem hidT_get {h : Heap} {H : Hp} {b : Addr} {o : Obj} (e : h.get? b = some o) (n : H b = none) : (hidT h H).get? b = some o :=
  PySem.W.hideAll_get _ e fun hm => by
    have q : (H b).isSome = true := (List.mem_filter.mp hm).2
    rw [n] at q; simp at q
theorem of_hidT {h : Heap} {H : Hp} {b : Addr} {o : Obj} (e : (hidT h H).get? b = some o) : h.get? b = some o ∧ H b = none := by
  have e' : h.get? b = some o := PySem.W.of_hideAll (trk h H) e
  refine ⟨e', ?_⟩
  cases q : H b with
  | none => rfl
  | some x =>
    have hm : b ∈ trk h H := List.mem_filter.mpr ⟨List.mem_range.mpr (Heap.lt_size e'), by simp [q]⟩
    have z : (hidT h H).get? b = none := PySem.W.hideAll_none (trk h H) hm
    rw [z] at e; cases e

/-! ### OpenK's ledger, filled with every new object but one -/
def allNews (g h : Heap) (L : Addr) : List (Addr × Obj) := (List.range h.objs.size).filterMap fun a => if a = L ∨ (g.get? a).isSome = true then none else (h.get? a).map fun o => (a, o)
theorem mem_allNews {g h : Heap} {L a : Addr} {o : Obj} (h1 : a ≠ L) (h2 : g.get? a = none) (h3 : h.get? a = some o) : (a, o) ∈ allNews g h L :=
  List.mem_filterMap.mpr ⟨a, List.mem_range.mpr (Heap.lt_size h3), by simp [h1, h2, h3]⟩
theorem of_mem_allNews {g h : Heap} {L : Addr} {p : Addr × Obj} (hp : p ∈ allNews g h L) : p.1 ≠ L ∧ g.get? p.1 = none ∧ h.get? p.1 = some p.2 := by
  obtain ⟨b, _, e⟩ := List.mem_filterMap.mp hp
  split at e
  · cases e
  · rename_i hn
    cases q : h.get? b with
    | none => rw [q] at e; simp at e
    | some u =>
      rw [q] at e
      simp only [Option.map_some, Option.some.injEq] at e
      subst e
      refine ⟨fun z => hn (.inl z), ?_, q⟩
      show g.get? b = none
      cases r : g.get? b with
      | none => rfl
      | some v => exact (hn (.inr (by simp [r]))).elim
def rest (g h : Heap) (L d : Addr) : List (Addr × Obj) := (allNews g h L).filter fun p => decide (p.1 ≠ d)
theorem rest_ne {g h : Heap} {L d : Addr} : ∀ p ∈ rest g h L d, p.1 ≠ d := fun p hp => of_decide_eq_true (List.mem_filter.mp hp).2
theorem mem_rest {g h : Heap} {L d a : Addr} {o : Obj} (h1 : a ≠ L) (h2 : g.get? a = none) (h3 : h.get? a = some o) (h4 : a ≠ d) : (a, o) ∈ rest g h L d :=
  List.mem_filter.mpr ⟨mem_allNews h1 h2 h3, decide_eq_true h4⟩
theorem news_all {g h : Heap} {L : Addr} : News g L h (allNews g h L) := fun p hp => let ⟨a, b, c⟩ := of_mem_allNews hp; ⟨c, a, b⟩
theorem news_at {g h : Heap} {L d : Addr} {o : Obj} (h1 : d ≠ L) (h2 : g.get? d = none) (h3 : h.get? d = some o) : News g L h ((d, o) :: rest g h L d) := fun p hp => by
  rcases List.mem_cons.mp hp with rfl | hp
  · exact ⟨h3, h1, h2⟩
  · exact news_all p (List.mem_filter.mp hp).1
/-- behind a rule that changed d alone: all else but the frame is kept -/
theorem kept_of_news {g h h' : Heap} {L d : Addr} {m : Str → Option Value} (k : ∀ b o, g.get? b = some o → h.get? b = some o) (F : Fr g L h' m) (N : News g L h' (rest g h L d)) :
    ∀ b o, b ≠ L → b ≠ d → h.get? b = some o → h'.get? b = some o := fun b o h1 h2 e => by
  cases q : g.get? b with
  | some u =>
    have := k b u q
    rw [e] at this; cases this
    exact F.keep b _ q
  | none => exact (N (b, o) (mem_rest h1 q e h2)).1
end L2

namespace L2
open PySem PySem.Spec PyProof.Rows

/-- the module's facts, over the base: the heap at the law's entry without what is tracked there -/
structure Mod (K : PySem.W.Frag) (mg : Str → Option Value) (base : Heap) : Prop where
  kin : K.In base
  glob : base.Ns mainGlobals mg
  blt : ∃ mb, base.Ns builtinsNs mb ∧ ∀ x : Str, x ≠ "__name__" → mb x = bootBuiltins x
  nolimit : base.NoLimit

/-- the context: a def's body (or a comprehension's block) running. base: fixed through the whole law; s₀, H₀: the entry; outer: the frames whose slots others may change (a def's callers); stack: all frames that run;
   ex: iterators that were made ahead of the entry and are walked here (a comprehension's); fn: the names whose cells were made at the entry (a def: all; a comprehension's block: its own); calm: not within an except suite; pn: pins that every state bears; xe: what is wanted of an exception that leaves the code -/
structure Cx where
  prog : Program
  w : World
  K : PySem.W.Frag
  mg : Str → Option Value
  base : Heap
  A : Around
  N : List Str
  s₀ : Shared
  H₀ : Hp
  env : Env
  outer : List Env
  stack : List Env
  ex : List Addr
  fn : Str → Bool
  calm : Bool
  pn : List (Addr × Obj)
  xe : Value → Shared → Prop
/-- the callers' frames -/
def frs (l : List Env) : List Addr := l.filterMap (·.frame)
abbrev Cx.fs (X : Cx) : List Addr := frs X.outer

def Vis (sc : Scope) (x : Str) : Prop := sc.names.lookup x = some .local ∨ sc.names.lookup x = some .cell ∨ sc.names.lookup x = some .free
def Loc (sc : Scope) (x : Str) : Prop := sc.names.lookup x = some .local ∨ sc.names.lookup x = some .cell
def Look (env : Env) (h : Heap) (m : Str → Option Value) (x : Str) (u : Value) : Prop :=
  (env.kindOf x = some .local ∧ m x = some u) ∨ ((env.kindOf x = some .cell ∨ env.kindOf x = some .free) ∧ ∃ c, env.cells.lookup x = some c ∧ h.IsCell c (some u))

structure Cx.Ok (X : Cx) : Prop where
  mod : Mod X.K X.mg X.base
  kind : X.env.scope.kind = .function
  glob : X.env.globals = mainGlobals
  blt : X.env.builtins = builtinsNs
  above : X.s₀.heap.objs.size ≤ X.env.locals
  inj : ∀ x y c, X.env.cells.lookup x = some c → X.env.cells.lookup y = some c → x = y
  has : ∀ x, (X.env.kindOf x = some .cell ∨ X.env.kindOf x = some .free) → ∃ c, X.env.cells.lookup x = some c
  cab : ∀ x c, X.fn x = true → X.env.cells.lookup x = some c → X.s₀.heap.objs.size ≤ c
  hd : X.calm = true → X.A.handled = none
  frames : X.A.frames = some X.stack
  stk : X.stack = X.outer ∨ (X.stack = X.env :: X.outer ∧ X.env.frame = some X.env.locals)
  exf : ∀ b ∈ X.ex, b ≠ X.env.locals ∧ ∀ x c, X.env.cells.lookup x = some c → c ≠ b
  bs : ∀ b o, X.base.get? b = some o → X.s₀.heap.get? b = some o ∧ X.H₀ b = none
  bsz : X.base.objs.size ≤ X.s₀.heap.objs.size
  noex : ∀ b o, X.base.get? b = some o → b ∉ X.ex
  exfs : ∀ b ∈ X.ex, b ∉ X.fs
  funs : X.s₀.heap.FunFrames X.base X.outer
  frf : ∀ b ∈ X.fs, X.H₀ b = none

structure Inv (X : Cx) (pins : List (Addr × Obj)) (σ : List (Option V)) (H : Hp) (s : Shared) : Prop where
  ok : X.Ok
  os : s.os = X.s₀.os
  bare : AllBare s.gens
  base : Un X.fs X.ex X.H₀ H X.s₀.heap s.heap
  loc : ∃ m, s.heap.Ns X.env.locals m ∧ ∀ (i : Nat) (x : Str) (v : V), X.N[i]? = some x → σ[i]? = some (some v) → Vis X.env.scope x → ∃ u, RelV v u ∧ Look X.env s.heap m x u
  cell : ∀ x c, X.env.cells.lookup x = some c → ∃ v, s.heap.IsCell c v
  free : H X.env.locals = none
  freeC : ∀ x c, X.env.cells.lookup x = some c → H c = none
  pin : ∀ p ∈ X.pn ++ pins, s.heap.get? p.1 = some p.2 ∧ H p.1 = none ∧ p.1 ≠ X.env.locals ∧ p.1 ∉ X.fs ∧ ∀ v, p.2.data ≠ .cell v
  hok : HOk X.prog X.w H s.heap
  len : σ.length = X.N.length

section
variable {X : Cx} {pins : List (Addr × Obj)} {σ : List (Option V)} {H H' : Hp} {s : Shared} {h' : Heap}

theorem Cx.Ok.nofr (ok : X.Ok) {b : Addr} {o : Obj} (e : X.base.get? b = some o) : b ∉ X.fs := fun hb => by
  have := (ok.funs.mem hb).1
  rw [e] at this; cases this
theorem Inv.bs (I : Inv X pins σ H s) : ∀ b o, X.base.get? b = some o → s.heap.get? b = some o ∧ H b = none := fun b o e =>
  ⟨I.base.keep b o (I.ok.bs b o e).1 (I.ok.bs b o e).2 (I.ok.nofr e) (I.ok.noex b o e), I.base.free b o (I.ok.bs b o e).1 (I.ok.bs b o e).2 (I.ok.noex b o e)⟩
theorem Inv.bk (I : Inv X pins σ H s) : ∀ b o, X.base.get? b = some o → s.heap.get? b = some o := fun b o e => (I.bs b o e).1
theorem Inv.mod (I : Inv X pins σ H s) : Mod X.K X.mg X.base := I.ok.mod
theorem Inv.kIn (I : Inv X pins σ H s) : X.K.In s.heap := I.ok.mod.kin.keeps I.bk
theorem Inv.nolimit (I : Inv X pins σ H s) : s.heap.NoLimit := I.ok.mod.nolimit.keeps I.bk
/-- the frame over the base: for OpenK's rules (K.In X.base is I.mod.kin) -/
theorem Inv.fr (I : Inv X pins σ H s) : ∃ m, Fr X.base X.env.locals s.heap m :=
  let ⟨m, hn, _⟩ := I.loc
  ⟨m, hn, I.bk, Nat.le_trans I.ok.bsz I.ok.above⟩
theorem Inv.lt (I : Inv X pins σ H s) : X.env.locals < s.heap.objs.size := let ⟨_, hn, _⟩ := I.loc; hn.lt
theorem Inv.sz (I : Inv X pins σ H s) : X.s₀.heap.objs.size ≤ s.heap.objs.size := Nat.le_trans I.ok.above (Nat.le_of_lt I.lt)
theorem Inv.nofs (I : Inv X pins σ H s) {a : Addr} (h : s.heap.objs.size ≤ a) : a ∉ X.fs := fun hb => by
  obtain ⟨_, o, ho, _⟩ := I.ok.funs.mem hb
  exact absurd (Nat.lt_of_lt_of_le (Heap.lt_size ho) (Nat.le_trans I.sz h)) (Nat.lt_irrefl _)
theorem Inv.cne (I : Inv X pins σ H s) : ∀ x c, X.env.cells.lookup x = some c → c ≠ X.env.locals := fun x c e z => by
  obtain ⟨v, o, ho, hd⟩ := I.cell x c e
  obtain ⟨m, ⟨o', es, ep, ho', hd', _⟩, _⟩ := I.loc
  rw [z, ho'] at ho; cases ho; rw [hd'] at hd; cases hd
theorem Inv.funs (I : Inv X pins σ H s) : s.heap.FunFrames X.base X.outer := by
  have all : ∀ (l : List Env), (∀ b ∈ frs l, b ∈ X.fs) → X.s₀.heap.FunFrames X.base l → s.heap.FunFrames X.base l := by
    intro l
    induction l with
    | nil => intro _ _; trivial
    | cons env r ih =>
      intro hs hl
      obtain ⟨hk, ⟨L, o, hf, hn, ho, hd⟩, hr⟩ := hl
      have hL : L ∈ X.fs := hs L (by unfold frs; rw [List.filterMap_cons, hf]; exact List.mem_cons_self)
      obtain ⟨sl, e⟩ := I.base.slot L o ho (I.ok.frf L hL) hL fun z => I.ok.exfs L z hL
      exact ⟨hk, ⟨L, _, hf, hn, e, hd⟩, ih (fun b hb => hs b (by unfold frs; rw [List.filterMap_cons, hf]; exact List.mem_cons_of_mem _ hb)) hr⟩
  exact all X.outer (fun _ hb => hb) I.ok.funs

/-- the frames that run, for a call -/
theorem Inv.stack (I : Inv X pins σ H s) : s.heap.FunFrames X.base X.stack := by
  rcases I.ok.stk with e | ⟨e, hf⟩
  · rw [e]; exact I.funs
  · rw [e]
    obtain ⟨m, hn, _⟩ := I.loc
    refine .cons (by rw [I.ok.kind]; decide) hf hn ?_ I.funs
    exact Heap.get?_none_of_le (Nat.le_trans I.ok.bsz I.ok.above)
theorem Inv.stkSub (I : Inv X pins σ H s) : ∀ b ∈ frs X.stack, b ∈ X.env.locals :: X.fs := fun b hb => by
  rcases I.ok.stk with e | ⟨e, hf⟩
  · rw [e] at hb; exact List.mem_cons_of_mem _ hb
  · rw [e] at hb
    unfold frs at hb
    rw [List.filterMap_cons, hf] at hb
    exact hb
theorem Inv.stkFree (I : Inv X pins σ H s) : ∀ b ∈ frs X.stack, H b = none := fun b hb => by
  rcases List.mem_cons.mp (I.stkSub b hb) with e | hb
  · rw [e]; exact I.free
  · obtain ⟨_, o, ho, _⟩ := I.ok.funs.mem hb
    exact I.base.free b o ho (I.ok.frf b hb) fun z => I.ok.exfs b z hb

/-- THE STEP: the untracked objects but the frame and the records at ch are kept (the callers' frames up to slots), the frame's map is kept, the new abstract heap is held -/
theorem Inv.step {g' : Array GenState} {t' : Nat} {d' : Drawn} {ch : List Addr} (I : Inv X pins σ H s)
    (hch : ∀ b ∈ ch, (b ∈ X.ex ∨ X.s₀.heap.objs.size ≤ b) ∧ b ≠ X.env.locals ∧ (∀ x c, X.env.cells.lookup x = some c → c ≠ b) ∧ ∀ p ∈ X.pn ++ pins, p.1 ≠ b)
    (keep : ∀ b o, b ≠ X.env.locals → b ∉ X.fs → b ∉ ch → s.heap.get? b = some o → H b = none → h'.get? b = some o)
    (slot : ∀ b o, b ≠ X.env.locals → b ∈ X.fs → b ∉ ch → s.heap.get? b = some o → H b = none → ∃ sl, h'.get? b = some { o with slots := sl }) (free : ∀ b o, b ∉ ch → s.heap.get? b = some o → H b = none → H' b = none)
    (there : ∀ b o, b ∉ ch → s.heap.get? b = some o → ∃ o', h'.get? b = some o')
    (tups : ∀ b xs, H b = some (.tup xs) → H' b = some (.tup xs)) (frzs : ∀ b o u, H b = some (.frz o u) → H' b = some (.frz o u)) (tbls : ∀ b ps, H b = some (.tbl ps) → ∃ more, H' b = some (.tbl (ps ++ more)))
    (ns : ∀ m, s.heap.Ns X.env.locals m → h'.Ns X.env.locals m) (hok : HOk X.prog X.w H' h') (hg : AllBare g') :
    Inv X pins σ H' { s with heap := h', gens := g', drawn := d', toks := t' } := by
  have neL : ∀ b o, X.s₀.heap.get? b = some o → b ≠ X.env.locals := fun b o e => Nat.ne_of_lt (Nat.lt_of_lt_of_le (Heap.lt_size e) I.ok.above)
  have neC : ∀ b o, X.s₀.heap.get? b = some o → b ∉ X.ex → b ∉ ch := fun b o e hx hb => by
    rcases (hch b hb).1 with z | z
    · exact hx z
    · exact absurd (Nat.lt_of_lt_of_le (Heap.lt_size e) z) (Nat.lt_irrefl _)
  have cellK : ∀ x c, X.env.cells.lookup x = some c → ∀ v, s.heap.IsCell c v → h'.IsCell c v := fun x c e v ⟨o, ho, hd⟩ => by
    have nch : c ∉ ch := fun z => (hch c z).2.2.1 x c e rfl
    by_cases hc : c ∈ X.fs
    · obtain ⟨sl, q⟩ := slot c o (I.cne x c e) hc nch ho (I.freeC x c e)
      exact ⟨_, q, hd⟩
    · exact ⟨o, keep c o (I.cne x c e) hc nch ho (I.freeC x c e), hd⟩
  refine ⟨I.ok, I.os, hg, ⟨fun b o e n hb hx => ?_, fun b o e n hb hx => ?_, fun b o e n hx => ?_, fun b o e hx => ?_, fun b xs e => tups b xs (I.base.tups b xs e), fun b o xs e => frzs b o xs (I.base.frzs b o xs e), fun b ps e => ?_⟩, ?_, fun x c e => ?_, ?_, fun x c e => ?_, fun p hp => ?_, hok, I.len⟩
  · exact keep b o (neL b o e) hb (neC b o e hx) (I.base.keep b o e n hb hx) (I.base.free b o e n hx)
  · obtain ⟨sl, e1⟩ := I.base.slot b o e n hb hx
    obtain ⟨sl', e2⟩ := slot b _ (neL b o e) hb (neC b o e hx) e1 (I.base.free b o e n hx)
    exact ⟨sl', e2⟩
  · obtain ⟨o', e1⟩ := I.base.there b o e hx
    exact free b o' (neC b o e hx) e1 (I.base.free b o e n hx)
  · obtain ⟨o', e1⟩ := I.base.there b o e hx
    exact there b o' (neC b o e hx) e1
  · obtain ⟨m1, e1⟩ := I.base.tbls b ps e
    obtain ⟨m2, e2⟩ := tbls b _ e1
    exact ⟨m1 ++ m2, by rw [e2, Array.append_assoc]⟩
  · obtain ⟨m, hn, hl⟩ := I.loc
    refine ⟨m, ns m hn, fun i x v e1 e2 e3 => ?_⟩
    obtain ⟨u, r, l⟩ := hl i x v e1 e2 e3
    refine ⟨u, r, ?_⟩
    rcases l with l | ⟨k, c, e, z⟩
    · exact .inl l
    · exact .inr ⟨k, c, e, cellK x c e _ z⟩
  · obtain ⟨v, z⟩ := I.cell x c e
    exact ⟨v, cellK x c e v z⟩
  · obtain ⟨m, ⟨o, _, _, ho, _⟩, _⟩ := I.loc
    exact free _ o (fun z => (hch _ z).2.1 rfl) ho I.free
  · obtain ⟨v, o, ho, hd⟩ := I.cell x c e
    exact free c o (fun z => (hch c z).2.2.1 x c e rfl) ho (I.freeC x c e)
  · obtain ⟨e, n, ne, nf, d⟩ := I.pin p hp
    have nch : p.1 ∉ ch := fun z => (hch p.1 z).2.2.2 p hp rfl
    exact ⟨keep p.1 p.2 ne nf nch e n, free p.1 p.2 nch e n, ne, nf, d⟩
/-- .. where the frame's own object is kept too -/
theorem Inv.un {t' : Nat} (I : Inv X pins σ H s) (u : Un X.fs [] H H' s.heap h') (hok : HOk X.prog X.w H' h') : Inv X pins σ H' { s with heap := h', toks := t' } := by
  obtain ⟨m, ⟨o, es, ep, ho, r⟩, _⟩ := id I.loc
  obtain ⟨sl, hL⟩ := u.any ho I.free (by simp)
  exact I.step (g' := s.gens) (d' := s.drawn) (ch := []) (fun _ z => nomatch z) (fun b o _ hb _ e n => u.keep b o e n hb (by simp)) (fun b o _ hb _ e n => u.slot b o e n hb (by simp)) (fun b o _ e n => u.free b o e n (by simp)) (fun b o _ e => u.there b o e (by simp)) u.tups u.frzs u.tbls (fun m' hm => by
    obtain ⟨o', es', ep', ho', r'⟩ := hm
    rw [ho] at ho'; cases ho'
    exact ⟨_, es', ep', hL, r'⟩) hok I.bare
/-- behind a call (or a comprehension's block): the slots of this frame may have changed too, the records at ch may have turned -/
theorem Inv.call {g' : Array GenState} {t' : Nat} {d' : Drawn} {ch : List Addr} (I : Inv X pins σ H s) (u : Un (frs X.stack) ch H H' s.heap h') (hok : HOk X.prog X.w H' h') (hg : AllBare g')
    (hch : ∀ b ∈ ch, (b ∈ X.ex ∨ X.s₀.heap.objs.size ≤ b) ∧ b ≠ X.env.locals ∧ (∀ x c, X.env.cells.lookup x = some c → c ≠ b) ∧ ∀ p ∈ X.pn ++ pins, p.1 ≠ b) :
    Inv X pins σ H' { s with heap := h', gens := g', drawn := d', toks := t' } := by
  obtain ⟨m, ⟨o, es, ep, ho, r⟩, _⟩ := id I.loc
  obtain ⟨sl, hL⟩ := u.any ho I.free fun z => (hch _ z).2.1 rfl
  exact I.step (ch := ch) hch (fun b o hL hb hc e n => u.keep b o e n (fun z => (List.mem_cons.mp (I.stkSub b z)).elim hL hb) hc) (fun b o _ _ hc e n => u.any e n hc) (fun b o hc e n => u.free b o e n hc) (fun b o hc e => u.there b o e hc) u.tups u.frzs u.tbls (fun m' hm => by
    obtain ⟨o', es', ep', ho', r'⟩ := hm
    rw [ho] at ho'; cases ho'
    exact ⟨_, es', ep', hL, r'⟩) hok hg
/-- an untracked record of ours (an iterator) has turned -/
theorem Inv.turned {t' : Nat} {it : Addr} (I : Inv X pins σ H s) (k : ∀ b o, b ≠ it → s.heap.get? b = some o → h'.get? b = some o) (hn : H it = none) (hL : it ≠ X.env.locals)
    (h1 : it ∈ X.ex ∨ X.s₀.heap.objs.size ≤ it) (h2 : ∀ x c, X.env.cells.lookup x = some c → c ≠ it) (h3 : ∀ p ∈ X.pn ++ pins, p.1 ≠ it) : Inv X pins σ H { s with heap := h', toks := t' } := by
  have nit : ∀ b u, H b = some u → b ≠ it := fun b u e z => by rw [z, hn] at e; cases e
  refine I.step (g' := s.gens) (d' := s.drawn) (ch := [it]) (fun b hb => ?_) (fun b o _ _ hc e _ => k b o (fun z => hc (by simp [z])) e) (fun b o _ _ hc e _ => ⟨o.slots, k b o (fun z => hc (by simp [z])) e⟩) (fun _ _ _ _ n => n)
    (fun b o hc e => ⟨o, k b o (fun z => hc (by simp [z])) e⟩) (fun _ _ e => e) (fun _ _ _ e => e) (fun b ps e => ⟨#[], by rw [e]; simp⟩) (fun m hm => ?_) (fun b u e => ?_) I.bare
  · have e : b = it := by simpa using hb
    subst e
    exact ⟨h1, hL, h2, h3⟩
  · obtain ⟨o, es, ep, ho, r⟩ := hm
    exact ⟨o, es, ep, k _ o (Ne.symm hL) ho, r⟩
  · refine (I.hok b u e).stay (fun c v hc q => k c v ?_ q) (fun _ q => q) fun _ _ q => q
    rcases hc with z | z
    · rw [z]; exact nit b u e
    · exact nit c _ z
theorem Inv.tok (I : Inv X pins σ H s) (t : Nat) : Inv X pins σ H { s with toks := t } := I.un (h' := s.heap) (t' := t) Un.refl I.hok
/-- all objects kept -/
theorem Inv.kept {t' : Nat} (I : Inv X pins σ H s) (k : ∀ b u, s.heap.get? b = some u → h'.get? b = some u) : Inv X pins σ H { s with heap := h', toks := t' } := I.un (Un.kept k) (I.hok.kept k)
/-- a new object laid and tracked -/
theorem Inv.laid {a : Addr} {o : HO} {t' : Nat} (I : Inv X pins σ H s) (k : ∀ b u, s.heap.get? b = some u → h'.get? b = some u) (hp : s.heap.objs.size ≤ a) (new : ObjOk X.prog X.w (upd H a o) h' a o) :
    Inv X pins σ (upd H a o) { s with heap := h', toks := t' } := I.un (Un.laid k hp (I.hok.fresh hp)) (I.hok.laid k hp new)
/-- an object written -/
theorem Inv.write {x e : Addr} {o : HO} {t' : Nat} (I : Inv X pins σ H s) (mu : Mut (H x)) (he : e = x ∨ H e = some (.own x)) (k : ∀ b u, b ≠ e → s.heap.get? b = some u → h'.get? b = some u) (heo : ∃ u, h'.get? e = some u)
    (new : ObjOk X.prog X.w (upd H x o) h' x o) : Inv X pins σ (upd H x o) { s with heap := h', toks := t' } := I.un (Un.write mu he k heo) (I.hok.write mu he k heo new)
/-- forgetting slots, pins -/
theorem Inv.weak {σ' : List (Option V)} (I : Inv X pins σ H s) (hl : σ'.length = σ.length) (w : ∀ (i : Nat) v, σ'[i]? = some (some v) → σ[i]? = some (some v)) : Inv X pins σ' H s :=
  ⟨I.ok, I.os, I.bare, I.base, let ⟨m, hn, hl'⟩ := I.loc; ⟨m, hn, fun i x v e1 e2 e3 => hl' i x v e1 (w i v e2) e3⟩, I.cell, I.free, I.freeC, I.pin, I.hok, hl.trans I.len⟩
theorem Inv.pins_of {pins' : List (Addr × Obj)} (I : Inv X pins σ H s) (h : ∀ p ∈ pins', s.heap.get? p.1 = some p.2 ∧ H p.1 = none ∧ p.1 ≠ X.env.locals ∧ p.1 ∉ X.fs ∧ ∀ v, p.2.data ≠ .cell v) : Inv X pins' σ H s :=
  ⟨I.ok, I.os, I.bare, I.base, I.loc, I.cell, I.free, I.freeC, fun p hp => (List.mem_append.mp hp).elim (fun z => I.pin p (List.mem_append_left _ z)) (h p), I.hok, I.len⟩

theorem nodup_ix {N : List Str} (hN : N.Nodup) {i j : Nat} {x : Str} (a : N[i]? = some x) (b : N[j]? = some x) : i = j := by
  obtain ⟨h1, e1⟩ := List.getElem?_eq_some_iff.mp a
  obtain ⟨h2, e2⟩ := List.getElem?_eq_some_iff.mp b
  exact (List.getElem_inj hN).mp (e1.trans e2.symm)

/-- a name is stored; what changed -/
theorem store_ok2 {M : Model} {A : Around} {E : Value → Shared → Prop} {i : Nat} {x : Str} {v : V} {u : Value} {Q : Unit → Shared → Prop} (I : Inv X pins σ H s) (hN : X.N.Nodup) (hi : X.N[i]? = some x) (hx : Loc X.env.scope x) (r : RelV v u)
    (h : ∀ s', Inv X pins (σ.set i (some v)) H s' → (∃ a, Heap.SameBut a s.heap s'.heap ∧ (a = X.env.locals ∨ X.env.cells.lookup x = some a)) → Q () s') (hf : X.fn x = true ∨ X.env.scope.names.lookup x = some .local := by first | exact .inl rfl | exact .inr rfl | assumption) : wpAny M A (storeName X.env x u) Q E s := by
  obtain ⟨m, hn, hl⟩ := id I.loc
  have hcls : (X.env.scope.kind == .class || (X.env.scope.kind == .module && X.env.locals != X.env.globals)) = false := by rw [I.ok.kind]; rfl
  have hiσ : i < σ.length := by rw [I.len]; exact (List.getElem?_eq_some_iff.mp hi).1
  have cne := I.cne
  have tracked : ∀ {a : Addr} {h' : Heap}, (∃ o, s.heap.get? a = some o ∧ H a = none) → Heap.SameBut a s.heap h' → HOk X.prog X.w H h' := fun {a h'} ha hs b ob e => by
    obtain ⟨_, _, hfree⟩ := ha
    refine (I.hok b ob e).stay (fun c w' hc q => (hs.2 c ?_).trans q) (fun _ q => q) fun _ _ q => q
    rintro rfl
    rcases hc with rfl | hc
    · rw [hfree] at e; cases e
    · rw [hfree] at hc; cases hc
  rcases hx with hk | hk
  · refine wpAny_storeName_local hk hn (fun h' hn' hs => ?_) hcls
    obtain ⟨oL, _, _, hoL, _⟩ := id hn
    refine h _ ⟨I.ok, I.os, I.bare, ⟨fun b o e n hb hx => ?_, fun b o e n hb hx => ?_, I.base.free, fun b o e hx => ?_, I.base.tups, I.base.frzs, I.base.tbls⟩, ⟨_, hn', fun j y v' e1 e2 e3 => ?_⟩, fun y c e => ?_, I.free, I.freeC, fun p hp => ?_, tracked ⟨oL, hoL, I.free⟩ hs, by simpa using I.len⟩ ⟨_, hs, .inl rfl⟩
    · exact (hs.2 b (Nat.ne_of_lt (Nat.lt_of_lt_of_le (Heap.lt_size e) I.ok.above))).trans (I.base.keep b o e n hb hx)
    · obtain ⟨sl, e1⟩ := I.base.slot b o e n hb hx
      exact ⟨sl, (hs.2 b (Nat.ne_of_lt (Nat.lt_of_lt_of_le (Heap.lt_size e) I.ok.above))).trans e1⟩
    · obtain ⟨o', e1⟩ := I.base.there b o e hx
      exact ⟨o', (hs.2 b (Nat.ne_of_lt (Nat.lt_of_lt_of_le (Heap.lt_size e) I.ok.above))).trans e1⟩
    · by_cases hj : j = i
      · subst hj
        rw [hi] at e1; cases e1
        rw [List.getElem?_set_self hiσ] at e2
        cases e2
        exact ⟨u, r, .inl ⟨hk, by simp⟩⟩
      · rw [List.getElem?_set_ne (Ne.symm hj)] at e2
        obtain ⟨u', r', q⟩ := hl j y v' e1 e2 e3
        refine ⟨u', r', ?_⟩
        rcases q with ⟨k, e⟩ | ⟨k, c, e, z⟩
        · refine .inl ⟨k, ?_⟩
          have : y ≠ x := fun e => hj (nodup_ix hN e1 (e ▸ hi))
          simp [this, e]
        · exact .inr ⟨k, c, e, z.sameBut hs (cne y c e)⟩
    · obtain ⟨w', z⟩ := I.cell y c e
      exact ⟨w', z.sameBut hs (cne y c e)⟩
    · obtain ⟨e, n, ne, nf, d⟩ := I.pin p hp
      exact ⟨(hs.2 p.1 ne).trans e, n, ne, nf, d⟩
  · have hfn : X.fn x = true := by
      rcases hf with z | z
      · exact z
      · rw [z] at hk; cases hk
    obtain ⟨c, hc⟩ := I.ok.has x (.inl hk)
    obtain ⟨w', z⟩ := I.cell x c hc
    refine wpAny_storeName_cell I.ok.kind hk hc z (fun h' hc' hs => ?_)
    obtain ⟨oc, hoc, hocd⟩ := id z
    refine h { s with heap := h' } ⟨I.ok, I.os, I.bare, ⟨fun b o e n hb hx => ?_, fun b o e n hb hx => ?_, I.base.free, fun b o e hx => ?_, I.base.tups, I.base.frzs, I.base.tbls⟩, ⟨m, hn.sameBut hs (Ne.symm (cne x c hc)), fun j y v' e1 e2 e3 => ?_⟩, fun y c' e => ?_, I.free, I.freeC, fun p hp => ?_, tracked ⟨oc, hoc, I.freeC x c hc⟩ hs, by simpa using I.len⟩ ⟨c, hs, .inr hc⟩
    · exact (hs.2 b (Nat.ne_of_lt (Nat.lt_of_lt_of_le (Heap.lt_size e) (I.ok.cab x c hfn hc)))).trans (I.base.keep b o e n hb hx)
    · obtain ⟨sl, e1⟩ := I.base.slot b o e n hb hx
      exact ⟨sl, (hs.2 b (Nat.ne_of_lt (Nat.lt_of_lt_of_le (Heap.lt_size e) (I.ok.cab x c hfn hc)))).trans e1⟩
    · obtain ⟨o', e1⟩ := I.base.there b o e hx
      exact ⟨o', (hs.2 b (Nat.ne_of_lt (Nat.lt_of_lt_of_le (Heap.lt_size e) (I.ok.cab x c hfn hc)))).trans e1⟩
    · by_cases hj : j = i
      · subst hj
        rw [hi] at e1; cases e1
        rw [List.getElem?_set_self hiσ] at e2
        cases e2
        exact ⟨u, r, .inr ⟨.inl hk, c, hc, hc'⟩⟩
      · rw [List.getElem?_set_ne (Ne.symm hj)] at e2
        obtain ⟨u', r', q⟩ := hl j y v' e1 e2 e3
        refine ⟨u', r', ?_⟩
        rcases q with q | ⟨k, c', e, z'⟩
        · exact .inl q
        · refine .inr ⟨k, c', e, z'.sameBut hs ?_⟩
          rintro rfl
          exact hj (nodup_ix hN e1 (I.ok.inj _ _ _ e hc ▸ hi))
    · by_cases hcc : c' = c
      · subst hcc; exact ⟨_, hc'⟩
      · obtain ⟨w2, z2⟩ := I.cell y c' e
        exact ⟨w2, z2.sameBut hs hcc⟩
    · obtain ⟨e, n, ne, nf, d⟩ := I.pin p hp
      refine ⟨(hs.2 p.1 ?_).trans e, n, ne, nf, d⟩
      intro q
      rw [q, hoc] at e
      have q' : oc = p.2 := Option.some.inj e
      exact d w' (by rw [← q']; exact hocd)
theorem store_ok {M : Model} {A : Around} {E : Value → Shared → Prop} {i : Nat} {x : Str} {v : V} {u : Value} {Q : Unit → Shared → Prop} (I : Inv X pins σ H s) (hN : X.N.Nodup) (hi : X.N[i]? = some x) (hx : Loc X.env.scope x) (r : RelV v u)
    (h : ∀ s', Inv X pins (σ.set i (some v)) H s' → Q () s') (hf : X.fn x = true ∨ X.env.scope.names.lookup x = some .local := by first | exact .inl rfl | exact .inr rfl | assumption) : wpAny M A (storeName X.env x u) Q E s :=
  store_ok2 I hN hi hx r (fun s' I' _ => h s' I') hf
/-- behind a call or a block, the state as it is -/
theorem Inv.call' {s' : Shared} {ch : List Addr} (I : Inv X pins σ H s) (ho : s'.os = s.os) (u : Un (frs X.stack) ch H H' s.heap s'.heap) (hok : HOk X.prog X.w H' s'.heap) (hg : AllBare s'.gens)
    (hch : ∀ b ∈ ch, (b ∈ X.ex ∨ X.s₀.heap.objs.size ≤ b) ∧ b ≠ X.env.locals ∧ (∀ x c, X.env.cells.lookup x = some c → c ≠ b) ∧ ∀ p ∈ X.pn ++ pins, p.1 ≠ b) : Inv X pins σ H' s' := by
  obtain ⟨h', g', d', t', o'⟩ := s'
  have e : o' = s.os := ho
  subst e
  exact I.call (g' := g') (t' := t') (d' := d') u hok hg hch
end

/-! ### the judgements -/
/-- an exception: its class, its own dict's address (where it has one), the abstract heap behind it -/
abbrev XK := Value → Option Addr → Hp → Prop
abbrev St := List (Option V)
abbrev VK := V → Hp → Prop
/-- an expression's reading; a test's; an argument list's -/
abbrev TE := St → Hp → VK → Prop
abbrev TT := St → Hp → (Bool → Hp → Prop) → Prop
abbrev TA := St → Hp → (List V → Hp → Prop) → Prop
/-- what is wanted behind a statement -/
structure Ends where
  nx : St → Hp → Prop
  rt : VK
  bk : St → Hp → Prop := fun _ _ => False
  ct : St → Hp → Prop := fun _ _ => False
abbrev TS := Ends → St → Hp → Prop

def EP (X : Cx) (pins : List (Addr × Obj)) (σ : St) (Q : VK) (u : Value) (s' : Shared) : Prop := ∃ v H', Inv X pins σ H' s' ∧ RelV v u ∧ Q v H'
def TP (X : Cx) (pins : List (Addr × Obj)) (σ : St) (Q : Bool → Hp → Prop) (b : Bool) (s' : Shared) : Prop := ∃ H', Inv X pins σ H' s' ∧ Q b H'
def AP (X : Cx) (pins : List (Addr × Obj)) (σ : St) (Q : List V → Hp → Prop) (us : List Value) (s' : Shared) : Prop := ∃ vs H', Inv X pins σ H' s' ∧ Vals vs us ∧ Q vs H'
def SP (X : Cx) (pins : List (Addr × Obj)) (D : Ends) (f : Flow) (s' : Shared) : Prop :=
  match f with
  | .next => ∃ σ' H', Inv X pins σ' H' s' ∧ D.nx σ' H'
  | .brk => ∃ σ' H', Inv X pins σ' H' s' ∧ D.bk σ' H'
  | .cont => ∃ σ' H', Inv X pins σ' H' s' ∧ D.ct σ' H'
  | .ret u => ∃ v σ' H', Inv X pins σ' H' s' ∧ RelV v u ∧ D.rt v H'

def PE (X : Cx) (e : Expr) (t : TE) : Prop :=
  ∀ (pins : List (Addr × Obj)) (s : Shared) (σ : St) (H : Hp) (Q : VK), Inv X pins σ H s → t σ H Q → wpAny (model X.prog X.w) X.A (eval e X.env) (EP X pins σ Q) X.xe s
def PT (X : Cx) (e : Expr) (t : TT) : Prop :=
  ∀ (pins : List (Addr × Obj)) (s : Shared) (σ : St) (H : Hp) (Q : Bool → Hp → Prop), Inv X pins σ H s → t σ H Q → wpAny (model X.prog X.w) X.A (isTrue e X.env (eval e X.env)) (TP X pins σ Q) X.xe s
/-- a test whatever its 'whole' is (and, or) -/
def PW (X : Cx) (e : Expr) (t : TT) : Prop :=
  ∀ (whole : Sem Value) (pins : List (Addr × Obj)) (s : Shared) (σ : St) (H : Hp) (Q : Bool → Hp → Prop), Inv X pins σ H s → t σ H Q → wpAny (model X.prog X.w) X.A (isTrue e X.env whole) (TP X pins σ Q) X.xe s
theorem PW.pt {X : Cx} {e : Expr} {t : TT} (h : PW X e t) : PT X e t := h _
/-- an argument list (no star), from the left -/
def PA (X : Cx) (es : List Expr) (t : TA) : Prop :=
  ∀ (pos : Pos) (pins : List (Addr × Obj)) (s : Shared) (σ : St) (H : Hp) (Q : List V → Hp → Prop), Inv X pins σ H s → t σ H Q → wpAny (model X.prog X.w) X.A (spliced (backTo pos (starEach es X.env))) (AP X pins σ Q) X.xe s
def PS (X : Cx) (st : Stmt) (t : TS) : Prop :=
  ∀ (pins : List (Addr × Obj)) (s : Shared) (σ : St) (H : Hp) (D : Ends), Inv X pins σ H s → t D σ H → wpAny (model X.prog X.w) X.A (exec st X.env) (SP X pins D) X.xe s
def PSs (X : Cx) (st : List Stmt) (t : TS) : Prop :=
  ∀ (pins : List (Addr × Obj)) (s : Shared) (σ : St) (H : Hp) (D : Ends), Inv X pins σ H s → t D σ H → wpAny (model X.prog X.w) X.A (execs st X.env) (SP X pins D) X.xe s
/-- weaken the end -/
theorem thn {α : Type} {t : Sem α} {Q Q' : α → Shared → Prop} {M : Model} {A : Around} {E : Value → Shared → Prop} {s : Shared} (h : wpAny M A t Q E s) (hQ : ∀ a s, Q a s → Q' a s) : wpAny M A t Q' E s := wpAny_mono h hQ fun _ _ x => x
end L2

namespace L2
open PySem PySem.Spec PyProof.Rows
section
variable {X : Cx}

/-- two expressions in a row -/
theorem bin {a b : Expr} {ta tb : TE} (ha : PE X a ta) (hb : PE X b tb) {pins : List (Addr × Obj)} {s : Shared} {σ : St} {H : Hp} {R : V → V → Hp → Prop} (I : Inv X pins σ H s) (h : ta σ H fun x H1 => tb σ H1 fun y H2 => R x y H2)
    {α : Type} {Q : α → Shared → Prop} {f : Value → Value → Sem α}
    (hf : ∀ v u s2 x y H2, Inv X pins σ H2 s2 → RelV x v → RelV y u → R x y H2 → wpAny (model X.prog X.w) X.A (f v u) Q X.xe s2) :
    wpAny (model X.prog X.w) X.A (eval a X.env) (fun v s₁ => wpAny (model X.prog X.w) X.A (eval b X.env) (fun u s₂ => wpAny (model X.prog X.w) X.A (f v u) Q X.xe s₂) X.xe s₁) X.xe s := by
  refine thn (ha pins s σ H _ I h) fun v s1 ⟨x, H1, I1, r1, q1⟩ => ?_
  refine thn (hb pins s1 σ H1 _ I1 q1) fun u s2 ⟨y, H2, I2, r2, q2⟩ => ?_
  exact hf v u s2 x y H2 I2 r1 r2 q2

/-! ### names and constants -/
def tVar (i : Nat) : TE := fun σ H Q => ∃ v, σ[i]? = some (some v) ∧ Q v H
def tC (v : V) : TE := fun _ H Q => Q v H
theorem pe_var {i : Nat} {x : Str} {pos : Pos} (hN : X.N[i]? = some x) (hv : Vis X.env.scope x) (hd : (x == ("__debug__" : Str)) = false := by decide) (hcd : (x == ("__classdict__" : Str)) = false := by decide) : PE X (.Name x pos) (tVar i) := by
  intro pins s σ H Q I h
  obtain ⟨v, e, h⟩ := h
  obtain ⟨m, hn, hl⟩ := I.loc
  obtain ⟨u, r, l⟩ := hl i x v hN e hv
  have fin : EP X pins σ Q u s := ⟨v, H, I, r, h⟩
  rcases l with ⟨hk, hm⟩ | ⟨hk, c, hc, hcell⟩
  · exact wpAny_Name (wpAny_loadName_local I.ok.kind hk hn hm fin) hd
  · rcases hk with hk | hk
    · exact wpAny_Name (wpAny_loadName_cell I.ok.kind hk hc hcell fin) hd
    · exact wpAny_Name (wpAny_loadName_free I.ok.kind hk hc hcell fin hcd) hd
theorem pe_int {i j pos} : PE X (.Constant (.int i) j pos) (tC (.int i)) := fun _ _ _ H _ I h => wpAny_Constant_int ⟨.int i, H, I.tok _, ⟨_, rfl⟩, h⟩
theorem pe_bl {b j pos} : PE X (.Constant (.bool b) j pos) (tC (.bl b)) := fun _ _ _ H _ I h => Constant_bool ⟨.bl b, H, I, rfl, h⟩
theorem pe_non {j pos} : PE X (.Constant .none j pos) (tC .non) := fun _ _ _ H _ I h => Constant_none ⟨.non, H, I, rfl, h⟩
theorem pe_str {x j pos} : PE X (.Constant (.str x) j pos) (tC (.str x)) := fun _ _ _ H _ I h => Calls.Constant_str ⟨.str x, H, I.tok _, ⟨_, rfl⟩, h⟩

/-- a global name of the def -/
def Gl (X : Cx) (x : Str) : Prop := X.env.kindOf x = some .globalImplicit
theorem ld_glob {E : Value → Shared → Prop} {pins : List (Addr × Obj)} {s : Shared} {σ : St} {H : Hp} {x : Str} {u : Value} {pos : Pos} {Q : Value → Shared → Prop} (I : Inv X pins σ H s) (hg : Gl X x) (hm : X.mg x = some u) (h : Q u s)
    (hd : (x == ("__debug__" : Str)) = false := by decide) : wpAny (model X.prog X.w) X.A (eval (.Name x pos) X.env) Q E s :=
  Calls.Name_function_global I.ok.kind hg (Calls.loadGlobal_global (by rw [I.ok.glob]; exact I.mod.glob.keeps I.bk) hm h) hd
theorem ld_blt {E : Value → Shared → Prop} {pins : List (Addr × Obj)} {s : Shared} {σ : St} {H : Hp} {x : Str} {u : Value} {pos : Pos} {Q : Value → Shared → Prop} (I : Inv X pins σ H s) (hg : Gl X x) (hm : X.mg x = none) (hv : bootBuiltins x = some u) (h : Q u s)
    (hn : x ≠ "__name__" := by decide) (hd : (x == ("__debug__" : Str)) = false := by decide) : wpAny (model X.prog X.w) X.A (eval (.Name x pos) X.env) Q E s := by
  obtain ⟨mb, h1, h2⟩ := I.mod.blt
  exact Calls.Name_function_global I.ok.kind hg (Calls.loadGlobal_builtin (by rw [I.ok.glob]; exact I.mod.glob.keeps I.bk) hm (by rw [I.ok.blt]; exact h1.keeps I.bk) ((h2 x hn).trans hv) h) hd
/-- a module's constant, a class, a function, as a value -/
theorem pe_glob {x : Str} {v : V} {u : Value} {pos : Pos} (hg : Gl X x) (hm : X.mg x = some u) (r : RelV v u) (hd : (x == ("__debug__" : Str)) = false := by decide) : PE X (.Name x pos) (tC v) :=
  fun _ _ _ H _ I h => ld_glob I hg hm ⟨v, H, I, r, h⟩ hd
theorem pe_bltn {x : Str} {v : V} {u : Value} {pos : Pos} (hg : Gl X x) (hm : X.mg x = none) (hv : bootBuiltins x = some u) (r : RelV v u) (hn : x ≠ "__name__" := by decide) (hd : (x == ("__debug__" : Str)) = false := by decide) : PE X (.Name x pos) (tC v) :=
  fun _ _ _ H _ I h => ld_blt I hg hm hv ⟨v, H, I, r, h⟩ hn hd

/-! ### arithmetic -/
/-- two ints -/
def t2I (ta tb : TE) (k : Int → Int → Hp → Prop) : St → Hp → Prop := fun σ H => ta σ H fun x H1 => tb σ H1 fun y H2 => ∃ i j, x = .int i ∧ y = .int j ∧ k i j H2
def tAdd (ta tb : TE) : TE := fun σ H Q => t2I ta tb (fun i j H2 => Q (.int (i + j)) H2) σ H
def tSub (ta tb : TE) : TE := fun σ H Q => t2I ta tb (fun i j H2 => Q (.int (i - j)) H2) σ H
/-- the left factor below 2^64 -/
def tMul (ta tb : TE) : TE := fun σ H Q => t2I ta tb (fun i j H2 => (-(2 ^ 64) < i ∧ i < 2 ^ 64) ∧ Q (.int (i * j)) H2) σ H
variable {a b : Expr} {ta tb : TE} {pos : Pos}
theorem pe_add (ha : PE X a ta) (hb : PE X b tb) : PE X (.BinOp a .Add b pos) (tAdd ta tb) := by
  intro pins s σ H Q I h
  refine wpAny_BinOp (bin ha hb I h fun v u s2 x y H2 I2 rx ry q => ?_)
  obtain ⟨i, j, rfl, rfl, q⟩ := q
  obtain ⟨t, rfl⟩ := rx
  obtain ⟨t', rfl⟩ := ry
  exact add_int ⟨.int _, H2, I2.tok _, ⟨_, rfl⟩, q⟩
theorem pe_sub (ha : PE X a ta) (hb : PE X b tb) : PE X (.BinOp a .Sub b pos) (tSub ta tb) := by
  intro pins s σ H Q I h
  refine wpAny_BinOp (bin ha hb I h fun v u s2 x y H2 I2 rx ry q => ?_)
  obtain ⟨i, j, rfl, rfl, q⟩ := q
  obtain ⟨t, rfl⟩ := rx
  obtain ⟨t', rfl⟩ := ry
  exact sub_int ⟨.int _, H2, I2.tok _, ⟨_, rfl⟩, q⟩
theorem pe_mul (ha : PE X a ta) (hb : PE X b tb) : PE X (.BinOp a .Mult b pos) (tMul ta tb) := by
  intro pins s σ H Q I h
  refine wpAny_BinOp (bin ha hb I h fun v u s2 x y H2 I2 rx ry q => ?_)
  obtain ⟨i, j, rfl, rfl, ⟨q1, q2⟩, q⟩ := q
  obtain ⟨t, rfl⟩ := rx
  obtain ⟨t', rfl⟩ := ry
  exact mul_int ⟨.int _, H2, I2.tok _, ⟨_, rfl⟩, q⟩ (.of_left (intBits_le_64 q1 q2))

/-! ### comparisons -/
def PC (X : Cx) (op : CmpOp) (a b : Expr) (t : TE) : Prop :=
  ∀ (pins : List (Addr × Obj)) (s : Shared) (σ : St) (H : Hp) (Q : VK), Inv X pins σ H s → t σ H Q →
    wpAny (model X.prog X.w) X.A (eval a X.env) (fun v s₁ => wpAny (model X.prog X.w) X.A (eval b X.env) (fun u s₂ => wpAny (model X.prog X.w) X.A (compareOp op v u) (EP X pins σ Q) X.xe s₂) X.xe s₁) X.xe s
theorem nobehind (b : Expr) {op : CmpOp} (h : op ≠ .In) (h2 : op ≠ .NotIn) : behindInMarks op b = false := by
  have e1 : (op == CmpOp.In) = false := by cases op <;> first | rfl | exact absurd rfl h
  have e2 : (op == CmpOp.NotIn) = false := by cases op <;> first | rfl | exact absurd rfl h2
  cases b <;> simp [behindInMarks, e1, e2]
def tCmp (p : Int → Int → Bool) (ta tb : TE) : TE := fun σ H Q => t2I ta tb (fun i j H2 => Q (.bl (p i j)) H2) σ H
abbrev tLt : TE → TE → TE := tCmp fun i j => decide (i < j)
abbrev tLe : TE → TE → TE := tCmp fun i j => decide (i ≤ j)
abbrev tGt : TE → TE → TE := tCmp fun i j => decide (j < i)
abbrev tGe : TE → TE → TE := tCmp fun i j => decide (j ≤ i)
abbrev tEqI : TE → TE → TE := tCmp fun i j => decide (i = j)
abbrev tNeI : TE → TE → TE := tCmp fun i j => !decide (i = j)
/-- a comparison of two ints, by its rule -/
theorem pc_int {op : CmpOp} {p : Int → Int → Bool} (ha : PE X a ta) (hb : PE X b tb)
    (rule : ∀ (i j : Int) (t u : Tok) (Q : Value → Shared → Prop) (s : Shared), Q (.bool (p i j)) s → wpAny (model X.prog X.w) X.A (compareOp op (.int i t) (.int j u)) Q X.xe s) : PC X op a b (tCmp p ta tb) := by
  intro pins s σ H Q I h
  refine bin ha hb I h fun v u s2 x y H2 I2 rx ry q => ?_
  obtain ⟨i, j, rfl, rfl, q⟩ := q
  obtain ⟨t, rfl⟩ := rx
  obtain ⟨t', rfl⟩ := ry
  exact rule i j t t' _ s2 ⟨.bl _, H2, I2, rfl, q⟩
theorem pc_lt (ha : PE X a ta) (hb : PE X b tb) : PC X .Lt a b (tLt ta tb) := pc_int ha hb fun _ _ _ _ _ _ h => lt_int h
theorem pc_le (ha : PE X a ta) (hb : PE X b tb) : PC X .LtE a b (tLe ta tb) := pc_int ha hb fun _ _ _ _ _ _ h => le_int h
theorem pc_gt (ha : PE X a ta) (hb : PE X b tb) : PC X .Gt a b (tGt ta tb) := pc_int ha hb fun _ _ _ _ _ _ h => gt_int h
theorem pc_ge (ha : PE X a ta) (hb : PE X b tb) : PC X .GtE a b (tGe ta tb) := pc_int ha hb fun _ _ _ _ _ _ h => ge_int h
theorem pc_eqI (ha : PE X a ta) (hb : PE X b tb) : PC X .Eq a b (tEqI ta tb) := pc_int ha hb fun _ _ _ _ _ _ h => eq_int (by rw [Bool.beq_eq_decide_eq]; exact h)
theorem pc_neI (ha : PE X a ta) (hb : PE X b tb) : PC X .NotEq a b (tNeI ta tb) := pc_int ha hb fun _ _ _ _ _ _ h => ne_int (by rw [bne, Bool.beq_eq_decide_eq]; exact h)
/-- is None -/
def tIsN (ta : TE) : TE := fun σ H Q => ta σ H fun x H1 => Q (.bl (decide (x = .non))) H1
def tNotN (ta : TE) : TE := fun σ H Q => ta σ H fun x H1 => Q (.bl (!decide (x = .non))) H1
theorem RelV.none_iff {x : V} {v : Value} (r : RelV x v) : (v == Value.none) = decide (x = .non) := by
  cases x with
  | non => cases r; rfl
  | bl _ => cases r; rfl
  | int _ => obtain ⟨t, rfl⟩ := r; rfl
  | str _ => obtain ⟨t, rfl⟩ := r; rfl
  | byt _ => obtain ⟨t, rfl⟩ := r; rfl
  | flt _ => obtain ⟨t, rfl⟩ := r; rfl
  | ref _ => cases r; rfl
  | ty _ => cases r; rfl
theorem pc_isN {j pos'} (ha : PE X a ta) : PC X .Is a (.Constant .none j pos') (tIsN ta) := by
  intro pins s σ H Q I h
  refine thn (ha pins s σ H _ I h) fun v s1 ⟨x, H1, I1, r1, q1⟩ => ?_
  exact Constant_none (is_none_gen ⟨.bl _, H1, I1, by rw [r1.none_iff]; rfl, q1⟩)
theorem pc_notN {j pos'} (ha : PE X a ta) : PC X .IsNot a (.Constant .none j pos') (tNotN ta) := by
  intro pins s σ H Q I h
  refine thn (ha pins s σ H _ I h) fun v s1 ⟨x, H1, I1, r1, q1⟩ => ?_
  exact Constant_none (isnot_none_gen ⟨.bl _, H1, I1, by rw [r1.none_iff]; rfl, q1⟩)
/-- a comparison as a value, as a test -/
def tB (t : TE) : TT := fun σ H Q => t σ H fun x H1 => ∃ c, x = .bl c ∧ Q c H1
theorem pe_cmp {op : CmpOp} {t : TE} (h : PC X op a b t) (h1 : behindInMarks op b = false := by first | exact nobehind _ (by decide) (by decide) | rfl) : PE X (.Compare a [op] [b] pos) t := fun pins s σ H Q I hw => wpAny_Compare1 (h pins s σ H Q I hw) h1
theorem pt_cmp {op : CmpOp} {t : TE} (h : PC X op a b t) (h1 : behindInMarks op b = false := by first | exact nobehind _ (by decide) (by decide) | rfl) : PT X (.Compare a [op] [b] pos) (tB t) := by
  intro pins s σ H Q I hw
  refine wpAny_isTrue_Compare1 (thn (h pins s σ H _ I hw) fun v s1 h1 => thn h1 fun u s2 h2 => thn h2 fun c s3 ⟨x, H1, I1, r1, q1⟩ => ?_) h1
  obtain ⟨d, rfl, q⟩ := q1
  cases r1
  exact wpAny_truthy_bool ⟨H1, I1, q⟩
/-- an expression whose value is a bool, as a test -/
theorem pt_val {e : Expr} {t : TE} (h : PE X e t) (he : ∀ whole, isTrue e X.env whole = (do let v ← whole; standAt e.pos; holding [v] (truthy v)) := by intro _; rfl) : PT X e (tB t) := by
  intro pins s σ H Q I hw
  refine isTrue_plain (thn (h pins s σ H _ I hw) fun v s1 ⟨x, H1, I1, r1, q1⟩ => ?_) (he _)
  obtain ⟨d, rfl, q⟩ := q1
  cases r1
  exact wpAny_truthy_bool ⟨H1, I1, q⟩

/-! ### and, or, not -/
variable {tA tB' : TT} {rest : List Expr}
def tAnd (t u : TT) : TT := fun σ H Q => t σ H fun c H1 => if c = true then u σ H1 Q else Q false H1
def tOr (t u : TT) : TT := fun σ H Q => t σ H fun c H1 => if c = true then Q true H1 else u σ H1 Q
def tNot (t : TT) : TT := fun σ H Q => t σ H fun c H1 => Q (!c) H1
theorem pw_and1 (ha : PT X a tA) : PW X (.BoolOp .And [a] pos) tA := by
  intro wh pins s σ H Q I h
  refine isTrue_and (thn (ha pins s σ H Q I h) fun c s1 e => ?_)
  cases c with
  | true => exact isTrue_and_nil e
  | false => exact e
theorem pw_or1 (ha : PT X a tA) : PW X (.BoolOp .Or [a] pos) tA := by
  intro wh pins s σ H Q I h
  refine isTrue_or (thn (ha pins s σ H Q I h) fun c s1 e => ?_)
  cases c with
  | false => exact isTrue_or_nil e
  | true => exact e
theorem pw_and (ha : PT X a tA) (hb : PW X (.BoolOp .And (b :: rest) pos) tB') : PW X (.BoolOp .And (a :: b :: rest) pos) (tAnd tA tB') := by
  intro wh pins s σ H Q I h
  refine isTrue_and (thn (ha pins s σ H _ I h) fun c s1 ⟨H1, I1, q1⟩ => ?_)
  cases c with
  | true => exact hb wh pins s1 σ H1 Q I1 q1
  | false => exact ⟨H1, I1, q1⟩
theorem pw_or (ha : PT X a tA) (hb : PW X (.BoolOp .Or (b :: rest) pos) tB') : PW X (.BoolOp .Or (a :: b :: rest) pos) (tOr tA tB') := by
  intro wh pins s σ H Q I h
  refine isTrue_or (thn (ha pins s σ H _ I h) fun c s1 ⟨H1, I1, q1⟩ => ?_)
  cases c with
  | true => exact ⟨H1, I1, q1⟩
  | false => exact hb wh pins s1 σ H1 Q I1 q1
theorem pt_not (ha : PT X a tA) : PT X (.UnaryOp .Not a pos) (tNot tA) := by
  intro pins s σ H Q I h
  exact isTrue_not (ha pins s σ H (fun c H1 => Q (!c) H1) I h)
/-- .. as values (bools) -/
def tAndV (ta tb : TE) : TE := fun σ H Q => ta σ H fun x H1 => ∃ c, x = .bl c ∧ if c = true then tb σ H1 Q else Q (.bl false) H1
def tOrV (ta tb : TE) : TE := fun σ H Q => ta σ H fun x H1 => ∃ c, x = .bl c ∧ if c = true then Q (.bl true) H1 else tb σ H1 Q
def tNotV (ta : TE) : TE := fun σ H Q => ta σ H fun x H1 => ∃ c, x = .bl c ∧ Q (.bl (!c)) H1
theorem pe_one {op} {t : TE} (h : PE X a t) : PE X (.BoolOp op [a] pos) t := fun pins s σ H Q I hw => BoolOp_one (h pins s σ H Q I hw)
theorem pe_and (ha : PE X a ta) (hb : PE X (.BoolOp .And (b :: rest) pos) tb) : PE X (.BoolOp .And (a :: b :: rest) pos) (tAndV ta tb) := by
  intro pins s σ H Q I h
  refine BoolOp_and (thn (ha pins s σ H _ I h) fun v s1 ⟨x, H1, I1, r1, q1⟩ => ?_)
  obtain ⟨c, rfl, q1⟩ := q1
  cases r1
  refine wpAny_truthy_bool ?_
  cases c with
  | true => exact hb pins s1 σ H1 Q I1 q1
  | false => exact ⟨.bl false, H1, I1, rfl, q1⟩
theorem pe_or (ha : PE X a ta) (hb : PE X (.BoolOp .Or (b :: rest) pos) tb) : PE X (.BoolOp .Or (a :: b :: rest) pos) (tOrV ta tb) := by
  intro pins s σ H Q I h
  refine BoolOp_or (thn (ha pins s σ H _ I h) fun v s1 ⟨x, H1, I1, r1, q1⟩ => ?_)
  obtain ⟨c, rfl, q1⟩ := q1
  cases r1
  refine wpAny_truthy_bool ?_
  cases c with
  | false => exact hb pins s1 σ H1 Q I1 q1
  | true => exact ⟨.bl true, H1, I1, rfl, q1⟩
theorem pe_not (ha : PE X a ta) : PE X (.UnaryOp .Not a pos) (tNotV ta) := by
  intro pins s σ H Q I h
  refine UnaryOp_ (thn (ha pins s σ H _ I h) fun v s1 ⟨x, H1, I1, r1, q1⟩ => ?_)
  obtain ⟨c, rfl, q1⟩ := q1
  cases r1
  exact not_of (wpAny_truthy_bool ⟨.bl (!c), H1, I1, rfl, q1⟩)
/-- a if t else b -/
def tIf (t : TT) (ta tb : TE) : TE := fun σ H Q => t σ H fun c H1 => if c = true then ta σ H1 Q else tb σ H1 Q
theorem pe_ifExp {c : Expr} (hc : PT X c tA) (ha : PE X a ta) (hb : PE X b tb) : PE X (.IfExp c a b pos) (tIf tA ta tb) := by
  intro pins s σ H Q I h
  refine wpAny_IfExp (thn (hc pins s σ H _ I h) fun d s1 ⟨H1, I1, q1⟩ => ?_)
  cases d with
  | true => exact ha pins s1 σ H1 Q I1 q1
  | false => exact hb pins s1 σ H1 Q I1 q1
end
end L2

namespace L2
open PySem PySem.Spec PyProof.Rows

/-! ### a list, a tuple that is read: tracked, frozen, or an object of the module -/
def SqL (K : PySem.W.Frag) (H : Hp) (a : Addr) (xs : List V) : Prop :=
  Rd H a (.lst xs) ∨
    ∃ (o : Obj) (its : Array Value) (n : Nat), K.lookup a = some o ∧ o.cls = .type "list" ∧ o.dict = none ∧ o.data = .seq its n ∧ its.size ≤ sizeLine ∧ Vals xs its.toList
def SqT (K : PySem.W.Frag) (H : Hp) (a : Addr) (xs : List V) : Prop :=
  Rd H a (.tup xs) ∨
    ∃ (o : Obj) (its : Array Value) (n : Nat), K.lookup a = some o ∧ o.cls = .type "tuple" ∧ o.data = .seq its n ∧ its.size ≤ sizeLine ∧ Vals xs its.toList
def absV : Value → Option V
  | .none => some .non
  | .bool b => some (.bl b)
  | .int i _ => some (.int i)
  | .str x _ => some (.str x)
  | .bytes b _ => some (.byt b)
  | .float b _ => some (.flt b)
  | .ref a => some (.ref a)
  | .type n => some (.ty n)
  | _ => none
theorem RelV.abs {x : V} {u : Value} (r : RelV x u) : absV u = some x := by
  cases x with
  | non => cases r; rfl
  | bl _ => cases r; rfl
  | int _ => obtain ⟨t, rfl⟩ := r; rfl
  | str _ => obtain ⟨t, rfl⟩ := r; rfl
  | byt _ => obtain ⟨t, rfl⟩ := r; rfl
  | flt _ => obtain ⟨t, rfl⟩ := r; rfl
  | ref _ => cases r; rfl
  | ty _ => cases r; rfl
theorem RelV.inj {x y : V} {u : Value} (r : RelV x u) (q : RelV y u) : x = y := Option.some.inj (r.abs.symm.trans q.abs)
theorem Vals.inj : ∀ {xs ys : List V} {us : List Value}, Vals xs us → Vals ys us → xs = ys
  | _, _, _, .nil, .nil => rfl
  | _, _, _, .cons r t, .cons r' t' => by rw [r.inj r', Vals.inj t t']
section
variable {X : Cx} {pins : List (Addr × Obj)} {σ : St} {H : Hp} {s : Shared} {a : Addr} {xs ys : List V}
theorem SqL.of {K : PySem.W.Frag} (h : H a = some (.lst xs)) : SqL K H a xs := .inl (.inl h)
theorem SqT.of {K : PySem.W.Frag} (h : H a = some (.tup xs)) : SqT K H a xs := .inl (.inl h)
theorem Inv.list (I : Inv X pins σ H s) (h : SqL X.K H a xs) : ∃ its : List Value, Vals xs its ∧ PlainL s.heap a its.toArray ∧ xs.length ≤ sizeLine := by
  rcases h with h | ⟨o, its, n, hk, hc, hd, hs, hz, r⟩
  · obtain ⟨z, its, n, r, e⟩ := h.ok I.hok
    exact ⟨its, r, ⟨_, n, e, rfl, rfl, rfl⟩, z⟩
  · refine ⟨its.toList, r, ⟨o, n, I.kIn a o hk, hc, hd, by simpa using hs⟩, ?_⟩
    have e := r.length
    simp only [Array.length_toList] at e
    omega
theorem Inv.tuple (I : Inv X pins σ H s) (h : SqT X.K H a xs) : ∃ its : List Value, Vals xs its ∧ IsTup s.heap a its.toArray ∧ xs.length ≤ sizeLine := by
  rcases h with h | ⟨o, its, n, hk, hc, hs, hz, r⟩
  · obtain ⟨z, its, r, p⟩ := h.ok I.hok
    exact ⟨its, r, p, z⟩
  · refine ⟨its.toList, r, ⟨o, I.kIn a o hk, hc, n, by simpa using hs⟩, ?_⟩
    have e := r.length
    simp only [Array.length_toList] at e
    omega
theorem Inv.list_inj (I : Inv X pins σ H s) (h : SqL X.K H a xs) (h' : SqL X.K H a ys) : xs = ys := by
  obtain ⟨its, r, ⟨o, n, e, _, _, d⟩, _⟩ := I.list h
  obtain ⟨its', r', ⟨o', n', e', _, _, d'⟩, _⟩ := I.list h'
  rw [e] at e'; cases e'
  rw [d] at d'
  injection d' with d1 _
  have : its = its' := by simpa using congrArg Array.toList d1
  subst this
  exact r.inj r'
theorem Inv.tuple_inj (I : Inv X pins σ H s) (h : SqT X.K H a xs) (h' : SqT X.K H a ys) : xs = ys := by
  obtain ⟨its, r, ⟨o, e, _, n, d⟩, _⟩ := I.tuple h
  obtain ⟨its', r', ⟨o', e', _, n', d'⟩, _⟩ := I.tuple h'
  rw [e] at e'; cases e'
  rw [d] at d'
  injection d' with d1 _
  have : its = its' := by simpa using congrArg Array.toList d1
  subst this
  exact r.inj r'
end

/-! ### another wish about exceptions -/
abbrev Cx.wish (X : Cx) (E : Value → Shared → Prop) : Cx := { X with xe := E }
/-- no exception leaves -/
abbrev Cx.nox (X : Cx) : Cx := X.wish fun _ _ => False
theorem Cx.Ok.wish {X : Cx} (ok : X.Ok) (E : Value → Shared → Prop) : (X.wish E).Ok :=
  ⟨ok.mod, ok.kind, ok.glob, ok.blt, ok.above, ok.inj, ok.has, ok.cab, ok.hd, ok.frames, ok.stk, ok.exf, ok.bs, ok.bsz, ok.noex, ok.exfs, ok.funs, ok.frf⟩
theorem Cx.Ok.unwish {X : Cx} {E : Value → Shared → Prop} (ok : (X.wish E).Ok) : X.Ok :=
  ⟨ok.mod, ok.kind, ok.glob, ok.blt, ok.above, ok.inj, ok.has, ok.cab, ok.hd, ok.frames, ok.stk, ok.exf, ok.bs, ok.bsz, ok.noex, ok.exfs, ok.funs, ok.frf⟩
section
variable {X : Cx} {pins : List (Addr × Obj)} {σ : St} {H : Hp} {s : Shared} {E : Value → Shared → Prop}
theorem Inv.wish (I : Inv X pins σ H s) (E : Value → Shared → Prop) : Inv (X.wish E) pins σ H s := ⟨I.ok.wish E, I.os, I.bare, I.base, I.loc, I.cell, I.free, I.freeC, I.pin, I.hok, I.len⟩
theorem Inv.unwish (I : Inv (X.wish E) pins σ H s) : Inv X pins σ H s := ⟨I.ok.unwish, I.os, I.bare, I.base, I.loc, I.cell, I.free, I.freeC, I.pin, I.hok, I.len⟩
theorem SP.unwish {D : Ends} {f : Flow} {s' : Shared} (h : SP (X.wish E) pins D f s') : SP X pins D f s' := by
  cases f with
  | next => obtain ⟨σ', H', I, q⟩ := h; exact ⟨σ', H', I.unwish, q⟩
  | brk => obtain ⟨σ', H', I, q⟩ := h; exact ⟨σ', H', I.unwish, q⟩
  | cont => obtain ⟨σ', H', I, q⟩ := h; exact ⟨σ', H', I.unwish, q⟩
  | ret u => obtain ⟨v, σ', H', I, r, q⟩ := h; exact ⟨v, σ', H', I.unwish, r, q⟩
theorem PE.nox {e : Expr} {t : TE} (h : PE X.nox e t) : PE X e t := fun pins s σ H Q I hw =>
  wpAny_mono (h pins s σ H Q (I.wish _) hw) (fun _ _ ⟨v, H', I', r, q⟩ => ⟨v, H', I'.unwish, r, q⟩) fun _ _ z => False.elim z
theorem PT.nox {e : Expr} {t : TT} (h : PT X.nox e t) : PT X e t := fun pins s σ H Q I hw =>
  wpAny_mono (h pins s σ H Q (I.wish _) hw) (fun _ _ ⟨H', I', q⟩ => ⟨H', I'.unwish, q⟩) fun _ _ z => False.elim z
theorem PSs.nox {st : List Stmt} {t : TS} (h : PSs X.nox st t) : PSs X st t := fun pins s σ H D I hw =>
  wpAny_mono (h pins s σ H D (I.wish _) hw) (fun _ _ q => q.unwish) fun _ _ z => False.elim z
end

/-! ### blocks and small statements -/
section
variable {X : Cx} {st : Stmt} {rest : List Stmt} {t u : TS} {e : Expr} {te : TE} {pos : Pos}
def tNext : TS := fun D σ H => D.nx σ H
def tSeq (t u : TS) : TS := fun D σ H => t { D with nx := u D } σ H
theorem pss_nil : PSs X [] tNext := fun _ _ σ H _ I h => wpAny_execs_nil ⟨σ, H, I, h⟩
theorem pss_cons (h1 : PS X st t) (h2 : PSs X rest u) : PSs X (st :: rest) (tSeq t u) := by
  intro pins s σ H D I h
  refine wpAny_execs_cons (thn (h1 pins s σ H { D with nx := u D } I h) fun f s1 q => ?_)
  cases f with
  | next =>
    obtain ⟨σ', H', I', q⟩ := q
    exact h2 pins s1 σ' H' D I' q
  | ret v => exact q
  | brk => exact q
  | cont => exact q
theorem pss_one (h1 : PS X st t) : PSs X [st] t := by
  intro pins s σ H D I h
  refine wpAny_execs_cons (thn (h1 pins s σ H D I h) fun f s1 q => ?_)
  cases f with
  | next => exact wpAny_execs_nil q
  | ret v => exact q
  | brk => exact q
  | cont => exact q
def tBreak : TS := fun D σ H => D.bk σ H
def tCont : TS := fun D σ H => D.ct σ H
theorem ps_pass : PS X (.Pass pos) tNext := fun _ _ σ H _ I h => wpAny_Pass ⟨σ, H, I, h⟩
theorem ps_break : PS X (.Break pos) tBreak := fun _ _ σ H _ I h => wpAny_Break ⟨σ, H, I, h⟩
theorem ps_continue : PS X (.Continue pos) tCont := fun _ _ σ H _ I h => wpAny_Continue ⟨σ, H, I, h⟩
/-- in a def's body nothing is shown -/
theorem Inv.quiet {pins : List (Addr × Obj)} {σ : St} {H : Hp} {s : Shared} (I : Inv X pins σ H s) : interactive X.env = false := by simp [interactive, I.ok.kind]
/-- a docstring -/
theorem ps_doc {x j pos pos'} : PS X (.Expr (.Constant (.str x) j pos) pos') tNext := fun _ s σ H _ I h => wpAny_Expr (Calls.Constant_str (show SP X _ _ .next { s with toks := s.toks + 1 } from ⟨σ, H, I.tok _, h⟩)) I.quiet
/-- an expression whose value is dropped -/
def tDrop (te : TE) : TS := fun D σ H => te σ H fun _ H1 => D.nx σ H1
theorem ps_expr (he : PE X e te) (hs : swapsWith e none pos.line X.env = pure false := by rfl) : PS X (.Expr e pos) (tDrop te) := by
  intro pins s σ H D I h
  exact wpAny_Expr_any (thn (he pins s σ H _ I h) fun v s1 ⟨x, H1, I1, r1, q1⟩ => ⟨σ, H1, I1, q1⟩) I.quiet hs
def tRet (te : TE) : TS := fun D σ H => te σ H D.rt
theorem ps_ret (he : PE X e te) : PS X (.Return (some e) pos) (tRet te) := by
  intro pins s σ H D I h
  exact wpAny_Return_some (thn (he pins s σ H _ I h) fun v s1 ⟨x, H1, I1, r1, q1⟩ => ⟨x, σ, H1, I1, r1, q1⟩)
def tRetN : TS := fun D _ H => D.rt .non H
theorem ps_retN : PS X (.Return none pos) tRetN := fun _ _ σ H _ I h => wpAny_Return_none ⟨.non, σ, H, I, rfl, h⟩
def tIfS (c : TT) (t u : TS) : TS := fun D σ H => c σ H fun b H1 => if b = true then t D σ H1 else u D σ H1
theorem ps_if {c : Expr} {a b : List Stmt} {tc : TT} (hc : PT X c tc) (ha : PSs X a t) (hb : PSs X b u) : PS X (.If c a b pos) (tIfS tc t u) := by
  intro pins s σ H D I h
  refine wpAny_If (thn (hc pins s σ H _ I h) fun d s1 ⟨H1, I1, q1⟩ => ?_)
  cases d with
  | true => exact ha pins s1 σ H1 D I1 q1
  | false => exact hb pins s1 σ H1 D I1 q1
/-- code that the proof never comes to -/
def tNever : TS := fun _ _ _ => False
theorem ps_never : PS X st tNever := fun _ _ _ _ _ _ h => h.elim
theorem pss_never {sts : List Stmt} : PSs X sts tNever := fun _ _ _ _ _ _ h => h.elim
end

/-! ### targets -/
abbrev TG := V → St → Hp → (St → Hp → Prop) → Prop
abbrev TGs := List V → St → Hp → (St → Hp → Prop) → Prop
def PG (X : Cx) (target : Expr) (t : TG) : Prop :=
  ∀ (pins : List (Addr × Obj)) (s : Shared) (σ : St) (H : Hp) (v : V) (u : Value) (Q : St → Hp → Prop), Inv X pins σ H s → RelV v u → t v σ H Q →
    wpAny (model X.prog X.w) X.A (assign target X.env u) (fun _ s' => ∃ σ' H', Inv X pins σ' H' s' ∧ Q σ' H') X.xe s
/-- several targets, one after another -/
def PGs (X : Cx) (ts : List Expr) (t : TGs) : Prop :=
  ∀ (pins : List (Addr × Obj)) (s : Shared) (σ : St) (H : Hp) (vs : List V) (us : List Value) (Q : St → Hp → Prop), Inv X pins σ H s → Vals vs us → t vs σ H Q →
    wpAny (model X.prog X.w) X.A (assignInOrder ((assignEach ts X.env).map (·.2)) us) (fun _ s' => ∃ σ' H', Inv X pins σ' H' s' ∧ Q σ' H') X.xe s
/-- o[i] = v, by values -/
abbrev TSet := V → V → V → Hp → (Hp → Prop) → Prop
def PSet (X : Cx) (t : TSet) : Prop :=
  ∀ (pins : List (Addr × Obj)) (s : Shared) (σ : St) (H : Hp) (o i v : V) (ov iv u : Value) (Q : Hp → Prop), Inv X pins σ H s → RelV o ov → RelV i iv → RelV v u → t o i v H Q →
    wpAny (model X.prog X.w) X.A (setItem ov iv u) (fun _ s' => ∃ H', Inv X pins σ H' s' ∧ Q H') X.xe s
/-- a op= b, by values -/
abbrev TIp := V → V → Hp → VK → Prop
def PIp (X : Cx) (op : Operator) (t : TIp) : Prop :=
  ∀ (pins : List (Addr × Obj)) (s : Shared) (σ : St) (H : Hp) (x y : V) (v u : Value) (Q : VK), Inv X pins σ H s → RelV x v → RelV y u → t x y H Q →
    wpAny (model X.prog X.w) X.A (inplaceOp op v u) (EP X pins σ Q) X.xe s
section
variable {X : Cx} {pos : Pos}
def gName (i : Nat) : TG := fun v σ H Q => Q (σ.set i (some v)) H
theorem pg_name {i : Nat} {x : Str} (hN : X.N.Nodup) (hi : X.N[i]? = some x) (hx : Loc X.env.scope x) (hf : X.fn x = true ∨ X.env.scope.names.lookup x = some .local := by first | exact .inl rfl | exact .inr rfl | assumption) : PG X (.Name x pos) (gName i) := by
  intro pins s σ H v u Q I r h
  exact wpAny_assign_Name (store_ok I hN hi hx r (fun s' I' => ⟨_, H, I', h⟩) hf)
def gNil : TGs := fun vs σ H Q => vs = [] ∧ Q σ H
def gCons (t : TG) (u : TGs) : TGs := fun vs σ H Q => ∃ v r, vs = v :: r ∧ t v σ H fun σ' H' => u r σ' H' Q
theorem pgs_nil : PGs X [] gNil := by
  intro pins s σ H vs us Q I r h
  obtain ⟨e, h⟩ := h
  subst e
  cases r
  exact assignInOrder_nil ⟨σ, H, I, h⟩
theorem pgs_cons {e : Expr} {es : List Expr} {t : TG} {u : TGs} (h1 : PG X e t) (h2 : PGs X es u)
    (hs : (assignEach (e :: es) X.env).map (·.2) = assign e X.env :: (assignEach es X.env).map (·.2) := by rfl) : PGs X (e :: es) (gCons t u) := by
  intro pins s σ H vs us Q I r h
  obtain ⟨v, vr, e1, h⟩ := h
  subst e1
  cases r with
  | cons r rr =>
    rw [hs]
    refine assignInOrder_cons (thn (h1 pins s σ H _ _ _ I r h) fun _ s1 ⟨σ1, H1, I1, q1⟩ => ?_)
    exact h2 pins s1 σ1 H1 _ _ Q I1 rr q1
/-- (a, b, ..) = a tuple of that length -/
def gTup (K : PySem.W.Frag) (n : Nat) (t : TGs) : TG := fun v σ H Q => ∃ a xs, v = .ref a ∧ SqT K H a xs ∧ xs.length = n ∧ t xs σ H Q
theorem pg_tup {es : List Expr} {k : Nat} {t : TGs} {n : Nat} (hc : X.calm = true) (h : PGs X es t)
    (hn : (assignEach es X.env).length = n := by rfl) (hst : (assignEach es X.env).findIdx? (·.1) = none := by rfl) : PG X (.Tuple es k pos) (gTup X.K n t) := by
  intro pins s σ H v u Q I r hw
  obtain ⟨a, xs, e1, hq, hl, hw⟩ := hw
  subst e1
  cases r
  obtain ⟨its, rv, ht, hz⟩ := I.tuple hq
  refine assign_Tuple_tuple (I.ok.hd hc) ht (by simp [hn, ← hl, rv.length]) hst fun h' hx => ?_
  have I1 : Inv X pins σ H { s with heap := h' } := I.kept (t' := s.toks) fun b o e => hx b o (Nat.ne_of_lt (Heap.lt_size e)) e
  exact h pins _ σ H xs _ Q I1 (by simpa using rv) hw
/-- o[i] = .. -/
def gSub (to ti : TE) (t : TSet) : TG := fun v σ H Q => to σ H fun o H1 => ti σ H1 fun i H2 => t o i v H2 fun H3 => Q σ H3
theorem pg_sub {o i : Expr} {to ti : TE} {t : TSet} (ho : PE X o to) (hi : PE X i ti) (hs : PSet X t)
    (ha : ∀ v, assign (.Subscript o i pos) X.env v = (do
      let ov ← holding [v] (eval o X.env)
      let iv ← holding [v, ov] (eval i X.env)
      standAt pos
      holding [v, ov, iv] (setItem ov iv v)
      release [v, ov, iv] []) := by intro _; rfl) : PG X (.Subscript o i pos) (gSub to ti t) := by
  intro pins s σ H v u Q I r h
  rw [ha]
  refine wpAny_bind (wpAny_holding (thn (ho pins s σ H _ I h) fun ov s1 ⟨x, H1, I1, r1, q1⟩ => ?_))
  refine wpAny_bind (wpAny_holding (thn (hi pins s1 σ H1 _ I1 q1) fun iv s2 ⟨y, H2, I2, r2, q2⟩ => ?_))
  refine wpAny_bind (wpAny_standAt (wpAny_bind (wpAny_holding (thn (hs pins s2 σ H2 x y v ov iv u _ I2 r1 r2 r q2) fun _ s3 ⟨H3, I3, q3⟩ => ?_))))
  exact wpAny_release ⟨σ, H3, I3, q3⟩
/-- target = value -/
def tAsg (te : TE) (g : TG) : TS := fun D σ H => te σ H fun x H1 => g x σ H1 D.nx
theorem ps_asg {tg e : Expr} {te : TE} {g : TG} (he : PE X e te) (hg : PG X tg g) (hs : swapsWithSole [tg] e pos.line X.env = pure false := by rfl) (hw : swappedStores [tg] e X.env = pure none := by rfl)
    (h1 : (assignEach [tg] X.env).map (·.2) = [assign tg X.env] := by rfl) : PS X (.Assign [tg] e pos) (tAsg te g) := by
  intro pins s σ H D I h
  refine wpAny_Assign_stores (thn (he pins s σ H _ I h) fun v s1 ⟨x, H1, I1, r1, q1⟩ => ?_) hs hw
  rw [h1]
  exact thn (hg pins s1 σ H1 x v _ I1 r1 q1) fun _ s2 q => q
/-- name = value -/
theorem ps_set {i : Nat} {x : Str} {e : Expr} {te : TE} {pos' : Pos} (hN : X.N.Nodup) (hi : X.N[i]? = some x) (hx : Loc X.env.scope x) (he : PE X e te) (hs : swapsWith e (some (.Name x pos')) pos.line X.env = pure false := by rfl) (hf : X.fn x = true ∨ X.env.scope.names.lookup x = some .local := by first | exact .inl rfl | exact .inr rfl | assumption) :
    PS X (.Assign [.Name x pos'] e pos) (tAsg te (gName i)) := by
  intro pins s σ H D I h
  refine wpAny_Assign_Name (thn (he pins s σ H _ I h) fun v s1 ⟨y, H1, I1, r1, q1⟩ => ?_) hs
  exact store_ok I1 hN hi hx r1 (fun s2 I2 => ⟨_, H1, I2, q1⟩) hf
/-- a, b = x, y with plain local names: stored from the right; the pair itself is not tracked (the opening rows as in PyProof/Rows/TupAssign.lean:23) -/
def tPar (i j : Nat) (ta : TA) : TS := fun D σ H => ta σ H fun vs H1 => ∃ v w, vs = [v, w] ∧ D.nx ((σ.set i (some v)).set j (some w)) H1
theorem ps_par {i j : Nat} {x y : Str} {a b : Expr} {ta : TA} {px py pt : Pos} {kt k2 pt2} (hc : X.calm = true) (hN : X.N.Nodup) (hi : X.N[i]? = some x) (hj : X.N[j]? = some y) (hij : i ≠ j)
    (hx : X.env.scope.names.lookup x = some .local) (hy : X.env.scope.names.lookup y = some .local) (ha : PA X [a, b] ta)
    (hw : swappedStores [.Tuple [.Name x px, .Name y py] kt pt] (.Tuple [a, b] k2 pt2) X.env = pure (some [x, y]))
    (hs : swapsWithSole [.Tuple [.Name x px, .Name y py] kt pt] (.Tuple [a, b] k2 pt2) pos.line X.env = pure false := by rfl) :
    PS X (.Assign [.Tuple [.Name x px, .Name y py] kt pt] (.Tuple [a, b] k2 pt2) pos) (tPar i j ta) := by
  intro pins s σ H D I h
  rw [exec_Assign_arm]
  refine wpAny_bind (wpAny_standAt ?_)
  rw [hs]
  refine wpAny_bind (wpAny_pure ?_)
  rw [if_neg (by decide)]
  refine wpAny_bind (Tuple_ (thn (ha _ pins s σ H _ I h) fun us s1 ⟨vs, H1, I1, r1, q1⟩ => ?_))
  obtain ⟨v, w, e1, q1⟩ := q1
  subst e1
  obtain ⟨u1, u2, rfl, rv, rw'⟩ : ∃ u1 u2, us = [u1, u2] ∧ RelV v u1 ∧ RelV w u2 := by
    cases r1 with
    | cons p q =>
      cases q with
      | cons p' q' =>
        cases q'
        exact ⟨_, _, rfl, p, p'⟩
  refine wpAny_newObj_type ?_ (by show 2 ≤ sizeLine; decide)
  have I2 : Inv X pins σ H1 { s1 with heap := s1.heap.push { cls := .type "tuple", data := .seq [u1, u2].toArray } } := I1.kept (t' := s1.toks) fun b o e => Heap.get?_push_of_some _ e
  rw [hw]
  refine wpAny_bind (wpAny_pure ?_)
  show wpAny (model X.prog X.w) X.A (do rule "assign.swapped-stores"; let items ← unpackItems (.ref s1.heap.objs.size) 2 none; assignInOrder [fun v => bindName X.env y v, fun v => bindName X.env x v] items.reverse; pure Flow.next) _ _ _
  refine wpAny_bind (wpAny_rule (wpAny_bind (unpackItems_tuple (items := #[u1, u2]) (I.ok.hd hc) (IsTup.new s1.heap _) fun h' hx' => ?_)))
  have I3 := I2.kept (h' := h') (t' := s1.toks) fun b o e => hx' b o (Nat.ne_of_lt (Heap.lt_size e)) e
  show wpAny _ _ (assignInOrder [fun v => bindName X.env y v, fun v => bindName X.env x v] [u2, u1] >>= fun _ => pure Flow.next) _ _ _
  refine wpAny_bind (assignInOrder_cons (wpAny_bindName (store_ok I3 hN hj (.inl hy) rw' (fun s2 I4 => ?_) (.inr hy))))
  refine assignInOrder_cons (wpAny_bindName (store_ok I4 hN hi (.inl hx) rv (fun s3 I5 => assignInOrder_nil (wpAny_pure ?_)) (.inr hx)))
  rw [List.set_comm _ _ (Ne.symm hij)] at I5
  exact ⟨_, H1, I5, q1⟩
/-- name op= e -/
def tAug (i : Nat) (te : TE) (ti : TIp) : TS := fun D σ H => ∃ x, σ[i]? = some (some x) ∧ te σ H fun y H1 => ti x y H1 fun z H2 => D.nx (σ.set i (some z)) H2
theorem ps_aug {i : Nat} {x : Str} {e : Expr} {te : TE} {op : Operator} {ti : TIp} {pos' : Pos} (hN : X.N.Nodup) (hi : X.N[i]? = some x) (hx : Loc X.env.scope x) (he : PE X e te) (ho : PIp X op ti) (hf : X.fn x = true ∨ X.env.scope.names.lookup x = some .local := by first | exact .inl rfl | exact .inr rfl | assumption) :
    PS X (.AugAssign (.Name x pos') op e pos) (tAug i te ti) := by
  intro pins s σ H D I h
  obtain ⟨v, e1, h⟩ := h
  obtain ⟨m, hn, hl⟩ := I.loc
  have vis : Vis X.env.scope x := by rcases hx with k | k; exact .inl k; exact .inr (.inl k)
  obtain ⟨u, r, l⟩ := hl i x v hi e1 vis
  refine wpAny_AugAssign_Name ?_
  have go : wpAny (model X.prog X.w) X.A (eval e X.env) (fun w s₂ => wpAny (model X.prog X.w) X.A (inplaceOp op u w) (fun r s₃ => wpAny (model X.prog X.w) X.A (storeName X.env x r) (fun _ => SP X pins D .next) X.xe s₃) X.xe s₂) X.xe s := by
    refine thn (he pins s σ H _ I h) fun w s1 ⟨y, H1, I1, r1, q1⟩ => ?_
    refine thn (ho pins s1 σ H1 v y u w _ I1 r r1 q1) fun z s2 ⟨zv, H2, I2, r2, q2⟩ => ?_
    exact store_ok I2 hN hi hx r2 (fun s3 I3 => ⟨_, H2, I3, q2⟩) hf
  rcases l with ⟨hk, hm⟩ | ⟨hk, c, hc, hcell⟩
  · exact wpAny_loadName_local I.ok.kind hk hn hm go
  · rcases hk with hk | hk
    · exact wpAny_loadName_cell I.ok.kind hk hc hcell go
    · rcases hx with k | k
      · have : X.env.scope.names.lookup x = some .free := hk
        rw [k] at this; cases this
      · have : X.env.scope.names.lookup x = some .free := hk
        rw [k] at this; cases this
/-- o[i] op= e -/
def tAugS (to ti te : TE) (tget : V → V → Hp → VK → Prop) (tip : TIp) (tset : TSet) : TS := fun D σ H => to σ H fun o H1 => ti σ H1 fun i H2 => tget o i H2 fun x H3 => te σ H3 fun y H4 => tip x y H4 fun z H5 => tset o i z H5 fun H6 => D.nx σ H6
/-- o[i], by values -/
def PGet (X : Cx) (t : V → V → Hp → VK → Prop) : Prop :=
  ∀ (pins : List (Addr × Obj)) (s : Shared) (σ : St) (H : Hp) (o i : V) (ov iv : Value) (Q : VK), Inv X pins σ H s → RelV o ov → RelV i iv → t o i H Q →
    wpAny (model X.prog X.w) X.A (getItem ov iv) (EP X pins σ Q) X.xe s
theorem ps_augS {o i e : Expr} {to ti te : TE} {tget : V → V → Hp → VK → Prop} {tip : TIp} {tset : TSet} {op : Operator} {tpos : Pos} (ho : PE X o to) (hi : PE X i ti) (hg : PGet X tget) (he : PE X e te) (hp : PIp X op tip) (hs : PSet X tset)
    (ha : ∀ ov iv new, augStore i ov iv new = (do holding [new, ov, iv] (setItem ov iv new); release [new, ov, iv] []; pure .next) := by intros; rfl) : PS X (.AugAssign (.Subscript o i tpos) op e pos) (tAugS to ti te tget tip tset) := by
  intro pins s σ H D I h
  refine wpAny_AugAssign_SubscriptAny (thn (ho pins s σ H _ I h) fun ov s1 ⟨x1, H1, I1, r1, q1⟩ => ?_) ha
  refine thn (hi pins s1 σ H1 _ I1 q1) fun iv s2 ⟨x2, H2, I2, r2, q2⟩ => ?_
  refine thn (hg pins s2 σ H2 x1 x2 ov iv _ I2 r1 r2 q2) fun old s3 ⟨x3, H3, I3, r3, q3⟩ => ?_
  refine thn (he pins s3 σ H3 _ I3 q3) fun v s4 ⟨x4, H4, I4, r4, q4⟩ => ?_
  refine thn (hp pins s4 σ H4 x3 x4 old v _ I4 r3 r4 q4) fun new s5 ⟨x5, H5, I5, r5, q5⟩ => ?_
  exact thn (hs pins s5 σ H5 x1 x2 x5 ov iv new _ I5 r1 r2 r5 q5) fun _ s6 ⟨H6, I6, q6⟩ => ⟨σ, H6, I6, q6⟩
/-- ints -/
def ipI (f : Int → Int → Int) : TIp := fun x y H Q => ∃ i j, x = .int i ∧ y = .int j ∧ Q (.int (f i j)) H
theorem ip_add : PIp X .Add (ipI fun i j => i + j) := by
  intro pins s σ H x y v u Q I r1 r2 h
  obtain ⟨i, j, e1, e2, q⟩ := h
  subst e1; subst e2
  obtain ⟨t, rfl⟩ := r1
  obtain ⟨t', rfl⟩ := r2
  exact iadd_int ⟨.int _, H, I.tok _, ⟨_, rfl⟩, q⟩
theorem ip_sub : PIp X .Sub (ipI fun i j => i - j) := by
  intro pins s σ H x y v u Q I r1 r2 h
  obtain ⟨i, j, e1, e2, q⟩ := h
  subst e1; subst e2
  obtain ⟨t, rfl⟩ := r1
  obtain ⟨t', rfl⟩ := r2
  exact isub_int ⟨.int _, H, I.tok _, ⟨_, rfl⟩, q⟩
end

/-! ### while -/
section
variable {X : Cx} {pos : Pos}
/-- the invariant W with its measure -/
def tWhile (c : TT) (tb : TS) : TS := fun D σ H => ∃ W : Nat → St → Hp → Prop, (∃ m, W m σ H) ∧ ∀ m σ H, W m σ H →
  c σ H fun b H1 => if b = true then ∃ N : St → Hp → Prop, (∀ σ' H', N σ' H' → ∃ m', m' < m ∧ W m' σ' H') ∧ tb { D with nx := N, ct := N, bk := D.nx } σ H1 else D.nx σ H1
theorem ps_while {c : Expr} {body : List Stmt} {tc : TT} {tb : TS} (hp : PassesOwn (model X.prog X.w) X.A X.env X.xe) (hc : PT X c tc) (hb : PSs X body tb) : PS X (.While c body [] pos) (tWhile tc tb) := by
  intro pins s σ H D I h
  obtain ⟨W, ⟨m0, w0⟩, turn⟩ := h
  refine wpAny_While (codeAny_whileLoop (fun n s' => ∃ σ' H', Inv X pins σ' H' s' ∧ W n σ' H') ?_ m0 ⟨σ, H, I, w0⟩)
  rintro n s1 ⟨σ1, H1, I1, w1⟩
  refine wpAny_passesOwn hp (thn (hc pins s1 σ1 H1 _ I1 (turn n σ1 H1 w1)) fun b s2 ⟨H2, I2, q2⟩ => ?_)
  cases b with
  | true =>
    obtain ⟨N, hN, q2⟩ := q2
    rw [if_pos rfl]
    refine wpAny_passesOwn hp (thn (hb pins s2 σ1 H2 _ I2 q2) fun f s3 q3 => ?_)
    cases f with
    | next =>
      obtain ⟨σ3, H3, I3, n3⟩ := q3
      obtain ⟨m', hm, w3⟩ := hN σ3 H3 n3
      exact ⟨m', hm, σ3, H3, I3, w3⟩
    | cont =>
      obtain ⟨σ3, H3, I3, n3⟩ := q3
      obtain ⟨m', hm, w3⟩ := hN σ3 H3 n3
      exact ⟨m', hm, σ3, H3, I3, w3⟩
    | brk => exact q3
    | ret v => exact q3
  | false =>
    rw [if_neg Bool.false_ne_true]
    exact wpAny_execs_nil ⟨σ1, H2, I2, q2⟩
end

/-! ### what a loop or a comprehension walks -/
/-- at turn i: it yields x (the heap may grow), or it stops -/
structure It where
  go : Nat → Hp → Prop
  yld : Nat → Hp → V → Hp → Prop
  stop : Nat → Hp → Prop
/-- the iterator's own objects may turn: they are not the frame's, not pinned, younger than the entry (or a comprehension's own) -/
def FpOk (X : Cx) (pins : List (Addr × Obj)) (H : Hp) (b : Addr) : Prop :=
  H b = none ∧ b ≠ X.env.locals ∧ b ∉ X.fs ∧ (b ∈ X.ex ∨ X.s₀.heap.objs.size ≤ b) ∧ (∀ x c, X.env.cells.lookup x = some c → c ≠ b) ∧ ∀ p ∈ X.pn ++ pins, p.1 ≠ b
theorem Inv.fpOk {X : Cx} {pins : List (Addr × Obj)} {σ : St} {H H' : Hp} {s : Shared} {b : Addr} (I : Inv X pins σ H s) (hb : s.heap.objs.size ≤ b) (hn : H' b = none) : FpOk X pins H' b := by
  refine ⟨hn, Nat.ne_of_gt (Nat.lt_of_lt_of_le I.lt hb), I.nofs hb, .inr (Nat.le_trans I.sz hb), fun x c e z => ?_, fun p hp z => ?_⟩
  · obtain ⟨v, q⟩ := I.cell x c e
    exact absurd (Nat.lt_of_lt_of_le q.lt (by rw [z]; exact hb)) (Nat.lt_irrefl _)
  · exact absurd (Nat.lt_of_lt_of_le (Heap.lt_size (I.pin p hp).1) (by rw [z]; exact hb)) (Nat.lt_irrefl _)
structure Turn (P : Program) (w : World) (K : PySem.W.Frag) (tg : Expr) (J : It) (fp : List Addr) (it : Addr) (tn : Nat → Heap → Prop) : Prop where
  mem : it ∈ fp
  obj : ∀ i h, tn i h → ∀ b ∈ fp, ∃ o, h.get? b = some o ∧ ∀ v, o.data ≠ .cell v
  keep : ∀ i h h', tn i h → (∀ b ∈ fp, ∀ o, h.get? b = some o → h'.get? b = some o) → tn i h'
  item : ∀ (X : Cx), X.prog = P → X.w = w → X.K = K → X.calm = true → ∀ (i : Nat) (pins : List (Addr × Obj)) (s : Shared) (σ : St) (H : Hp) (E : Value → Shared → Prop), Inv X pins σ H s → (∀ b ∈ fp, FpOk X pins H b) → tn i s.heap → J.go i H →
    wpAny (model P w) X.A (pyNext (.ref it)) (fun r s1 => ∃ u, r = some u ∧
      wpAny (model P w) X.A (letOwnedTupleGo tg (.ref it) u) (fun _ s2 => ∃ x H', Inv X pins σ H' s2 ∧ RelV x u ∧ J.yld i H x H' ∧ tn (i + 1) s2.heap ∧ ∀ b ∈ fp, H' b = none) E s1) E s
  done : ∀ (X : Cx), X.prog = P → X.w = w → X.K = K → X.calm = true → ∀ (i : Nat) (pins : List (Addr × Obj)) (s : Shared) (σ : St) (H : Hp) (E : Value → Shared → Prop), Inv X pins σ H s → (∀ b ∈ fp, FpOk X pins H b) → tn i s.heap → J.stop i H →
    wpAny (model P w) X.A (pyNext (.ref it)) (fun r s1 => r = none ∧ Inv X pins σ H s1) E s
  self : ∀ (A : Around) (i : Nat) (s : Shared) (Q : Value → Shared → Prop) (E : Value → Shared → Prop), tn i s.heap → Q (.ref it) s → wpAny (model P w) A (pyIter (.ref it)) Q E s
abbrev TI := St → Hp → (It → Hp → Prop) → Prop
/-- an iterator has come -/
def PIE (X : Cx) (pins : List (Addr × Obj)) (σ : St) (tg : Expr) (R : It → Hp → Prop) (itv : Value) (s2 : Shared) : Prop :=
  ∃ (it : Addr) (fp : List Addr) (tn : Nat → Heap → Prop) (J : It) (H' : Hp), itv = .ref it ∧ Inv X pins σ H' s2 ∧ Turn X.prog X.w X.K tg J fp it tn ∧ tn 0 s2.heap ∧ (∀ b ∈ fp, FpOk X pins H' b) ∧ R J H'
def PI (X : Cx) (tg iter : Expr) (wi : TI) : Prop :=
  ∀ (pins : List (Addr × Obj)) (s : Shared) (σ : St) (H : Hp) (R : It → Hp → Prop), Inv X pins σ H s → wi σ H R →
    wpAny (model X.prog X.w) X.A (eval iter X.env) (fun v s1 => wpAny (model X.prog X.w) X.A (pyIter v) (PIE X pins σ tg R) X.xe s1) X.xe s

/-- the step ahead of the store is nothing for an iterator that keeps no tuple -/
theorem go_of {M : Model} {A : Around} {E : Value → Shared → Prop} {s : Shared} {tg : Expr} {it : Addr} {u : Value} {o : Obj} {n : String} {vs : Array Value} {Q : Unit → Shared → Prop} (ho : s.heap.get? it = some o) (hc : o.cls = .type n) (hd : o.data = .fields vs)
    (hn : ["enumerate", "zip", "dict_itemiterator", "dict_reverseitemiterator", "odict_iterator", "itertools.zip_longest", "itertools.pairwise"].contains n = false) (hQ : Q () s) : wpAny M A (letOwnedTupleGo tg (.ref it) u) Q E s := by
  unfold letOwnedTupleGo
  cases tg <;> first
    | exact wpAny_pure hQ
    | (cases u <;> first
        | exact wpAny_pure hQ
        | (refine wpAny_bind (wpAny_load ho ?_)
           rw [hc, hd]
           show wpAny M A (if (["enumerate", "zip", "dict_itemiterator", "dict_reverseitemiterator", "odict_iterator", "itertools.zip_longest", "itertools.pairwise"].contains n && vs[0]? == some (rawInt _)) = true then _ else _) Q E s
           rw [if_neg (by intro h; rw [hn, Bool.false_and] at h; cases h)]
           exact wpAny_pure hQ))

/-- the list at a, as it stands at each turn (a loop may append to it) -/
def Itl (K : PySem.W.Frag) (a : Addr) : It :=
  ⟨fun i H => ∃ xs x, SqL K H a xs ∧ xs[i]? = some x, fun i H x H' => H' = H ∧ ∀ xs, SqL K H a xs → xs[i]? = some x, fun i H => ∃ xs, SqL K H a xs ∧ xs.length ≤ i⟩
def Itt (K : PySem.W.Frag) (a : Addr) : It :=
  ⟨fun i H => ∃ xs x, SqT K H a xs ∧ xs[i]? = some x, fun i H x H' => H' = H ∧ ∀ xs, SqT K H a xs → xs[i]? = some x, fun i H => ∃ xs, SqT K H a xs ∧ xs.length ≤ i⟩
/-- lo, lo + 1, .. (n of them) -/
def Itr (lo : Int) (n : Nat) : It := ⟨fun i _ => i < n, fun i H x H' => H' = H ∧ x = .int (lo + i), fun i _ => n ≤ i⟩
theorem turn_list {P : Program} {w : World} {K : PySem.W.Frag} {tg : Expr} (a it : Addr) : Turn P w K tg (Itl K a) [it] it (fun i h => h.IsListIter it a i) where
  mem := by simp
  obj := fun i h st b hb => by
    have e : b = it := by simpa using hb
    subst e
    obtain ⟨o, e, c, d⟩ := st
    exact ⟨o, e, fun v z => by rw [d] at z; cases z⟩
  keep := fun i h h' st k => st.at fun o e => k it (by simp) o e
  item := by
    intro X hP hw hK hc i pins s σ H E I hf st hg
    subst hP hw hK
    obtain ⟨xs, x, hq, hx⟩ := hg
    obtain ⟨its, rv, p, hz⟩ := I.list hq
    obtain ⟨u, hu, ru⟩ := rv.get hx
    obtain ⟨f0, f1, f2, f3, f4, f5⟩ := hf it (by simp)
    refine wpAny_pyNext_list_item st p.isList (x := u) (by simpa using hu) fun h' st' sb => ?_
    have I1 : Inv X pins σ H { s with heap := h' } := I.turned (t' := s.toks) (fun b o hb e => (sb.2 b hb).trans e) f0 f1 f3 f4 f5
    obtain ⟨o, e, c, d⟩ := id st'
    exact ⟨u, rfl, go_of (s := { s with heap := h' }) e c d (by decide) ⟨x, H, I1, ru, ⟨rfl, fun ys hy => by rw [I.list_inj hy hq]; exact hx⟩, st', fun b hb => (hf b hb).1⟩⟩
  done := by
    intro X hP hw hK hc i pins s σ H E I hf st hg
    subst hP hw hK
    obtain ⟨xs, hq, hx⟩ := hg
    obtain ⟨its, rv, p, hz⟩ := I.list hq
    obtain ⟨f0, f1, f2, f3, f4, f5⟩ := hf it (by simp)
    have hl := rv.length
    exact wpAny_pyNext_list_end (I.ok.hd hc) st p.isList (by simp; omega) fun h' eb => ⟨rfl, I.turned (t' := s.toks) (fun b o hb e => eb b o hb e) f0 f1 f3 f4 f5⟩
  self := fun _ _ _ _ _ st h => wpAny_pyIter_listiter st h
theorem turn_tuple {P : Program} {w : World} {K : PySem.W.Frag} {tg : Expr} (a it : Addr) : Turn P w K tg (Itt K a) [it] it (fun i h => h.IsTupleIter it a i) where
  mem := by simp
  obj := fun i h st b hb => by
    have e : b = it := by simpa using hb
    subst e
    obtain ⟨o, e, c, d⟩ := st
    exact ⟨o, e, fun v z => by rw [d] at z; cases z⟩
  keep := fun i h h' st k => st.at fun o e => k it (by simp) o e
  item := by
    intro X hP hw hK hc i pins s σ H E I hf st hg
    subst hP hw hK
    obtain ⟨xs, x, hq, hx⟩ := hg
    obtain ⟨its, rv, p, hz⟩ := I.tuple hq
    obtain ⟨u, hu, ru⟩ := rv.get hx
    obtain ⟨f0, f1, f2, f3, f4, f5⟩ := hf it (by simp)
    refine wpAny_pyNext_tuple_item st (show s.heap.IsTuple a its.toArray from p) (x := u) (by simpa using hu) fun h' st' sb => ?_
    have I1 : Inv X pins σ H { s with heap := h' } := I.turned (t' := s.toks) (fun b o hb e => (sb.2 b hb).trans e) f0 f1 f3 f4 f5
    obtain ⟨o, e, c, d⟩ := id st'
    exact ⟨u, rfl, go_of (s := { s with heap := h' }) e c d (by decide) ⟨x, H, I1, ru, ⟨rfl, fun ys hy => by rw [I.tuple_inj hy hq]; exact hx⟩, st', fun b hb => (hf b hb).1⟩⟩
  done := by
    intro X hP hw hK hc i pins s σ H E I hf st hg
    subst hP hw hK
    obtain ⟨xs, hq, hx⟩ := hg
    obtain ⟨its, rv, p, hz⟩ := I.tuple hq
    obtain ⟨f0, f1, f2, f3, f4, f5⟩ := hf it (by simp)
    have hl := rv.length
    exact wpAny_pyNext_tuple_end (I.ok.hd hc) st (show s.heap.IsTuple a its.toArray from p) (by simp; omega) fun h' eb => ⟨rfl, I.turned (t' := s.toks) (fun b o hb e => eb b o hb e) f0 f1 f3 f4 f5⟩
  self := fun _ _ _ _ _ st h => wpAny_pyIter_tupleiter st h
theorem turn_range {P : Program} {w : World} {K : PySem.W.Frag} {tg : Expr} (it : Addr) (lo : Int) (n : Nat) : Turn P w K tg (Itr lo n) [it] it (fun i h => IsRangeIter h it (lo + (i : Nat) * 1) ((n : Int) - (i : Nat)) 1) where
  mem := by simp
  obj := fun i h st b hb => by
    have e : b = it := by simpa using hb
    subst e
    exact ⟨_, st, fun v z => by
      have z' : Data.fields _ = Data.cell v := z
      cases z'⟩
  keep := fun i h h' st k => k it (by simp) _ st
  item := by
    intro X hP hw hK hc i pins s σ H E I hf st hg
    subst hP hw hK
    obtain ⟨f0, f1, f2, f3, f4, f5⟩ := hf it (by simp)
    have W := Walks.range (prog := X.prog) (w := X.w) (I.ok.hd hc) it lo 1 n
    refine W.item i s _ _ hg st fun v h' tk hv st' kk => ?_
    obtain ⟨t, rfl⟩ := hv
    have I1 : Inv X pins σ H { s with heap := h', toks := tk } := I.turned (fun b o hb e => kk b o (by simpa using hb) e) f0 f1 f3 f4 f5
    refine ⟨_, rfl, go_of (s := { s with heap := h', toks := tk }) (n := "range_iterator") st' rfl rfl (by decide) ⟨.int (lo + i), H, I1, ⟨t, ?_⟩, ⟨rfl, rfl⟩, st', fun b hb => (hf b hb).1⟩⟩
    rw [Int.mul_one]
  done := by
    intro X hP hw hK hc i pins s σ H E I hf st hg
    subst hP hw hK
    obtain ⟨f0, f1, f2, f3, f4, f5⟩ := hf it (by simp)
    exact wpAny_pyNext_range_end (I.ok.hd hc) st (by have : n ≤ i := hg; omega) fun h' eb => ⟨rfl, I.turned (t' := s.toks) (fun b o hb e => eb b o hb e) f0 f1 f3 f4 f5⟩
  self := fun _ _ _ _ _ st h => wpAny_pyIter_rangeiter st h
end L2

namespace L2
open PySem PySem.Spec PyProof.Rows
section
variable {X : Cx} {tg : Expr}
def iList (K : PySem.W.Frag) (tl : TE) : TI := fun σ H R => tl σ H fun x H1 => ∃ a, x = .ref a ∧ (∃ xs, SqL K H1 a xs) ∧ R (Itl K a) H1
def iTup (K : PySem.W.Frag) (tl : TE) : TI := fun σ H R => tl σ H fun x H1 => ∃ a, x = .ref a ∧ (∃ xs, SqT K H1 a xs) ∧ R (Itt K a) H1
theorem pi_list {l : Expr} {tl : TE} (hl : PE X l tl) : PI X tg l (iList X.K tl) := by
  intro pins s σ H R I h
  refine thn (hl pins s σ H _ I h) fun v s1 ⟨x, H1, I1, r1, q1⟩ => ?_
  obtain ⟨a, e, ⟨xs, hq⟩, q⟩ := q1
  subst e
  cases r1
  obtain ⟨its, rv, p, hz⟩ := I1.list hq
  refine wpAny_pyIter_list p.isList ?_
  refine ⟨s1.heap.objs.size, [s1.heap.objs.size], _, _, H1, rfl, I1.kept (t' := s1.toks) fun b o e => Heap.get?_push_of_some _ e, turn_list a _, ⟨_, Heap.get?_push_size _ rfl, rfl, rfl⟩, fun b hb => ?_, q⟩
  have e : b = s1.heap.objs.size := by simpa using hb
  subst e
  exact I1.fpOk (Nat.le_refl _) (I1.hok.fresh (Nat.le_refl _))
theorem pi_tup {l : Expr} {tl : TE} (hl : PE X l tl) : PI X tg l (iTup X.K tl) := by
  intro pins s σ H R I h
  refine thn (hl pins s σ H _ I h) fun v s1 ⟨x, H1, I1, r1, q1⟩ => ?_
  obtain ⟨a, e, ⟨xs, hq⟩, q⟩ := q1
  subst e
  cases r1
  obtain ⟨its, rv, p, hz⟩ := I1.tuple hq
  refine wpAny_pyIter_tuple (show s1.heap.IsTuple a its.toArray from p) ?_
  refine ⟨s1.heap.objs.size, [s1.heap.objs.size], _, _, H1, rfl, I1.kept (t' := s1.toks) fun b o e => Heap.get?_push_of_some _ e, turn_tuple a _, ⟨_, Heap.get?_push_size _ rfl, rfl, rfl⟩, fun b hb => ?_, q⟩
  have e : b = s1.heap.objs.size := by simpa using hb
  subst e
  exact I1.fpOk (Nat.le_refl _) (I1.hok.fresh (Nat.le_refl _))
/-- a range object just made, walked -/
theorem range_it {pins : List (Addr × Obj)} {σ : St} {H : Hp} {s : Shared} {R : It → Hp → Prop} {E : Value → Shared → Prop} {lo hi : Int} {t u v : Tok} {tk : Nat} (I : Inv X pins σ H s) (h1 : -(2 ^ 62) ≤ lo) (h2 : lo < 2 ^ 62) (h3 : -(2 ^ 62) ≤ hi) (h4 : hi < 2 ^ 62)
    (q : R (Itr lo (hi - lo).toNat) H) : wpAny (model X.prog X.w) X.A (pyIter (.ref s.heap.objs.size)) (PIE X pins σ tg R) E { s with heap := s.heap.push { cls := .type "range", data := .fields #[.int lo t, .int hi u, .int 1 v] }, toks := tk } := by
  refine wpAny_pyIter_range (IsRange.new ..) (small_one h1 h2 h3 h4) ?_
  have I1 : Inv X pins σ H { s with heap := s.heap.push { cls := .type "range", data := .fields #[.int lo t, .int hi u, .int 1 v] }, toks := tk } := I.kept fun b o e => Heap.get?_push_of_some _ e
  refine ⟨(s.heap.push { cls := .type "range", data := .fields #[.int lo t, .int hi u, .int 1 v] }).objs.size, [(s.heap.push { cls := .type "range", data := .fields #[.int lo t, .int hi u, .int 1 v] }).objs.size], _, _, H, rfl,
    I1.kept (t' := tk) fun b o e => Heap.get?_push_of_some _ e, turn_range _ lo (hi - lo).toNat, ?_, fun b hb => ?_, q⟩
  · have e1 : lo + ((0 : Nat) : Int) * 1 = lo := by simp
    have e2 : (((hi - lo).toNat : Nat) : Int) - ((0 : Nat) : Int) = Builtin.Range.rangeSize lo hi 1 := by rw [rangeSize_one]; split <;> omega
    show IsRangeIter _ _ (lo + ((0 : Nat) : Int) * 1) ((((hi - lo).toNat : Nat) : Int) - ((0 : Nat) : Int)) 1
    rw [e1, e2]
    exact Heap.get?_push_size _ rfl
  · have e : b = (s.heap.push { cls := .type "range", data := .fields #[.int lo t, .int hi u, .int 1 v] }).objs.size := by simpa using hb
    subst e
    exact I1.fpOk (Nat.le_refl _) (I1.hok.fresh (Nat.le_refl _))
def iRng1 (ta : TA) : TI := fun σ H R => ta σ H fun vs H1 => ∃ j : Int, vs = [.int j] ∧ -(2 ^ 62) ≤ j ∧ j < 2 ^ 62 ∧ R (Itr 0 j.toNat) H1
def iRng2 (ta : TA) : TI := fun σ H R => ta σ H fun vs H1 => ∃ i j : Int, vs = [.int i, .int j] ∧ (-(2 ^ 62) ≤ i ∧ i < 2 ^ 62 ∧ -(2 ^ 62) ≤ j ∧ j < 2 ^ 62) ∧ R (Itr i (j - i).toNat) H1
theorem pi_range1 {a : Expr} {ta : TA} {p pos : Pos} (hg : Gl X "range") (hm : X.mg "range" = none) (ha : PA X [a] ta) (hs : starEach [a] X.env = [(false, eval a X.env)] := by rfl) : PI X tg (.Call (.Name "range" p) [a] [] pos) (iRng1 ta) := by
  intro pins s σ H R I h
  refine Call_ (ld_blt I hg hm boot_range (PyProof.Rows.callWith_type1 (thn (ha pos pins s σ H _ I h) fun us s1 ⟨vs, H1, I1, r1, q1⟩ => ?_) hs rfl))
  obtain ⟨j, e, q1, q2, q⟩ := q1
  subst e
  cases r1 with
  | cons r rr =>
    cases rr
    obtain ⟨t, rfl⟩ := r
    exact call_range_1 (range_it I1 (by omega) (by omega) q1 q2 (by simpa using q))
theorem pi_range2 {a b : Expr} {ta : TA} {p pos : Pos} (hg : Gl X "range") (hm : X.mg "range" = none) (ha : PA X [a, b] ta) (hs : starEach [a, b] X.env = [(false, eval a X.env), (false, eval b X.env)] := by rfl) (hs2 : starEach [b] X.env = [(false, eval b X.env)] := by rfl) :
    PI X tg (.Call (.Name "range" p) [a, b] [] pos) (iRng2 ta) := by
  intro pins s σ H R I h
  refine Call_ (ld_blt I hg hm boot_range (PyProof.Rows.callWith_type1 (thn (ha pos pins s σ H _ I h) fun us s1 ⟨vs, H1, I1, r1, q1⟩ => ?_) (by rw [hs, hs2]) (by rw [hs2]; rfl)))
  obtain ⟨i, j, e, ⟨q1, q2, q3, q4⟩, q⟩ := q1
  subst e
  cases r1 with
  | cons r rr =>
    cases rr with
    | cons r' rr =>
      cases rr
      obtain ⟨t, rfl⟩ := r
      obtain ⟨t', rfl⟩ := r'
      exact call_range_2 (range_it I1 q1 q2 q3 q4 q)

/-! ### for -/
/-- W: the invariant by the turn and a measure; N: what the body is to reach -/
def tFor (wi : TI) (g : TG) (tb : TS) : TS := fun D σ H => wi σ H fun J H1 => ∃ W : Nat → Nat → St → Hp → Prop, (∃ m, W 0 m σ H1) ∧ ∀ i m σ H, W i m σ H →
  (J.stop i H ∧ D.nx σ H) ∨ (J.go i H ∧ ∃ N : St → Hp → Prop, (∀ σ' H', N σ' H' → ∃ m', m' < m ∧ W (i + 1) m' σ' H') ∧ ∀ x H', J.yld i H x H' → g x σ H' fun σ2 H2 => tb { D with nx := N, ct := N, bk := D.nx } σ2 H2)
/-- the records at fp as they stand -/
def pinsAt (fp : List Addr) (h : Heap) : List (Addr × Obj) := fp.filterMap fun b => (h.get? b).map fun o => (b, o)
theorem mem_pinsAt {fp : List Addr} {h : Heap} {b : Addr} {o : Obj} (hb : b ∈ fp) (e : h.get? b = some o) : (b, o) ∈ pinsAt fp h := List.mem_filterMap.mpr ⟨b, hb, by rw [e]; rfl⟩
theorem of_pinsAt {fp : List Addr} {h : Heap} {p : Addr × Obj} (hp : p ∈ pinsAt fp h) : p.1 ∈ fp ∧ h.get? p.1 = some p.2 := by
  obtain ⟨b, hb, e⟩ := List.mem_filterMap.mp hp
  cases q : h.get? b with
  | none => rw [q] at e; cases e
  | some o =>
    rw [q] at e
    have e' : (b, o) = p := Option.some.inj e
    subst e'
    exact ⟨hb, q⟩
theorem Inv.pinned {pins : List (Addr × Obj)} {σ : St} {H : Hp} {s : Shared} {fp : List Addr} (I : Inv X pins σ H s) (hf : ∀ b ∈ fp, FpOk X pins H b) (ho : ∀ b ∈ fp, ∃ o, s.heap.get? b = some o ∧ ∀ v, o.data ≠ .cell v) : Inv X (pins ++ pinsAt fp s.heap) σ H s :=
  I.pins_of fun p hp => (List.mem_append.mp hp).elim (fun z => I.pin p (List.mem_append_right _ z)) fun z => by
    obtain ⟨hb, e⟩ := of_pinsAt z
    obtain ⟨f0, f1, f2, _⟩ := hf p.1 hb
    obtain ⟨o, e', d⟩ := ho p.1 hb
    rw [e] at e'; cases e'
    exact ⟨e, f0, f1, f2, d⟩
theorem Inv.unpinned {pins pl : List (Addr × Obj)} {σ : St} {H : Hp} {s : Shared} (I : Inv X (pins ++ pl) σ H s) : Inv X pins σ H s := I.pins_of fun p hp => I.pin p (List.mem_append_right _ (List.mem_append_left _ hp))
theorem ps_for {iter : Expr} {body : List Stmt} {wi : TI} {g : TG} {tb : TS} {pos : Pos} (hp : PassesOwn (model X.prog X.w) X.A X.env X.xe) (hc : X.calm = true) (hi : PI X tg iter wi) (hg : PG X tg g) (hb : PSs X body tb)
    (hs : ∀ x, foldedSetIterable iter X.env x = pure x := by intro _; rfl) : PS X (.For tg iter body [] pos) (tFor wi g tb) := by
  intro pins s σ H D I h
  refine wpAny_For (thn (hi pins s σ H _ I h) fun v s1 h1 => thn h1 fun itv s2 h2 => ?_) hs
  obtain ⟨it, fp, tn, J, H2, e, I2, T, st2, f2, W, ⟨m0, w0⟩, turn⟩ := h2
  subst e
  -- what stays true of the iterator's objects through the loop
  have stat : ∀ {H' : Hp}, (∀ b ∈ fp, H' b = none) → ∀ b ∈ fp, FpOk X pins H' b := fun hn b hb => ⟨hn b hb, (f2 b hb).2⟩
  refine codeAny_forLoop_any (fun n s' => ∃ i σ' H', Inv X pins σ' H' s' ∧ tn i s'.heap ∧ (∀ b ∈ fp, H' b = none) ∧ W i n σ' H') ?_ m0 ⟨0, σ, H2, I2, st2, fun b hb => (f2 b hb).1, w0⟩
  rintro n s3 ⟨i, σ3, H3, I3, st3, fr3, w3⟩
  rcases turn i n σ3 H3 w3 with ⟨stop, qn⟩ | ⟨go, N, hN, step⟩
  · refine wpAny_passesOwn hp (thn (T.done X rfl rfl rfl hc i pins s3 σ3 H3 X.xe I3 (stat fr3) st3 stop) fun r s4 ⟨hr, I4⟩ => ?_)
    subst hr
    exact wpAny_execs_nil ⟨σ3, H3, I4, qn⟩
  · refine wpAny_passesOwn hp (thn (T.item X rfl rfl rfl hc i pins s3 σ3 H3 X.xe I3 (stat fr3) st3 go) fun r s4 ⟨u, hr, h4⟩ => ?_)
    subst hr
    refine wpAny_passesOwn hp (thn h4 fun _ s5 ⟨x, H5, I5, r5, y5, st5, fr5⟩ => ?_)
    have I5' := I5.pinned (stat fr5) (T.obj _ _ st5)
    refine wpAny_passesOwn hp (thn (hg _ s5 σ3 H5 x u _ I5' r5 (step x H5 y5)) fun _ s6 ⟨σ6, H6, I6, q6⟩ => ?_)
    refine wpAny_passesOwn hp (thn (hb _ s6 σ6 H6 _ I6 q6) fun f s7 q7 => ?_)
    have again : ∀ {σ7 : St} {H7 : Hp}, Inv X (pins ++ pinsAt fp s5.heap) σ7 H7 s7 → N σ7 H7 → ∃ m, m < n ∧ ∃ i σ' H', Inv X pins σ' H' s7 ∧ tn i s7.heap ∧ (∀ b ∈ fp, H' b = none) ∧ W i m σ' H' := fun {σ7 H7} I7 n7 => by
      obtain ⟨m', hm, w7⟩ := hN σ7 H7 n7
      refine ⟨m', hm, i + 1, σ7, H7, I7.unpinned, T.keep _ _ _ st5 fun b hb o e => (I7.pin (b, o) (List.mem_append_right _ (List.mem_append_right _ (mem_pinsAt hb e)))).1, fun b hb => ?_, w7⟩
      obtain ⟨o, e, d⟩ := T.obj _ _ st5 b hb
      exact (I7.pin (b, o) (List.mem_append_right _ (List.mem_append_right _ (mem_pinsAt hb e)))).2.1
    cases f with
    | next => obtain ⟨σ7, H7, I7, n7⟩ := q7; exact again I7 n7
    | cont => obtain ⟨σ7, H7, I7, n7⟩ := q7; exact again I7 n7
    | brk => obtain ⟨σ7, H7, I7, q7⟩ := q7; exact ⟨σ7, H7, I7.unpinned, q7⟩
    | ret v => obtain ⟨x7, σ7, H7, I7, r7, q7⟩ := q7; exact ⟨x7, σ7, H7, I7.unpinned, r7, q7⟩
end

/-! ### the forms one uses -/
/-- over a list that the body leaves as it is -/
theorem for_list {K : PySem.W.Frag} {a : Addr} {xs : List V} {g : TG} {tb : TS} {D : Ends} {σ : St} {H : Hp} (Pv : Nat → St → Hp → Prop) (h0 : Pv 0 σ H) (hl : ∀ i σ H, i ≤ xs.length → Pv i σ H → SqL K H a xs)
    (hs : ∀ i x σ H, xs[i]? = some x → Pv i σ H → g x σ H fun σ2 H2 => tb { D with nx := Pv (i + 1), ct := Pv (i + 1), bk := D.nx } σ2 H2) (hd : ∀ σ H, Pv xs.length σ H → D.nx σ H) :
    ∃ W : Nat → Nat → St → Hp → Prop, (∃ m, W 0 m σ H) ∧ ∀ i m σ H, W i m σ H →
      ((Itl K a).stop i H ∧ D.nx σ H) ∨ ((Itl K a).go i H ∧ ∃ N : St → Hp → Prop, (∀ σ' H', N σ' H' → ∃ m', m' < m ∧ W (i + 1) m' σ' H') ∧ ∀ x H', (Itl K a).yld i H x H' → g x σ H' fun σ2 H2 => tb { D with nx := N, ct := N, bk := D.nx } σ2 H2) := by
  refine ⟨fun i m σ H => m = xs.length - i ∧ i ≤ xs.length ∧ Pv i σ H, ⟨xs.length, by simp, Nat.zero_le _, h0⟩, ?_⟩
  rintro i m σ H ⟨rfl, hi, p⟩
  have q := hl i σ H hi p
  by_cases hlt : i < xs.length
  · refine .inr ⟨⟨xs, xs[i], q, by simp [hlt]⟩, Pv (i + 1), fun σ' H' p' => ⟨xs.length - (i + 1), by omega, rfl, hlt, p'⟩, fun x H' y => ?_⟩
    obtain ⟨e, y⟩ := y
    subst e
    exact hs i x σ _ (y xs q) p
  · have e : i = xs.length := by omega
    subst e
    exact .inl ⟨⟨xs, q, Nat.le_refl _⟩, hd σ H p⟩
theorem for_tup {K : PySem.W.Frag} {a : Addr} {xs : List V} {g : TG} {tb : TS} {D : Ends} {σ : St} {H : Hp} (Pv : Nat → St → Hp → Prop) (h0 : Pv 0 σ H) (hl : ∀ i σ H, i ≤ xs.length → Pv i σ H → SqT K H a xs)
    (hs : ∀ i x σ H, xs[i]? = some x → Pv i σ H → g x σ H fun σ2 H2 => tb { D with nx := Pv (i + 1), ct := Pv (i + 1), bk := D.nx } σ2 H2) (hd : ∀ σ H, Pv xs.length σ H → D.nx σ H) :
    ∃ W : Nat → Nat → St → Hp → Prop, (∃ m, W 0 m σ H) ∧ ∀ i m σ H, W i m σ H →
      ((Itt K a).stop i H ∧ D.nx σ H) ∨ ((Itt K a).go i H ∧ ∃ N : St → Hp → Prop, (∀ σ' H', N σ' H' → ∃ m', m' < m ∧ W (i + 1) m' σ' H') ∧ ∀ x H', (Itt K a).yld i H x H' → g x σ H' fun σ2 H2 => tb { D with nx := N, ct := N, bk := D.nx } σ2 H2) := by
  refine ⟨fun i m σ H => m = xs.length - i ∧ i ≤ xs.length ∧ Pv i σ H, ⟨xs.length, by simp, Nat.zero_le _, h0⟩, ?_⟩
  rintro i m σ H ⟨rfl, hi, p⟩
  have q := hl i σ H hi p
  by_cases hlt : i < xs.length
  · refine .inr ⟨⟨xs, xs[i], q, by simp [hlt]⟩, Pv (i + 1), fun σ' H' p' => ⟨xs.length - (i + 1), by omega, rfl, hlt, p'⟩, fun x H' y => ?_⟩
    obtain ⟨e, y⟩ := y
    subst e
    exact hs i x σ _ (y xs q) p
  · have e : i = xs.length := by omega
    subst e
    exact .inl ⟨⟨xs, q, Nat.le_refl _⟩, hd σ H p⟩
theorem for_range {lo : Int} {n : Nat} {g : TG} {tb : TS} {D : Ends} {σ : St} {H : Hp} (Pv : Nat → St → Hp → Prop) (h0 : Pv 0 σ H)
    (hs : ∀ i σ H, i < n → Pv i σ H → g (.int (lo + i)) σ H fun σ2 H2 => tb { D with nx := Pv (i + 1), ct := Pv (i + 1), bk := D.nx } σ2 H2) (hd : ∀ σ H, Pv n σ H → D.nx σ H) :
    ∃ W : Nat → Nat → St → Hp → Prop, (∃ m, W 0 m σ H) ∧ ∀ i m σ H, W i m σ H →
      ((Itr lo n).stop i H ∧ D.nx σ H) ∨ ((Itr lo n).go i H ∧ ∃ N : St → Hp → Prop, (∀ σ' H', N σ' H' → ∃ m', m' < m ∧ W (i + 1) m' σ' H') ∧ ∀ x H', (Itr lo n).yld i H x H' → g x σ H' fun σ2 H2 => tb { D with nx := N, ct := N, bk := D.nx } σ2 H2) := by
  refine ⟨fun i m σ H => m = n - i ∧ i ≤ n ∧ Pv i σ H, ⟨n, by simp, Nat.zero_le _, h0⟩, ?_⟩
  rintro i m σ H ⟨rfl, hi, p⟩
  by_cases hlt : i < n
  · refine .inr ⟨hlt, Pv (i + 1), fun σ' H' p' => ⟨n - (i + 1), by omega, rfl, hlt, p'⟩, fun x H' y => ?_⟩
    obtain ⟨e, y⟩ := y
    subst e y
    exact hs i σ _ hlt p
  · have e : i = n := by omega
    subst e
    exact .inl ⟨Nat.le_refl _, hd σ H p⟩
/-- while, by a word and a measure of the state -/
theorem while_by {c : TT} {tb : TS} {D : Ends} {σ : St} {H : Hp} (Pv : St → Hp → Prop) (μ : St → Hp → Nat) (h0 : Pv σ H)
    (hs : ∀ σ H, Pv σ H → c σ H fun b H1 => if b = true then tb { D with nx := fun σ' H' => Pv σ' H' ∧ μ σ' H' < μ σ H, ct := fun σ' H' => Pv σ' H' ∧ μ σ' H' < μ σ H, bk := D.nx } σ H1 else D.nx σ H1)
    (mono : ∀ σ H Q Q', (∀ b H1, Q b H1 → Q' b H1) → c σ H Q → c σ H Q') : tWhile c tb D σ H := by
  refine ⟨fun m σ H => m = μ σ H ∧ Pv σ H, ⟨_, rfl, h0⟩, ?_⟩
  rintro m σ H ⟨rfl, p⟩
  refine mono σ H _ _ (fun b H1 q => ?_) (hs σ H p)
  cases b with
  | true => exact ⟨_, fun σ' H' ⟨p', l⟩ => ⟨_, l, rfl, p'⟩, q⟩
  | false => exact q
end L2

namespace L2
open PySem PySem.Spec PyProof.Rows

abbrev R2 := V → V → Hp → VK → Prop
/-- a two-place operation on values: f is binaryOp op, inplaceOp op or compareOp op -/
def OpR (X : Cx) (f : Value → Value → Sem Value) (r : R2) : Prop :=
  ∀ (pins : List (Addr × Obj)) (s : Shared) (σ : St) (H : Hp) (x y : V) (v u : Value) (Q : VK), Inv X pins σ H s → RelV x v → RelV y u → r x y H Q →
    wpAny (model X.prog X.w) X.A (f v u) (EP X pins σ Q) X.xe s
/-- a one-place operation -/
def UnR (X : Cx) (f : Value → Sem Value) (r : V → Hp → VK → Prop) : Prop :=
  ∀ (pins : List (Addr × Obj)) (s : Shared) (σ : St) (H : Hp) (x : V) (v : Value) (Q : VK), Inv X pins σ H s → RelV x v → r x H Q →
    wpAny (model X.prog X.w) X.A (f v) (EP X pins σ Q) X.xe s
/-- a call of a value that is known (a builtin, a type) with values -/
def CallR (X : Cx) (f : Value) (r : List V → Hp → VK → Prop) : Prop :=
  ∀ (pins : List (Addr × Obj)) (s : Shared) (σ : St) (H : Hp) (xs : List V) (us : List Value) (Q : VK), Inv X pins σ H s → Vals xs us → r xs H Q →
    wpAny (model X.prog X.w) X.A (call f us) (EP X pins σ Q) X.xe s
/-- a value's truth -/
def TruR (X : Cx) (r : V → Hp → (Bool → Hp → Prop) → Prop) : Prop :=
  ∀ (pins : List (Addr × Obj)) (s : Shared) (σ : St) (H : Hp) (x : V) (v : Value) (Q : Bool → Hp → Prop), Inv X pins σ H s → RelV x v → r x H Q →
    wpAny (model X.prog X.w) X.A (truthy v) (TP X pins σ Q) X.xe s

def tOp (r : R2) (ta tb : TE) : TE := fun σ H Q => ta σ H fun x H1 => tb σ H1 fun y H2 => r x y H2 Q
def tUn (r : V → Hp → VK → Prop) (ta : TE) : TE := fun σ H Q => ta σ H fun x H1 => r x H1 Q
/-- ints in, under C, and a value out -/
def rI (C : Int → Int → Prop) (g : Int → Int → V) : R2 := fun x y H Q => ∃ i j, x = .int i ∧ y = .int j ∧ C i j ∧ Q (g i j) H
def rI0 (g : Int → Int → V) : R2 := fun x y H Q => ∃ i j, x = .int i ∧ y = .int j ∧ Q (g i j) H
def rU (g : Int → V) : V → Hp → VK → Prop := fun x H Q => ∃ i, x = .int i ∧ Q (g i) H

section
variable {X : Cx} {a b c : Expr} {ta tb tc : TE} {pos : Pos}

theorem binT (ha : PE X a ta) (hb : PE X b tb) {pins : List (Addr × Obj)} {s : Shared} {σ : St} {H : Hp} {R : V → V → Hp → Prop} (I : Inv X pins σ H s)
    (h : ta σ H fun x H1 => tb σ H1 fun y H2 => R x y H2) {Q : Value → Shared → Prop} {f : Value → Value → Sem Value}
    (hf : ∀ v u s2 x y H2, Inv X pins σ H2 s2 → RelV x v → RelV y u → R x y H2 → wpAny (model X.prog X.w) X.A (f v u) Q X.xe s2) :
    wpAny (model X.prog X.w) X.A (eval a X.env) (fun v s₁ => wpAny (model X.prog X.w) X.A (eval b X.env) (fun u s₂ => wpAny (model X.prog X.w) X.A (f v u) Q X.xe s₂) X.xe s₁) X.xe s := by
  refine thn (ha pins s σ H _ I h) fun v s1 ⟨x, H1, I1, r1, q1⟩ => ?_
  refine thn (hb pins s1 σ H1 _ I1 q1) fun u s2 ⟨y, H2, I2, r2, q2⟩ => ?_
  exact hf v u s2 x y H2 I2 r1 r2 q2

theorem pe_op {op : Operator} {r : R2} (ho : OpR X (binaryOp op) r) (ha : PE X a ta) (hb : PE X b tb) : PE X (.BinOp a op b pos) (tOp r ta tb) := by
  intro pins s σ H Q I h
  exact wpAny_BinOp (binT ha hb I h fun v u s2 x y H2 I2 rx ry q => ho pins s2 σ H2 x y v u Q I2 rx ry q)
theorem pe_un {op : UnaryOp} {r : V → Hp → VK → Prop} (ho : UnR X (unaryOp op) r) (ha : PE X a ta) : PE X (.UnaryOp op a pos) (tUn r ta) := by
  intro pins s σ H Q I h
  exact UnaryOp_ (thn (ha pins s σ H _ I h) fun v s1 ⟨x, H1, I1, r1, q1⟩ => ho pins s1 σ H1 x v Q I1 r1 q1)
/-- a op= e at a name: the name's slot i -/
theorem augR {op : Operator} {r : R2} (ho : OpR X (inplaceOp op) r) {pins : List (Addr × Obj)} {s : Shared} {σ : St} {H : Hp} {x y : V} {v u : Value} {Q : VK} (I : Inv X pins σ H s)
    (rx : RelV x v) (ry : RelV y u) (q : r x y H Q) : wpAny (model X.prog X.w) X.A (inplaceOp op v u) (EP X pins σ Q) X.xe s := ho pins s σ H x y v u Q I rx ry q

/-! ### ints -/
theorem opI {f : Value → Value → Sem Value} {C : Int → Int → Prop} {g : Int → Int → Int}
    (rule : ∀ (i j : Int) (t u : Tok) (s : Shared) (Q : Value → Shared → Prop) (E : Value → Shared → Prop), C i j → Q (.int (g i j) s.toks) { s with toks := s.toks + 1 } → wpAny (model X.prog X.w) X.A (f (.int i t) (.int j u)) Q E s) :
    OpR X f (rI C fun i j => .int (g i j)) := by
  intro pins s σ H x y v u Q I rx ry h
  obtain ⟨i, j, rfl, rfl, hc, q⟩ := h
  obtain ⟨t, rfl⟩ := rx
  obtain ⟨t', rfl⟩ := ry
  exact rule i j t t' s _ _ hc ⟨.int (g i j), H, I.tok _, ⟨_, rfl⟩, q⟩
theorem opI0 {f : Value → Value → Sem Value} {g : Int → Int → Int}
    (rule : ∀ (i j : Int) (t u : Tok) (s : Shared) (Q : Value → Shared → Prop) (E : Value → Shared → Prop), Q (.int (g i j) s.toks) { s with toks := s.toks + 1 } → wpAny (model X.prog X.w) X.A (f (.int i t) (.int j u)) Q E s) :
    OpR X f (rI0 fun i j => .int (g i j)) := by
  intro pins s σ H x y v u Q I rx ry h
  obtain ⟨i, j, rfl, rfl, q⟩ := h
  obtain ⟨t, rfl⟩ := rx
  obtain ⟨t', rfl⟩ := ry
  exact rule i j t t' s _ _ ⟨.int (g i j), H, I.tok _, ⟨_, rfl⟩, q⟩
theorem opB0 {f : Value → Value → Sem Value} {g : Int → Int → Bool}
    (rule : ∀ (i j : Int) (t u : Tok) (s : Shared) (Q : Value → Shared → Prop) (E : Value → Shared → Prop), Q (.bool (g i j)) s → wpAny (model X.prog X.w) X.A (f (.int i t) (.int j u)) Q E s) :
    OpR X f (rI0 fun i j => .bl (g i j)) := by
  intro pins s σ H x y v u Q I rx ry h
  obtain ⟨i, j, rfl, rfl, q⟩ := h
  obtain ⟨t, rfl⟩ := rx
  obtain ⟨t', rfl⟩ := ry
  exact rule i j t t' s _ _ ⟨.bl (g i j), H, I, rfl, q⟩

def CDiv (i j : Int) : Prop := 0 < j ∧ j < 1073741824
def CDivN (i j : Int) : Prop := j ≠ 0 ∧ j.natAbs < 1073741824
def CPow (i j : Int) : Prop := 0 ≤ j ∧ j ≤ 1000000 ∧ i.natAbs < 2 ^ 64
def CMul (i j : Int) : Prop := (-(2 ^ 64) < i ∧ i < 2 ^ 64) ∨ (-(2 ^ 64) < j ∧ j < 2 ^ 64)
theorem CMul.ok {i j : Int} (h : CMul i j) : IntMulOk i j := by
  rcases h with ⟨h1, h2⟩ | ⟨h1, h2⟩
  · exact .of_left (intBits_le_64 h1 h2)
  · exact .of_right (intBits_le_64 h1 h2)
theorem two_pow_nn (k : Nat) : (0 : Int) ≤ 2 ^ k := by
  rw [two_pow_cast]
  exact Int.natCast_nonneg _

theorem op_add : OpR X (binaryOp .Add) (rI0 fun i j => .int (i + j)) := opI0 fun _ _ _ _ _ _ _ q => add_int q
theorem op_sub : OpR X (binaryOp .Sub) (rI0 fun i j => .int (i - j)) := opI0 fun _ _ _ _ _ _ _ q => sub_int q
theorem op_mul : OpR X (binaryOp .Mult) (rI CMul fun i j => .int (i * j)) := opI fun _ _ _ _ _ _ _ hc q => mul_int q hc.ok
/-- // by a positive divisor -/
theorem op_fdiv : OpR X (binaryOp .FloorDiv) (rI CDiv fun i j => .int (i / j)) := opI fun i j _ _ _ _ _ hc q => by
  have h1 : (0 : Int) < j := hc.1
  have h2 : j < 1073741824 := hc.2
  exact floordiv_int (by omega) (by rw [Int.fdiv_eq_ediv_of_nonneg i (by omega)]; exact q) (.inl (PyProof.noPylong_small (by omega)))
theorem op_fdivN : OpR X (binaryOp .FloorDiv) (rI CDivN fun i j => .int (i.fdiv j)) := opI fun _ _ _ _ _ _ _ hc q => floordiv_int hc.1 q (.inl (PyProof.noPylong_small hc.2))
/-- % by a positive divisor of any size -/
theorem op_mod : OpR X (binaryOp .Mod) (rI (fun _ j => 0 < j) fun i j => .int (i % j)) := opI fun i j _ _ _ _ _ hc q => by
  have h1 : (0 : Int) < j := hc
  exact mod_int' (by omega) (by rw [Int.fmod_eq_emod_of_nonneg i (by omega)]; exact q)
theorem op_modN : OpR X (binaryOp .Mod) (rI (fun _ j => j ≠ 0) fun i j => .int (i.fmod j)) := opI fun _ _ _ _ _ _ _ hc q => mod_int' hc q
theorem op_pow : OpR X (binaryOp .Pow) (rI CPow fun i j => .int (i ^ j.toNat)) := opI fun _ _ _ _ _ _ _ hc q => pow_int_small hc.1 hc.2.1 hc.2.2 q
theorem op_shl : OpR X (binaryOp .LShift) (rI CPow fun i j => .int (i * 2 ^ j.toNat)) := opI fun _ _ _ _ _ _ _ hc q => lshift_int_small hc.1 hc.2.1 hc.2.2 q
theorem op_shr : OpR X (binaryOp .RShift) (rI (fun _ j => 0 ≤ j) fun i j => .int (i / 2 ^ j.toNat)) := opI fun i j _ _ _ _ _ hc q =>
  rshift_int hc (by rw [Int.fdiv_eq_ediv_of_nonneg i (two_pow_nn _)]; exact q)
theorem op_and : OpR X (binaryOp .BitAnd) (rI0 fun i j => .int (Builtin.bitAnd i j)) := opI0 fun _ _ _ _ _ _ _ q => and_int q
theorem op_or : OpR X (binaryOp .BitOr) (rI0 fun i j => .int (Builtin.bitOr i j)) := opI0 fun _ _ _ _ _ _ _ q => or_int q
theorem op_xor : OpR X (binaryOp .BitXor) (rI0 fun i j => .int (Builtin.bitXor i j)) := opI0 fun _ _ _ _ _ _ _ q => xor_int q

theorem iop_add : OpR X (inplaceOp .Add) (rI0 fun i j => .int (i + j)) := opI0 fun _ _ _ _ _ _ _ q => iadd_int q
theorem iop_sub : OpR X (inplaceOp .Sub) (rI0 fun i j => .int (i - j)) := opI0 fun _ _ _ _ _ _ _ q => isub_int q
theorem iop_mul : OpR X (inplaceOp .Mult) (rI CMul fun i j => .int (i * j)) := opI fun _ _ _ _ _ _ _ hc q => imul_int q hc.ok
theorem iop_fdiv : OpR X (inplaceOp .FloorDiv) (rI CDiv fun i j => .int (i / j)) := opI fun i j _ _ _ _ _ hc q => by
  have h1 : (0 : Int) < j := hc.1
  have h2 : j < 1073741824 := hc.2
  exact ifloordiv_int (by omega) (by rw [Int.fdiv_eq_ediv_of_nonneg i (by omega)]; exact q) (.inl (PyProof.noPylong_small (by omega)))
theorem iop_mod : OpR X (inplaceOp .Mod) (rI (fun _ j => 0 < j) fun i j => .int (i % j)) := opI fun i j _ _ _ _ _ hc q => by
  have h1 : (0 : Int) < j := hc
  exact imod_int (by omega) (by rw [Int.fmod_eq_emod_of_nonneg i (by omega)]; exact q)
theorem iop_shl : OpR X (inplaceOp .LShift) (rI CPow fun i j => .int (i * 2 ^ j.toNat)) := opI fun _ _ _ _ _ _ _ hc q => ilshift_int_small hc.1 hc.2.1 hc.2.2 q
theorem iop_shr : OpR X (inplaceOp .RShift) (rI (fun _ j => 0 ≤ j) fun i j => .int (i / 2 ^ j.toNat)) := opI fun i j _ _ _ _ _ hc q =>
  irshift_int hc (by rw [Int.fdiv_eq_ediv_of_nonneg i (two_pow_nn _)]; exact q)
theorem iop_and : OpR X (inplaceOp .BitAnd) (rI0 fun i j => .int (Builtin.bitAnd i j)) := opI0 fun _ _ _ _ _ _ _ q => iand_int q
theorem iop_or : OpR X (inplaceOp .BitOr) (rI0 fun i j => .int (Builtin.bitOr i j)) := opI0 fun _ _ _ _ _ _ _ q => ior_int q
theorem iop_xor : OpR X (inplaceOp .BitXor) (rI0 fun i j => .int (Builtin.bitXor i j)) := opI0 fun _ _ _ _ _ _ _ q => ixor_int q

theorem unI {f : Value → Sem Value} {g : Int → Int}
    (rule : ∀ (i : Int) (t : Tok) (s : Shared) (Q : Value → Shared → Prop) (E : Value → Shared → Prop), Q (.int (g i) s.toks) { s with toks := s.toks + 1 } → wpAny (model X.prog X.w) X.A (f (.int i t)) Q E s) :
    UnR X f (rU fun i => .int (g i)) := by
  intro pins s σ H x v Q I rx h
  obtain ⟨i, rfl, q⟩ := h
  obtain ⟨t, rfl⟩ := rx
  exact rule i t s _ _ ⟨.int (g i), H, I.tok _, ⟨_, rfl⟩, q⟩
theorem un_neg : UnR X (unaryOp .USub) (rU fun i => .int (-i)) := unI fun _ _ _ _ _ q => neg_int q
theorem un_inv : UnR X (unaryOp .Invert) (rU fun i => .int (Builtin.bitNot i)) := unI fun _ _ _ _ _ q => invert_int q

/-! ### bools among ints: n += (a < b) -/
theorem op_add_ib : OpR X (binaryOp .Add) (fun x y H Q => ∃ i k, x = .int i ∧ y = .bl k ∧ Q (.int (i + b2i k)) H) := by
  intro pins s σ H x y v u Q I rx ry h
  obtain ⟨i, k, rfl, rfl, q⟩ := h
  obtain ⟨t, rfl⟩ := rx
  cases ry
  exact add_int_bool ⟨.int (i + b2i k), H, I.tok _, ⟨_, rfl⟩, q⟩
end

/-! ### comparisons -/
/-- the scalars that == tells apart as data does -/
def scal : V → V → Bool
  | .non, .non => true | .non, .int _ => true | .int _, .non => true | .non, .bl _ => true | .bl _, .non => true | .non, .str _ => true | .str _, .non => true
  | .int _, .int _ => true | .bl _, .bl _ => true | .str _, .str _ => true | .byt _, .byt _ => true
  | .int _, .str _ => true | .str _, .int _ => true | .bl _, .str _ => true | .str _, .bl _ => true
  | _, _ => false
def rEq : R2 := fun x y H Q => scal x y = true ∧ Q (.bl (decide (x = y))) H
def rNe : R2 := fun x y H Q => scal x y = true ∧ Q (.bl (!decide (x = y))) H

theorem dec_int {i j : Int} : decide (V.int i = V.int j) = (i == j) := by
  rw [Bool.eq_iff_iff]
  simp
theorem dec_bl {i j : Bool} : decide (V.bl i = V.bl j) = (i == j) := by
  rw [Bool.eq_iff_iff]
  simp
theorem dec_str {i j : Str} : decide (V.str i = V.str j) = (i == j) := by
  rw [Bool.eq_iff_iff]
  simp
theorem dec_byt {i j : Array UInt8} : decide (V.byt i = V.byt j) = (i.toList == j.toList) := by
  rw [Bool.eq_iff_iff]
  cases i
  cases j
  simp

section
variable {X : Cx} {a b c : Expr} {ta tb tc : TE} {pos : Pos}
theorem fin_bl {pins : List (Addr × Obj)} {σ : St} {H : Hp} {s : Shared} {Q : VK} {k k' : Bool} (I : Inv X pins σ H s) (q : Q (.bl k) H) (e : k = k') : EP X pins σ Q (.bool k') s := by
  subst e
  exact ⟨.bl k, H, I, rfl, q⟩
theorem op_eq : OpR X (compareOp .Eq) rEq := by
  intro pins s σ H x y v u Q I rx ry h
  obtain ⟨hs, q⟩ := h
  cases x with
  | non =>
    cases rx
    cases y with
    | non => cases ry; exact PySem.EqNone.eq_none_none (fin_bl I q (by simp))
    | bl j => cases ry; exact PySem.EqNone.eq_none_bool (fin_bl I q (by simp))
    | int j => obtain ⟨t', rfl⟩ := ry; exact PySem.EqNone.eq_none_int (fin_bl I q (by simp))
    | str j => obtain ⟨t', rfl⟩ := ry; exact PySem.EqNone.eq_none_str (fin_bl I q (by simp))
    | _ => exact absurd (show false = true from hs) Bool.false_ne_true
  | bl i =>
    cases rx
    cases y with
    | non => cases ry; exact PySem.EqNone.eq_bool_none (fin_bl I q (by simp))
    | bl j => cases ry; exact eq_bool (fin_bl I q dec_bl)
    | str j => obtain ⟨t', rfl⟩ := ry; exact PySem.EqMixed.eq_bool_str (fin_bl I q (by simp))
    | _ => exact absurd (show false = true from hs) Bool.false_ne_true
  | int i =>
    obtain ⟨t, rfl⟩ := rx
    cases y with
    | non => cases ry; exact PySem.EqNone.eq_int_none (fin_bl I q (by simp))
    | int j => obtain ⟨t', rfl⟩ := ry; exact eq_int (fin_bl I q dec_int)
    | str j => obtain ⟨t', rfl⟩ := ry; exact PySem.EqMixed.eq_int_str (fin_bl I q (by simp))
    | _ => exact absurd (show false = true from hs) Bool.false_ne_true
  | str i =>
    obtain ⟨t, rfl⟩ := rx
    cases y with
    | non => cases ry; exact PySem.EqNone.eq_str_none (fin_bl I q (by simp))
    | bl j => cases ry; exact PySem.EqMixed.eq_str_bool (fin_bl I q (by simp))
    | int j => obtain ⟨t', rfl⟩ := ry; exact PySem.EqMixed.eq_str_int (fin_bl I q (by simp))
    | str j => obtain ⟨t', rfl⟩ := ry; exact eq_str (fin_bl I q dec_str)
    | _ => exact absurd (show false = true from hs) Bool.false_ne_true
  | byt i =>
    obtain ⟨t, rfl⟩ := rx
    cases y with
    | byt j => obtain ⟨t', rfl⟩ := ry; exact PySem.W.eq_bytes (fin_bl I q dec_byt)
    | _ => exact absurd (show false = true from hs) Bool.false_ne_true
  | _ => cases y <;> exact absurd (show false = true from hs) Bool.false_ne_true
theorem op_ne : OpR X (compareOp .NotEq) rNe := by
  intro pins s σ H x y v u Q I rx ry h
  obtain ⟨hs, q⟩ := h
  cases x with
  | non =>
    cases rx
    cases y with
    | non => cases ry; exact PySem.EqNone.ne_none_none (fin_bl I q (by simp))
    | bl j => cases ry; exact PySem.EqNone.ne_none_bool (fin_bl I q (by simp))
    | int j => obtain ⟨t', rfl⟩ := ry; exact PySem.EqNone.ne_none_int (fin_bl I q (by simp))
    | str j => obtain ⟨t', rfl⟩ := ry; exact PySem.EqNone.ne_none_str (fin_bl I q (by simp))
    | _ => exact absurd (show false = true from hs) Bool.false_ne_true
  | bl i =>
    cases rx
    cases y with
    | non => cases ry; exact PySem.EqNone.ne_bool_none (fin_bl I q (by simp))
    | bl j => cases ry; exact ne_bool (fin_bl I q (congrArg not dec_bl))
    | str j => obtain ⟨t', rfl⟩ := ry; exact PySem.EqMixed.ne_bool_str (fin_bl I q (by simp))
    | _ => exact absurd (show false = true from hs) Bool.false_ne_true
  | int i =>
    obtain ⟨t, rfl⟩ := rx
    cases y with
    | non => cases ry; exact PySem.EqNone.ne_int_none (fin_bl I q (by simp))
    | int j => obtain ⟨t', rfl⟩ := ry; exact ne_int (fin_bl I q (congrArg not dec_int))
    | str j => obtain ⟨t', rfl⟩ := ry; exact PySem.EqMixed.ne_int_str (fin_bl I q (by simp))
    | _ => exact absurd (show false = true from hs) Bool.false_ne_true
  | str i =>
    obtain ⟨t, rfl⟩ := rx
    cases y with
    | non => cases ry; exact PySem.EqNone.ne_str_none (fin_bl I q (by simp))
    | bl j => cases ry; exact PySem.EqMixed.ne_str_bool (fin_bl I q (by simp))
    | int j => obtain ⟨t', rfl⟩ := ry; exact PySem.EqMixed.ne_str_int (fin_bl I q (by simp))
    | str j => obtain ⟨t', rfl⟩ := ry; exact ne_str (fin_bl I q (congrArg not dec_str))
    | _ => exact absurd (show false = true from hs) Bool.false_ne_true
  | byt i =>
    obtain ⟨t, rfl⟩ := rx
    cases y with
    | byt j => obtain ⟨t', rfl⟩ := ry; exact PySem.W.ne_bytes (fin_bl I q (congrArg not dec_byt))
    | _ => exact absurd (show false = true from hs) Bool.false_ne_true
  | _ => cases y <;> exact absurd (show false = true from hs) Bool.false_ne_true

theorem op_lt : OpR X (compareOp .Lt) (rI0 fun i j => .bl (decide (i < j))) := opB0 fun _ _ _ _ _ _ _ q => lt_int q
theorem op_le : OpR X (compareOp .LtE) (rI0 fun i j => .bl (decide (i ≤ j))) := opB0 fun _ _ _ _ _ _ _ q => le_int q
theorem op_gt : OpR X (compareOp .Gt) (rI0 fun i j => .bl (decide (j < i))) := opB0 fun _ _ _ _ _ _ _ q => gt_int q
theorem op_ge : OpR X (compareOp .GtE) (rI0 fun i j => .bl (decide (j ≤ i))) := opB0 fun _ _ _ _ _ _ _ q => ge_int q
theorem op_lt_str : OpR X (compareOp .Lt) (fun x y H Q => ∃ i j, x = .str i ∧ y = .str j ∧ Q (.bl (decide (i.cps.toList < j.cps.toList))) H) := by
  intro pins s σ H x y v u Q I rx ry h
  obtain ⟨i, j, rfl, rfl, q⟩ := h
  obtain ⟨t, rfl⟩ := rx
  obtain ⟨t', rfl⟩ := ry
  exact lt_str (fin_bl I q rfl)
/-- the one string within the other -/
theorem op_in_str : OpR X (compareOp .In) (fun x y H Q => ∃ i j, x = .str i ∧ y = .str j ∧ Q (.bl (!(Builtin.Str.occurrences j i 0 j.length 1).isEmpty)) H) := by
  intro pins s σ H x y v u Q I rx ry h
  obtain ⟨i, j, rfl, rfl, q⟩ := h
  obtain ⟨t, rfl⟩ := rx
  obtain ⟨t', rfl⟩ := ry
  exact in_str (fin_bl I q rfl)

/-- is None, is not None: the right side a value none -/
theorem op_isN : OpR X (compareOp .Is) (fun x y H Q => y = .non ∧ Q (.bl (decide (x = .non))) H) := by
  intro pins s σ H x y v u Q I rx ry h
  obtain ⟨rfl, q⟩ := h
  cases ry
  refine is_none_gen (fin_bl I q ?_)
  cases x <;> first
    | (cases rx; rfl)
    | (obtain ⟨t, rfl⟩ := rx; rfl)
theorem op_notN : OpR X (compareOp .IsNot) (fun x y H Q => y = .non ∧ Q (.bl (!decide (x = .non))) H) := by
  intro pins s σ H x y v u Q I rx ry h
  obtain ⟨rfl, q⟩ := h
  cases ry
  refine isnot_none_gen (fin_bl I q ?_)
  cases x <;> first
    | (cases rx; rfl)
    | (obtain ⟨t, rfl⟩ := rx; rfl)

theorem op_notin_str : OpR X (compareOp .NotIn) (fun x y H Q => ∃ i j, x = .str i ∧ y = .str j ∧ Q (.bl (!(!(Builtin.Str.occurrences j i 0 j.length 1).isEmpty))) H) := by
  intro pins s σ H x y v u Q I rx ry h
  obtain ⟨i, j, rfl, rfl, q⟩ := h
  obtain ⟨t, rfl⟩ := rx
  obtain ⟨t', rfl⟩ := ry
  exact notIn_str (fin_bl I q rfl)
/-- is, is not of two objects that are tracked lists or instances -/
def isObj : HO → Bool
  | .lst _ => true
  | .ins _ _ _ => true
  | _ => false
theorem obj_there {pins : List (Addr × Obj)} {s : Shared} {σ : St} {H : Hp} {a : Addr} {o : HO} (I : Inv X pins σ H s) (h : H a = some o) (p : isObj o = true) : ∃ ob, s.heap.get? a = some ob ∧ ob.cls ≠ .type "tuple" := by
  cases o with
  | lst xs =>
    obtain ⟨_, its, n, _, e⟩ : xs.length ≤ sizeLine ∧ ∃ (its : List Value) (n : Nat), Vals xs its ∧ s.heap.get? a = some { cls := .type "list", data := .seq its.toArray n } := I.hok a _ h
    exact ⟨_, e, (by show Value.type "list" ≠ .type "tuple"; decide +kernel)⟩
  | ins C dx fs =>
    have x := I.hok a _ h
    obtain ⟨_, _, _, e, _⟩ := x
    exact ⟨_, e, (by show Value.ref C ≠ .type "tuple"; exact fun z => by cases z)⟩
  | _ => exact absurd (show false = true from p) Bool.false_ne_true
theorem op_is_ref : OpR X (compareOp .Is) (fun x y H Q => ∃ a b oa ob, x = .ref a ∧ y = .ref b ∧ H a = some oa ∧ isObj oa = true ∧ H b = some ob ∧ isObj ob = true ∧ Q (.bl (decide (a = b))) H) := by
  intro pins s σ H x y v u Q I rx ry h
  obtain ⟨a, b, oa, ob, rfl, rfl, ha, pa, hb, pb, q⟩ := h
  cases rx
  cases ry
  obtain ⟨o1, e1, n1⟩ := obj_there I ha pa
  obtain ⟨o2, e2, _⟩ := obj_there I hb pb
  by_cases z : a = b
  · subst z
    exact wpAny_is_ref_self (fin_bl I q (by simp))
  · exact wpAny_is_ref_other z e1 e2 n1 (fin_bl I q (by simp [z]))
theorem op_isnot_ref : OpR X (compareOp .IsNot) (fun x y H Q => ∃ a b oa ob, x = .ref a ∧ y = .ref b ∧ H a = some oa ∧ isObj oa = true ∧ H b = some ob ∧ isObj ob = true ∧ Q (.bl (!decide (a = b))) H) := by
  intro pins s σ H x y v u Q I rx ry h
  obtain ⟨a, b, oa, ob, rfl, rfl, ha, pa, hb, pb, q⟩ := h
  cases rx
  cases ry
  obtain ⟨o1, e1, n1⟩ := obj_there I ha pa
  obtain ⟨o2, e2, _⟩ := obj_there I hb pb
  by_cases z : a = b
  · subst z
    exact wpAny_isNot_ref_self (fin_bl I q (by simp))
  · exact wpAny_isNot_ref_other z e1 e2 n1 (fin_bl I q (by simp [z]))

/-- two rules for one operation: by cases -/
theorem OpR.or {f : Value → Value → Sem Value} {r r' : R2} (h : OpR X f r) (h' : OpR X f r') : OpR X f (fun x y H Q => r x y H Q ∨ r' x y H Q) := by
  intro pins s σ H x y v u Q I rx ry q
  rcases q with q | q
  · exact h pins s σ H x y v u Q I rx ry q
  · exact h' pins s σ H x y v u Q I rx ry q

theorem nomark (b : Expr) {op : CmpOp} (h : op ≠ .In := by decide) (h2 : op ≠ .NotIn := by decide) : behindInMarks op b = false := by
  have e1 : (op == CmpOp.In) = false := by cases op <;> first | rfl | exact absurd rfl h
  have e2 : (op == CmpOp.NotIn) = false := by cases op <;> first | rfl | exact absurd rfl h2
  cases b <;> simp [behindInMarks, e1, e2]
/-- a comparison as a value; hm: nomark b, or (for in, not in) by with_unfolding_all rfl -/
theorem pe_cmpR {op : CmpOp} {r : R2} (ho : OpR X (compareOp op) r) (ha : PE X a ta) (hb : PE X b tb) (hm : behindInMarks op b = false) : PE X (.Compare a [op] [b] pos) (tOp r ta tb) := by
  intro pins s σ H Q I h
  exact wpAny_Compare1 (binT ha hb I h fun v u s2 x y H2 I2 rx ry q => ho pins s2 σ H2 x y v u Q I2 rx ry q) hm
/-- a reading of a value as a test -/
def tTest (t : TE) : TT := fun σ H Q => t σ H fun x H' => ∃ k, x = .bl k ∧ Q k H'
theorem pt_cmpR {op : CmpOp} {r : R2} (ho : OpR X (compareOp op) r) (ha : PE X a ta) (hb : PE X b tb) (hm : behindInMarks op b = false) : PT X (.Compare a [op] [b] pos) (tTest (tOp r ta tb)) := by
  intro pins s σ H Q I h
  refine wpAny_isTrue_Compare1 (thn (ha pins s σ H _ I h) fun v s1 ⟨x, H1, I1, r1, q1⟩ => thn (hb pins s1 σ H1 _ I1 q1) fun u s2 ⟨y, H2, I2, r2, q2⟩ =>
    thn (ho pins s2 σ H2 x y v u _ I2 r1 r2 q2) fun c s3 ⟨z, H3, I3, r3, k, e, q3⟩ => ?_) hm
  subst e
  cases r3
  exact wpAny_truthy_bool ⟨H3, I3, q3⟩
/-- a op1 b op2 c -/
def tChain (r r' : R2) (ta tb tc : TE) : TE := fun σ H Q => ta σ H fun x H1 => tb σ H1 fun y H2 => r x y H2 fun z H3 => ∃ k, z = .bl k ∧
  (if k = true then tc σ H3 fun w' H4 => r' y w' H4 Q else Q (.bl false) H3)
theorem pe_chain {op op' : CmpOp} {r r' : R2} (ho : OpR X (compareOp op) r) (ho' : OpR X (compareOp op') r') (ha : PE X a ta) (hb : PE X b tb) (hc : PE X c tc)
    (hm : lastMarks [op, op'] [b, c] = false := by with_unfolding_all rfl) : PE X (.Compare a [op, op'] [b, c] pos) (tChain r r' ta tb tc) := by
  intro pins s σ H Q I h
  refine Compare_chain (thn (ha pins s σ H _ I h) fun v s1 ⟨x, H1, I1, r1, q1⟩ => chain_link (thn (hb pins s1 σ H1 _ I1 q1) fun u s2 ⟨y, H2, I2, r2, q2⟩ =>
    thn (ho pins s2 σ H2 x y v u _ I2 r1 r2 q2) fun d s3 ⟨z, H3, I3, r3, k, e, q3⟩ => ?_)) hm
  subst e
  cases r3
  refine wpAny_truthy_bool ?_
  cases k with
  | false => exact ite_ff ⟨.bl false, H3, I3, rfl, q3⟩
  | true => exact ite_tt (chain_last (thn (hc pins s3 σ H3 _ I3 q3) fun w' s4 ⟨z', H4, I4, r4, q4⟩ => ho' pins s4 σ H4 y z' u w' Q I4 r2 r4 q4))
theorem pt_chain {op op' : CmpOp} {r r' : R2} (ho : OpR X (compareOp op) r) (ho' : OpR X (compareOp op') r') (ha : PE X a ta) (hb : PE X b tb) (hc : PE X c tc)
    (hm : lastMarks [op, op'] [b, c] = false := by with_unfolding_all rfl) : PT X (.Compare a [op, op'] [b, c] pos) (tTest (tChain r r' ta tb tc)) := by
  intro pins s σ H Q I h
  refine isTrue_chain (thn (ha pins s σ H _ I h) fun v s1 ⟨x, H1, I1, r1, q1⟩ => test_link (thn (hb pins s1 σ H1 _ I1 q1) fun u s2 ⟨y, H2, I2, r2, q2⟩ =>
    thn (ho pins s2 σ H2 x y v u _ I2 r1 r2 q2) fun d s3 ⟨z, H3, I3, r3, k, e, q3⟩ => ?_)) hm
  subst e
  cases r3
  refine wpAny_truthy_bool ?_
  cases k with
  | false =>
    obtain ⟨k', e', q'⟩ := q3
    cases e'
    exact ite_ff ⟨H3, I3, q'⟩
  | true =>
    refine ite_tt (test_last (thn (hc pins s3 σ H3 _ I3 q3) fun w' s4 ⟨z', H4, I4, r4, q4⟩ => thn (ho' pins s4 σ H4 y z' u w' _ I4 r2 r4 q4) fun d' s5 ⟨z2, H5, I5, r5, k2, e2, q5⟩ => ?_))
    subst e2
    cases r5
    exact wpAny_truthy_bool ⟨H5, I5, q5⟩

/-! ### truth -/
/-- a value's truth by the abstract heap -/
def TruV (K : PySem.W.Frag) (x : V) (H : Hp) (k : Bool) : Prop :=
  match x with
  | .non => k = false
  | .bl b => k = b
  | .int i => k = (i != 0)
  | .str y => y.length ≤ sizeLine ∧ k = ((y.length : Int) != 0)
  | .byt y => y.size ≤ sizeLine ∧ k = ((y.size : Int) != 0)
  | .ref p => (∃ xs, SqL K H p xs ∧ k = !xs.isEmpty) ∨ (∃ xs, SqT K H p xs ∧ k = !xs.isEmpty) ∨ ∃ kvs, H p = some (.dK kvs) ∧ k = !kvs.isEmpty
  | _ => False
theorem isEmpty_kv {κ : Type} {kvs : List (κ × V)} {vs : List (κ × Value)} (r : KV kvs vs) : (!vs.isEmpty) = !kvs.isEmpty := by
  cases r <;> rfl
theorem isEmpty_of {xs : List V} {its : List Value} (r : Vals xs its) : (!its.toArray.isEmpty) = !xs.isEmpty := by
  cases r <;> simp
theorem line63 : (sizeLine : Nat) < 2 ^ 63 := by rw [sizeLine_eq]; decide
theorem tru_ok : TruR X (fun x H Q => ∃ k, TruV X.K x H k ∧ Q k H) := by
  intro pins s σ H x v Q I rx h
  obtain ⟨k, e, q⟩ := h
  have hl := line63
  have hs : sizeLine = 16777216 := sizeLine_eq
  cases x with
  | non =>
    cases rx
    have e' : k = false := e
    subst e'
    exact truthy_none ⟨H, I, q⟩
  | bl b =>
    cases rx
    have e' : k = b := e
    subst e'
    exact wpAny_truthy_bool ⟨H, I, q⟩
  | int i =>
    obtain ⟨t, rfl⟩ := rx
    have e' : k = (i != 0) := e
    subst e'
    exact PySem.P.truthy_int ⟨H, I, q⟩
  | str y =>
    obtain ⟨t, rfl⟩ := rx
    obtain ⟨hy, e'⟩ : y.length ≤ sizeLine ∧ k = ((y.length : Int) != 0) := e
    subst e'
    exact PySem.P.truthy_str (by omega) ⟨H, I.tok _, q⟩
  | byt y =>
    obtain ⟨t, rfl⟩ := rx
    obtain ⟨hy, e'⟩ : y.size ≤ sizeLine ∧ k = ((y.size : Int) != 0) := e
    subst e'
    exact PySem.W.truthy_bytes (by omega) ⟨H, I.tok _, q⟩
  | ref p =>
    cases rx
    have e' : (∃ xs, SqL X.K H p xs ∧ k = !xs.isEmpty) ∨ (∃ xs, SqT X.K H p xs ∧ k = !xs.isEmpty) ∨ ∃ kvs, H p = some (.dK kvs) ∧ k = !kvs.isEmpty := e
    rcases e' with ⟨xs, hx, e'⟩ | ⟨xs, hx, e'⟩ | ⟨kvs, hx, e'⟩
    · subst e'
      obtain ⟨its, r, pl, hz⟩ := I.list hx
      have hlen := r.length
      exact wpAny_truthy_list pl.isList (by simp only [List.size_toArray]; omega) ⟨H, I.tok _, by rw [isEmpty_of r]; exact q⟩
    · subst e'
      obtain ⟨its, r, pl, hz⟩ := I.tuple hx
      have hlen := r.length
      exact truthy_tuple pl (by simp only [List.size_toArray]; omega) ⟨H, I.tok _, by rw [isEmpty_of r]; exact q⟩
    · subst e'
      obtain ⟨hz, hS, vs, r, m⟩ : kvs.length ≤ sizeLine ∧ (p == sysModules) = false ∧ ∃ vs, KV kvs vs ∧ s.heap.DictOf (mixKind X.prog X.w) p vs := I.hok p _ hx
      have hlen : kvs.length = vs.length := Paired.length r
      exact wpAny_truthy_dict hS m (by omega) ⟨H, I.tok _, by rw [isEmpty_kv r]; exact q⟩
  | _ => exact (show False from e).elim
/-- any expression whose test is its value's truth (a name, a call, a subscript, a field ..: he by fun _ => rfl) -/
theorem pt_truth (ha : PE X a ta) (he : ∀ whole, isTrue a X.env whole = (do let v ← whole; standAt a.pos; holding [v] (truthy v))) :
    PT X a (fun σ H Q => ta σ H fun x H' => ∃ k, TruV X.K x H' k ∧ Q k H') := by
  intro pins s σ H Q I h
  exact isTrue_plain (thn (ha pins s σ H _ I h) fun v s1 ⟨x, H1, I1, r1, q1⟩ => tru_ok pins s1 σ H1 x v Q I1 r1 q1) (he _)

/-! ### strs and bytes -/
theorem pe_byt {x : List UInt8} {k : Nat} : PE X (.Constant (.bytes x) k pos) (fun _ H Q => Q (.byt x.toArray) H) := fun _ _ _ H _ I h => PySem.W.Constant_bytes ⟨.byt x.toArray, H, I.tok _, ⟨_, rfl⟩, h⟩
theorem op_add_str : OpR X (binaryOp .Add) (fun x y H Q => ∃ i j, x = .str i ∧ y = .str j ∧ i.length + j.length ≤ sizeLine ∧ Q (.str (i ++ j)) H) := by
  intro pins s σ H x y v u Q I rx ry h
  obtain ⟨i, j, rfl, rfl, hz, q⟩ := h
  obtain ⟨t, rfl⟩ := rx
  obtain ⟨t', rfl⟩ := ry
  exact add_str (fun t' tk => ⟨.str (i ++ j), H, I.tok _, ⟨_, rfl⟩, q⟩) hz
theorem iop_add_str : OpR X (inplaceOp .Add) (fun x y H Q => ∃ i j, x = .str i ∧ y = .str j ∧ i.length + j.length ≤ sizeLine ∧ Q (.str (i ++ j)) H) := by
  intro pins s σ H x y v u Q I rx ry h
  obtain ⟨i, j, rfl, rfl, hz, q⟩ := h
  obtain ⟨t, rfl⟩ := rx
  obtain ⟨t', rfl⟩ := ry
  exact iadd_str (fun t' tk => ⟨.str (i ++ j), H, I.tok _, ⟨_, rfl⟩, q⟩) hz
theorem op_add_byt : OpR X (binaryOp .Add) (fun x y H Q => ∃ i j, x = .byt i ∧ y = .byt j ∧ i.size + j.size ≤ 16777216 ∧ Q (.byt (i ++ j)) H) := by
  intro pins s σ H x y v u Q I rx ry h
  obtain ⟨i, j, rfl, rfl, hz, q⟩ := h
  obtain ⟨t, rfl⟩ := rx
  obtain ⟨t', rfl⟩ := ry
  exact PySem.W.KBy.add_bytes hz (fun t' tk => ⟨.byt (i ++ j), H, I.tok _, ⟨_, rfl⟩, q⟩)

def PlainIxT (b : Expr) : Prop := ∀ o i, subscripted b false o i = operate [o, i] (getItem o i)
/-- s[i], 0 ≤ i < len -/
theorem pe_item_str (ha : PE X a ta) (hb : PE X b tb) (hs : PlainIxT b) :
    PE X (.Subscript a b pos) (tOp (fun x y H Q => ∃ z i c, x = .str z ∧ y = .int i ∧ 0 ≤ i ∧ i < 2 ^ 63 ∧ i < z.length ∧ z.cps[i.toNat]? = some c ∧ Q (.str ⟨#[c]⟩) H) ta tb) := by
  intro pins s σ H Q I h
  refine Subscript_ (binT ha hb I h fun v u s2 x y H2 I2 rx ry q => ?_)
  obtain ⟨z, i, c, rfl, rfl, h0, h63, h1, hc, q⟩ := q
  obtain ⟨t, rfl⟩ := rx
  obtain ⟨t', rfl⟩ := ry
  have e : seqIndex? i z.length = some i.toNat := PySem.StrLaws.seqIndex_nonneg h0 h1
  exact tail_any (typeIs_str s2 z t) slot_str_getitem.lookup (getItem_str (c := c) (by
    have e1 : decide (i < -(2 ^ 63 : Int)) = false := decide_eq_false (by omega)
    have e2 : decide (i ≥ 2 ^ 63) = false := decide_eq_false (by omega)
    rw [e1, e2] <;> rfl) (by rw [e]; exact hc) ⟨.str ⟨#[c]⟩, H2, I2.tok _, ⟨_, rfl⟩, q⟩) (hs _ _)
/-- b[i], 0 ≤ i < len -/
theorem pe_item_byt (ha : PE X a ta) (hb : PE X b tb) (hs : PlainIxT b) :
    PE X (.Subscript a b pos) (tOp (fun x y H Q => ∃ (z : List UInt8) (i : Int), x = .byt z.toArray ∧ y = .int i ∧ z.length ≤ sizeLine ∧ 0 ≤ i ∧ i < z.length ∧ Q (.int ((z.getD i.toNat 0).toNat : Nat)) H) ta tb) := by
  intro pins s σ H Q I h
  refine Subscript_ (binT ha hb I h fun v u s2 x y H2 I2 rx ry q => ?_)
  obtain ⟨z, i, rfl, rfl, hz, h0, h1, q⟩ := q
  obtain ⟨t, rfl⟩ := rx
  obtain ⟨t', rfl⟩ := ry
  have hl : sizeLine = 16777216 := sizeLine_eq
  exact tail_any (PySem.W.typeIs_bytes s2 z.toArray t) PySem.W.FB.slot_bytes_getitem.lookup (PySem.W.getItem_bytes (by omega) h0 h1 ⟨.int ((z.getD i.toNat 0).toNat : Nat), H2, I2.tok _, ⟨_, rfl⟩, q⟩) (hs _ _)

/-! ### scalar builtins, by CallR -/
theorem vals1 {x : V} {us : List Value} (r : Vals [x] us) : ∃ u, us = [u] ∧ RelV x u := by
  cases r with
  | cons r1 r2 => cases r2; exact ⟨_, rfl, r1⟩
theorem vals2 {x y : V} {us : List Value} (r : Vals [x, y] us) : ∃ u w', us = [u, w'] ∧ RelV x u ∧ RelV y w' := by
  cases r with
  | cons r1 r2 =>
    cases r2 with
    | cons r3 r4 => cases r4; exact ⟨_, _, rfl, r1, r3⟩
theorem call_abs : CallR X (.builtin "abs") (fun xs H Q => ∃ i, xs = [.int i] ∧ Q (.int (if i < 0 then -i else i)) H) := by
  intro pins s σ H xs us Q I r h
  obtain ⟨i, rfl, q⟩ := h
  obtain ⟨u, rfl, t, rfl⟩ := vals1 r
  exact call_abs_int fun u tk => ⟨.int (if i < 0 then -i else i), H, I.tok _, ⟨_, rfl⟩, q⟩
theorem call_max2 (hc : X.calm = true) : CallR X (.builtin "max") (fun xs H Q => ∃ i j, xs = [.int i, .int j] ∧ Q (.int (if j > i then j else i)) H) := by
  intro pins s σ H xs us Q I r h
  obtain ⟨i, j, rfl, q⟩ := h
  obtain ⟨u, w', rfl, ⟨t, rfl⟩, ⟨t', rfl⟩⟩ := vals2 r
  refine max_two_ints (I.ok.hd hc) fun h' tk k => ⟨_, H, I.kept k, ?_, q⟩
  by_cases hj : j > i
  · rw [if_pos hj, if_pos hj]; exact ⟨_, rfl⟩
  · rw [if_neg hj, if_neg hj]; exact ⟨_, rfl⟩
theorem call_min2 (hc : X.calm = true) : CallR X (.builtin "min") (fun xs H Q => ∃ i j, xs = [.int i, .int j] ∧ Q (.int (if j < i then j else i)) H) := by
  intro pins s σ H xs us Q I r h
  obtain ⟨i, j, rfl, q⟩ := h
  obtain ⟨u, w', rfl, ⟨t, rfl⟩, ⟨t', rfl⟩⟩ := vals2 r
  refine min_two_ints (I.ok.hd hc) fun h' tk k => ⟨_, H, I.kept k, ?_, q⟩
  by_cases hj : j < i
  · rw [if_pos hj, if_pos hj]; exact ⟨_, rfl⟩
  · rw [if_neg hj, if_neg hj]; exact ⟨_, rfl⟩
theorem call_int1 : CallR X (.type "int") (fun xs H Q => (∃ i, xs = [.int i] ∧ Q (.int i) H) ∨ ∃ k, xs = [.bl k] ∧ Q (.int (if k then 1 else 0)) H) := by
  intro pins s σ H xs us Q I r h
  rcases h with ⟨i, rfl, q⟩ | ⟨k, rfl, q⟩
  · obtain ⟨u, rfl, t, rfl⟩ := vals1 r
    exact call_int_int ⟨.int i, H, I, ⟨_, rfl⟩, q⟩
  · obtain ⟨u, rfl, r1⟩ := vals1 r
    cases r1
    exact call_int_bool ⟨.int (if k then 1 else 0), H, I.tok _, ⟨_, rfl⟩, q⟩
theorem call_bool1 : CallR X (.type "bool") (fun xs H Q => (∃ i, xs = [.int i] ∧ Q (.bl (i != 0)) H) ∨ ∃ k, xs = [.bl k] ∧ Q (.bl k) H) := by
  intro pins s σ H xs us Q I r h
  rcases h with ⟨i, rfl, q⟩ | ⟨k, rfl, q⟩
  · obtain ⟨u, rfl, t, rfl⟩ := vals1 r
    exact call_bool_int ⟨.bl (i != 0), H, I, rfl, q⟩
  · obtain ⟨u, rfl, r1⟩ := vals1 r
    cases r1
    exact call_bool_bool ⟨.bl k, H, I, rfl, q⟩
theorem call_str_int : CallR X (.type "str") (fun xs H Q => ∃ i, xs = [.int i] ∧ i.natAbs.log2 < 1920 ∧ Q (.str (toString i)) H) := by
  intro pins s σ H xs us Q I r h
  obtain ⟨i, rfl, hz, q⟩ := h
  obtain ⟨u, rfl, t, rfl⟩ := vals1 r
  exact PySem.P.str_of_int hz ⟨.str _, H, I.tok _, ⟨_, rfl⟩, q⟩
theorem call_ord : CallR X (.builtin "ord") (fun xs H Q => ∃ x, xs = [.str x] ∧ x.length = 1 ∧ Q (.int (x.cps.getD 0 0 : Nat)) H) := by
  intro pins s σ H xs us Q I r h
  obtain ⟨x, rfl, hz, q⟩ := h
  obtain ⟨u, rfl, t, rfl⟩ := vals1 r
  exact ord_of_one hz ⟨.int _, H, I.tok _, ⟨_, rfl⟩, q⟩
theorem call_chr : CallR X (.builtin "chr") (fun xs H Q => ∃ i, xs = [.int i] ∧ 0 ≤ i ∧ i ≤ 1114111 ∧ Q (.str ⟨#[i.toNat]⟩) H) := by
  intro pins s σ H xs us Q I r h
  obtain ⟨i, rfl, h0, h1, q⟩ := h
  obtain ⟨u, rfl, t, rfl⟩ := vals1 r
  exact chr_of_range h0 h1 ⟨.str _, H, I.tok _, ⟨_, rfl⟩, q⟩
/-- len of a str, a bytes, a list, a tuple -/
def LenV (K : PySem.W.Frag) (x : V) (H : Hp) (n : Nat) : Prop :=
  match x with
  | .str y => y.length ≤ sizeLine ∧ n = y.length
  | .byt y => y.size ≤ sizeLine ∧ n = y.size
  | .ref p => (∃ xs, SqL K H p xs ∧ n = xs.length) ∨ ∃ xs, SqT K H p xs ∧ n = xs.length
  | _ => False
theorem call_len : CallR X (.builtin "len") (fun xs H Q => ∃ x n, xs = [x] ∧ LenV X.K x H n ∧ Q (.int n) H) := by
  intro pins s σ H xs us Q I r h
  obtain ⟨x, n, rfl, e, q⟩ := h
  obtain ⟨u, rfl, rx⟩ := vals1 r
  have hl := line63
  have hs : sizeLine = 16777216 := sizeLine_eq
  cases x with
  | str y =>
    obtain ⟨t, rfl⟩ := rx
    obtain ⟨hy, e'⟩ : y.length ≤ sizeLine ∧ n = y.length := e
    subst e'
    exact len_str (by omega) ⟨.int _, H, I.tok _, ⟨_, rfl⟩, q⟩
  | byt y =>
    obtain ⟨t, rfl⟩ := rx
    obtain ⟨hy, e'⟩ : y.size ≤ sizeLine ∧ n = y.size := e
    subst e'
    exact PySem.W.len_bytes (by omega) ⟨.int _, H, I.tok _, ⟨_, rfl⟩, q⟩
  | ref p =>
    cases rx
    have e' : (∃ xs, SqL X.K H p xs ∧ n = xs.length) ∨ ∃ xs, SqT X.K H p xs ∧ n = xs.length := e
    rcases e' with ⟨xs, hx, e'⟩ | ⟨xs, hx, e'⟩
    · subst e'
      obtain ⟨its, r', pl, hz⟩ := I.list hx
      have hlen := r'.length
      exact Calls.call_len_list pl.isList (by simp only [List.size_toArray]; omega) ⟨.int xs.length, H, I.tok _, ⟨_, by simp only [List.size_toArray]; rw [hlen]⟩, q⟩
    · subst e'
      obtain ⟨its, r', pl, hz⟩ := I.tuple hx
      have hlen := r'.length
      exact len_tuple pl (by simp only [List.size_toArray]; omega) ⟨.int xs.length, H, I.tok _, ⟨_, by simp only [List.size_toArray]; rw [hlen]⟩, q⟩
  | _ => exact (show False from e).elim
/-- divmod: a new tuple -/
theorem call_divmod : CallR X (.builtin "divmod") (fun xs H Q => ∃ i j, xs = [.int i, .int j] ∧ CDiv i j ∧ ∀ p, H p = none → Q (.ref p) (upd H p (.tup [.int (i / j), .int (i % j)]))) := by
  intro pins s σ H xs us Q I r h
  obtain ⟨i, j, rfl, ⟨h1, h2⟩, q⟩ := h
  obtain ⟨u, w', rfl, ⟨t, rfl⟩, ⟨t', rfl⟩⟩ := vals2 r
  refine divmod_int (by omega) ?_ (.inl (PyProof.noPylong_small (by omega)))
  rw [Int.fdiv_eq_ediv_of_nonneg i (by omega), Int.fmod_eq_emod_of_nonneg i (by omega)]
  have hn : H s.heap.objs.size = none := I.hok.fresh (Nat.le_refl _)
  refine ⟨.ref s.heap.objs.size, _, ?_, rfl, q _ hn⟩
  refine I.laid (fun b o e => Heap.get?_push_of_some _ e) (Nat.le_refl _) ⟨by simp only [List.length_cons, List.length_nil]; rw [sizeLine_eq]; decide, [.int (i / j) s.toks, .int (i % j) (s.toks + 1)], .cons ⟨_, rfl⟩ (.cons ⟨_, rfl⟩ .nil), ?_⟩
  exact ⟨_, Heap.get?_push_size s.heap rfl, rfl, 0, rfl⟩
end
end L2

namespace L2
open PySem PySem.Spec PyProof.Rows

/-! ### an instance, its attributes a map -/
structure ObjM (h : Heap) (x dx C : Addr) (mA : Str → Option Value) : Prop where
  obj : h.get? x = some (PySem.W.instObj C dx)
  ns : h.Ns1 dx mA
  ne : dx ≠ x

theorem lookIn_ns {h : Heap} {dx : Addr} {mA : Str → Option Value} (n : h.Ns1 dx mA) : ∃ od, h.get? dx = some od ∧ ∀ name, PySem.W.lookIn name od = some (mA name) := by
  obtain ⟨o, es, ep, ho, hd, hk, _, hm⟩ := n
  refine ⟨o, ho, fun name => ?_⟩
  have e := hm name
  unfold nsFind findBy at e
  rw [← Array.find?_toList] at e
  unfold PySem.W.lookIn
  rw [hd]
  dsimp only
  split
  · rename_i y q
    rw [q] at e
    exact congrArg some e
  · rename_i q
    rw [q] at e
    have a : es.toList.any (·.refKey) = false := by
      rw [List.any_eq_false]
      intro y hy
      obtain ⟨z, t, hkey⟩ := hk y (Array.mem_toList_iff.mp hy)
      simp [DictEntry.refKey, hkey]
    have a' : ¬ es.toList.any (·.refKey) = true := by rw [a]; exact Bool.false_ne_true
    rw [if_neg a']
    exact congrArg some e

theorem ObjM.look {h : Heap} {x dx C : Addr} {mA : Str → Option Value} (I : ObjM h x dx C mA) : ∃ od, PySem.W.InstAt h x (PySem.W.instObj C dx) C (some od) ∧ ∀ name, PySem.W.lookIn name od = some (mA name) :=
  let ⟨od, ho, hl⟩ := lookIn_ns I.ns
  ⟨od, ⟨I.obj, rfl, rfl, ho⟩, hl⟩

section
variable {prog : Program} {w : World} {A : Around} {E : Value → Shared → Prop} {s : Shared} {K : PySem.W.Frag} {x dx C f : Addr} {mA : Str → Option Value} {name : Str} {v : Value}

theorem get_map {expr : Bool} {Q : Value → Shared → Prop} (X : K.In s.heap) (I : ObjM s.heap x dx C mA) (hg : PySem.W.plainGet K C name = true) (hh : PySem.W.hasDictIn K C = true)
    (ha : PySem.W.findIn K (.ref C) name = some none) (hv : mA name = some v) (hv' : PySem.W.handedIn v = true) (h : Q v { s with toks := s.toks + 1 }) :
    wpAny (model prog w) A (getAttr (.ref x) name expr) Q E s := by
  obtain ⟨od, J, hl⟩ := I.look
  exact PySem.W.get_value X J (PySem.W.plainGet_of hg).1 (PySem.W.findObj_own hh ha rfl (by rw [hl, hv])) hv' h

theorem get_const {expr : Bool} {a : Value} {Q : Value → Shared → Prop} (X : K.In s.heap) (I : ObjM s.heap x dx C mA) (hg : PySem.W.plainGet K C name = true) (hh : PySem.W.hasDictIn K C = true)
    (ha : PySem.W.findIn K (.ref C) name = some (some a)) (hn : PySem.W.specialIn K a "__get__" = some none) (hc : PySem.W.copiedNames.contains name = false) (hv : mA name = none) (hv' : PySem.W.handedIn a = true)
    (h : Q a { s with toks := s.toks + 1 }) : wpAny (model prog w) A (getAttr (.ref x) name expr) Q E s := by
  obtain ⟨od, J, hl⟩ := I.look
  exact PySem.W.get_value X J (PySem.W.plainGet_of hg).1 (PySem.W.findObj_cls hh ha hn hv' hc (by rw [hl, hv])) hv' h

theorem get_meth {pl : Sem Bool} {Q : Value × List Value → Shared → Prop} (X : K.In s.heap) (I : ObjM s.heap x dx C mA) (hg : PySem.W.plainGet K C name = true)
    (hf : PySem.W.findIn K (.ref C) name = some (some (.ref f))) (ht : PySem.W.isFn K (.ref f) = true) (hv : mA name = none) (h : Q (.ref f, [.ref x]) s) :
    wpAny (model prog w) A (getMethod (.ref x) name pl) Q E s := by
  obtain ⟨od, J, hl⟩ := I.look
  exact PySem.W.method_fn X J (PySem.W.plainGet_of hg).1 (PySem.W.plainGet_of hg).2 hf (beq_iff_eq.mp ht) (by show (PySem.W.lookIn name od).map (·.isSome) = some false; rw [hl, hv]; rfl) h

theorem set_map {ns : List Str} {Q : Unit → Shared → Prop} (X : K.In s.heap) (I : ObjM s.heap x dx C mA)
    (hs : PySem.W.findIn K (.ref C) "__setattr__" = some (some (.builtin "object.__setattr__"))) (hp : PySem.W.plainOver K C = true) (ht : PySem.W.takerIn K C name = some none) (hh : PySem.W.hasDictIn K C = true)
    (hw : PySem.Within mA ns) (hsz : ns.length ≤ sizeLine)
    (h : ∀ h', ObjM h' x dx C (fun y => if y = name then some v else mA y) → Heap.SameBut dx s.heap h' → Q () { s with heap := h', toks := s.toks + 2 }) :
    wpAny (model prog w) A (setAttr (.ref x) name v) Q E s := by
  obtain ⟨od, J, hl⟩ := I.look
  refine PySem.W.set_plain X J hs (PySem.W.osa_open (s := { s with toks := s.toks + 1 }) (r := none) X J hp ht fun b => ?_)
  obtain ⟨cd, hc, hd'⟩ := PySem.W.any_some hh
  have hx : s.heap.get? x = some ⟨.ref C, some dx, .plain, #[]⟩ := I.obj
  refine wpAny_bind (wpAny_pure (wpAny_bind (wpAny_bind (wpAny_loadPart hx (wpAny_bind (PySem.W.Looks.here (s := { s with toks := s.toks + 1 }) (PySem.W.looks_clsIn X hc) ?_))))))
  rw [hd']
  refine wpAny_pure (a := some dx) (wpAny_bind (wpAny_pure (wpAny_bind ?_)))
  refine wpAny_nsSet1 (s := { s with toks := s.toks + 1 }) I.ns fun h' hn2 hs2 => ?_
  obtain ⟨oD, esD, epD, hoD, hdD, hcD⟩ := hn2.count (PySem.Within.cons name v hw)
  refine wpAny_bind (wpAny_lookBehind hoD (by rw [hdD]; exact pastItsLine_dict (Nat.le_trans hcD (by rw [List.length_cons]; omega))) ?_)
  exact wpAny_pure (h _ ⟨(hs2.2 _ (Ne.symm I.ne)).trans I.obj, hn2, I.ne⟩ hs2)

/-- C(..): the dict at the heap's end, the instance behind it; then its __init__ -/
theorem make_map {R : Result → Shared → Prop} {vs : List Value} {kw : List (Str × Value)} (X : K.In s.heap) (hm : PySem.W.makesIn K C = true)
    (hi : PySem.W.findIn K (.ref C) "__init__" = some (some (.ref f))) (hf : PySem.W.typeIn K (.ref f) = some (.type "function"))
    (h : codeAny (model prog w) (A.under (.builtin "type.__call__" ⟨.ref C :: vs, kw⟩)) (.call (.ref f) ⟨.ref (s.heap.objs.size + 1) :: vs, kw⟩) (PySem.W.InitBack (s.heap.objs.size + 1) R)
      { s with heap := (s.heap.push PySem.W.emptyDict).push (PySem.W.instObj C s.heap.objs.size) }) :
    codeAny (model prog w) A (.call (.ref C) ⟨vs, kw⟩) R s := by
  obtain ⟨hh, g, d, t, os⟩ := s
  exact PySem.W.make_core (PySem.W.makes_of X hm) (PySem.W.looks_findIn X hi) (fun self => PySem.W.bind_fn X self hf) (.inl rfl) h
/-- C() where there is no __init__ but object's -/
theorem make_map0 {R : Result → Shared → Prop} (X : K.In s.heap) (hm : PySem.W.makesIn K C = true)
    (hi : PySem.W.findIn K (.ref C) "__init__" = some (some (.builtin "object.__init__")))
    (hb : ∀ self, PySem.W.Looks (model prog w) s.heap (bindSpecial (.builtin "object.__init__") self) (.builtin "object.__init__", [self]))
    (h : codeAny (model prog w) (A.under (.builtin "type.__call__" ⟨[.ref C], []⟩)) (.call (.builtin "object.__init__") ⟨[.ref (s.heap.objs.size + 1)], []⟩) (PySem.W.InitBack (s.heap.objs.size + 1) R)
      { s with heap := (s.heap.push PySem.W.emptyDict).push (PySem.W.instObj C s.heap.objs.size) }) :
    codeAny (model prog w) A (.call (.ref C) ⟨[], []⟩) R s := by
  obtain ⟨hh, g, d, t, os⟩ := s
  exact PySem.W.make_core (PySem.W.makes_of X hm) (PySem.W.looks_findIn X hi) hb (.inr ⟨rfl, rfl⟩) h
end

/-! ### the attributes as a list of pairs -/
def putF (f : Str) (v : V) : List (Str × V) → List (Str × V)
  | [] => [(f, v)]
  | (g, x) :: r => if g = f then (g, v) :: r else (g, x) :: putF f v r
theorem lookup_putF (f g : Str) (v : V) : ∀ fs : List (Str × V), (putF f v fs).lookup g = if g = f then some v else fs.lookup g
  | [] => by
    show List.lookup g [(f, v)] = _
    by_cases h : g = f
    · have hb : (g == f) = true := beq_iff_eq.mpr h
      simp only [List.lookup, hb, if_pos h]
    · have hb : (g == f) = false := beq_eq_false_iff_ne.mpr h
      simp only [List.lookup, hb, if_neg h]
  | (k, x) :: r => by
    have ih := lookup_putF f g v r
    rw [show putF f v ((k, x) :: r) = (if k = f then (k, v) :: r else (k, x) :: putF f v r) from rfl]
    by_cases hk : k = f
    · rw [if_pos hk]
      by_cases h : g = k
      · have hb : (g == k) = true := beq_iff_eq.mpr h
        simp only [List.lookup, hb, if_pos (h.trans hk)]
      · have hb : (g == k) = false := beq_eq_false_iff_ne.mpr h
        simp only [List.lookup, hb, if_neg (fun e : g = f => h (e.trans hk.symm))]
    · rw [if_neg hk]
      by_cases h : g = k
      · have hb : (g == k) = true := beq_iff_eq.mpr h
        simp only [List.lookup, hb, if_neg (fun e : g = f => hk (h.symm.trans e))]
      · have hb : (g == k) = false := beq_eq_false_iff_ne.mpr h
        simp only [List.lookup, hb]
        exact ih
theorem keys_putF (f : Str) (v : V) : ∀ fs : List (Str × V), f ∈ (putF f v fs).map (·.1) ∧ ∀ g, g ∈ fs.map (·.1) → g ∈ (putF f v fs).map (·.1)
  | [] => ⟨by simp [putF], fun g h => by simp at h⟩
  | (k, x) :: r => by
    obtain ⟨i1, i2⟩ := keys_putF f v r
    rw [show putF f v ((k, x) :: r) = (if k = f then (k, v) :: r else (k, x) :: putF f v r) from rfl]
    by_cases hk : k = f
    · rw [if_pos hk]
      subst hk
      exact ⟨by simp, fun g h => by simpa using h⟩
    · rw [if_neg hk]
      refine ⟨?_, fun g h => ?_⟩
      · rw [List.map_cons]
        exact List.mem_cons_of_mem _ i1
      · rw [List.map_cons] at h ⊢
        rcases List.mem_cons.mp h with e | e
        · exact List.mem_cons.mpr (.inl e)
        · exact List.mem_cons_of_mem _ (i2 g e)
theorem length_putF (f : Str) (v : V) : ∀ fs : List (Str × V), (putF f v fs).length ≤ fs.length + 1
  | [] => by simp [putF]
  | (k, x) :: r => by
    have ih := length_putF f v r
    rw [show putF f v ((k, x) :: r) = (if k = f then (k, v) :: r else (k, x) :: putF f v r) from rfl]
    by_cases hk : k = f
    · rw [if_pos hk, List.length_cons, List.length_cons]; omega
    · rw [if_neg hk, List.length_cons, List.length_cons]; omega

theorem RelO.some_of {v : V} {o : Option Value} (r : RelO (some v) o) : ∃ u, o = some u ∧ RelV v u := by
  cases o with
  | none => exact (show False from r).elim
  | some u => exact ⟨u, rfl, r⟩
theorem RelO.none_of {o : Option Value} (r : RelO none o) : o = none := by
  cases o with
  | none => rfl
  | some u => exact (show False from r).elim
theorem handed_of {v : V} {u : Value} (r : RelV v u) : PySem.W.handedIn u = true := by
  cases v with
  | non => cases (show u = Value.none from r); rfl
  | bl b => cases (show u = Value.bool b from r); rfl
  | int i => obtain ⟨t, e⟩ := (show ∃ t, u = Value.int i t from r); cases e; rfl
  | str x => obtain ⟨t, e⟩ := (show ∃ t, u = Value.str x t from r); cases e; rfl
  | byt b => obtain ⟨t, e⟩ := (show ∃ t, u = Value.bytes b t from r); cases e; rfl
  | flt b => obtain ⟨t, e⟩ := (show ∃ t, u = Value.float b t from r); cases e; rfl
  | ref a => cases (show u = Value.ref a from r); rfl
  | ty n => cases (show u = Value.type n from r); rfl

section
variable {P : Program} {w : World} {H H' : Hp} {h h' : Heap} {a C dx : Addr} {fs fs' : List (Str × V)}
theorem ins_get (hok : HOk P w H h) (e : H a = some (.ins C dx fs)) : ∃ mA, ObjM h a dx C mA ∧ (∀ f, RelO (fs.lookup f) (mA f)) ∧ PySem.Within mA (fs.map (·.1)) ∧ fs.length ≤ 1000 ∧ H dx = some (.own a) := by
  obtain ⟨d, z, ne, ob, mA, n, r, q⟩ := (show ObjOk P w H h a (.ins C dx fs) from hok a _ e)
  exact ⟨mA, ⟨ob, n, ne⟩, r, q, z, d⟩
end

/-! ### what of the text a class must have -/
structure Cls (K : PySem.W.Frag) (C : Addr) : Prop where
  pg : PySem.W.plainGet K C Str.empty = true
  hd : PySem.W.hasDictIn K C = true
  po : PySem.W.plainOver K C = true
  sa : PySem.W.findIn K (.ref C) "__setattr__" = some (some (.builtin "object.__setattr__"))
theorem Cls.get {K : PySem.W.Frag} {C : Addr} (c : Cls K C) (f : Str) : PySem.W.plainGet K C f = true := c.pg
/-- no class of it has the name -/
def NoAttr (K : PySem.W.Frag) (C : Addr) (f : Str) : Prop := PySem.W.findIn K (.ref C) f = some none
theorem NoAttr.taker {K : PySem.W.Frag} {C : Addr} {f : Str} (n : NoAttr K C f) : PySem.W.takerIn K C f = some none := by
  unfold PySem.W.takerIn
  rw [show PySem.W.findIn K (.ref C) f = some none from n]
  rfl
/-- a constant of the class -/
structure Con (K : PySem.W.Frag) (C : Addr) (f : Str) (v : V) (u : Value) : Prop where
  at_ : PySem.W.findIn K (.ref C) f = some (some u)
  rel : RelV v u
  get : PySem.W.specialIn K u "__get__" = some none
  cp : PySem.W.copiedNames.contains f = false
/-- a method: a plain def of the class or of one above it -/
structure Meth (K : PySem.W.Frag) (C : Addr) (m : Str) (f : Addr) : Prop where
  at_ : PySem.W.findIn K (.ref C) m = some (some (.ref f))
  fn : PySem.W.isFn K (.ref f) = true
  kp : PySem.W.keepIn K (.ref f) = true

section
variable {X : Cx} {pins : List (Addr × Obj)} {σ : St} {H : Hp} {s : Shared} {a C dx : Addr} {fs : List (Str × V)} {f : Str} {v : V} {A : Around} {E : Value → Shared → Prop}

theorem getattr_ok {b : Bool} {Q : Value → Shared → Prop} (I : Inv X pins σ H s) (e : H a = some (.ins C dx fs)) (c : Cls X.K C) (n : NoAttr X.K C f) (l : fs.lookup f = some v)
    (h : ∀ u s', Inv X pins σ H s' → RelV v u → Q u s') : wpAny (model X.prog X.w) A (getAttr (.ref a) f b) Q E s := by
  obtain ⟨mA, O, r, _, _, _⟩ := ins_get I.hok e
  obtain ⟨u, hu, ru⟩ := RelO.some_of (v := v) (o := mA f) (by rw [← l]; exact r f)
  exact get_map I.kIn O (c.get f) c.hd n hu (handed_of ru) (h u _ (I.tok _) ru)

theorem getcon_ok {b : Bool} {u : Value} {Q : Value → Shared → Prop} (I : Inv X pins σ H s) (e : H a = some (.ins C dx fs)) (c : Cls X.K C) (k : Con X.K C f v u) (l : fs.lookup f = none)
    (h : ∀ s', Inv X pins σ H s' → Q u s') : wpAny (model X.prog X.w) A (getAttr (.ref a) f b) Q E s := by
  obtain ⟨mA, O, r, _, _, _⟩ := ins_get I.hok e
  have hn : mA f = none := RelO.none_of (by rw [← l]; exact r f)
  exact get_const I.kIn O (c.get f) c.hd k.at_ k.get k.cp hn (handed_of k.rel) (h _ (I.tok _))

theorem getmeth_ok {m : Str} {g : Addr} {pl : Sem Bool} {Q : Value × List Value → Shared → Prop} (I : Inv X pins σ H s) (e : H a = some (.ins C dx fs)) (c : Cls X.K C) (k : Meth X.K C m g) (l : fs.lookup m = none)
    (h : Q (.ref g, [.ref a]) s) : wpAny (model X.prog X.w) A (getMethod (.ref a) m pl) Q E s := by
  obtain ⟨mA, O, r, _, _, _⟩ := ins_get I.hok e
  have hn : mA m = none := RelO.none_of (by rw [← l]; exact r m)
  exact get_meth I.kIn O (c.get m) k.at_ k.fn hn h

theorem setattr_ok {y : V} {u : Value} {Q : Unit → Shared → Prop} (I : Inv X pins σ H s) (e : H a = some (.ins C dx fs)) (c : Cls X.K C) (n : NoAttr X.K C f) (hl : fs.length < 1000) (ry : RelV y u)
    (h : ∀ s', Inv X pins σ (upd H a (.ins C dx (putF f y fs))) s' → Q () s') : wpAny (model X.prog X.w) A (setAttr (.ref a) f u) Q E s := by
  obtain ⟨mA, O, r, wi, _, ho⟩ := ins_get I.hok e
  have hz : (fs.map (·.1)).length ≤ sizeLine := by rw [List.length_map, sizeLine_eq]; omega
  refine set_map I.kIn O c.sa c.po n.taker c.hd wi hz fun h' O' sb => h _ ?_
  have hd : ∃ o, h'.get? dx = some o := let ⟨o, _, _, e', _⟩ := O'.ns; ⟨o, e'⟩
  refine I.write (x := a) (e := dx) (by rw [e]; exact True.intro) (.inr ho) (fun b q hb z => (sb.2 b hb).trans z) hd ?_
  refine ⟨by rw [upd_ne O.ne]; exact ho, ?_, O.ne, O'.obj, _, O'.ns, fun g => ?_, fun g hg => ?_⟩
  · have := length_putF f y fs; omega
  · show RelO ((putF f y fs).lookup g) (if g = f then some u else mA g)
    rw [lookup_putF]
    by_cases q : g = f
    · rw [if_pos q, if_pos q]; exact ry
    · rw [if_neg q, if_neg q]; exact r g
  · by_cases q : g = f
    · rw [q]; exact (keys_putF f y fs).1
    · refine (keys_putF f y fs).2 g (wi g fun z => hg ?_)
      show (if g = f then some u else mA g) = none
      rw [if_neg q]; exact z

/-- a new instance, tracked, without attributes -/
theorem Inv.made (I : Inv X pins σ H s) : Inv X pins σ (upd (upd H s.heap.objs.size (.own (s.heap.objs.size + 1))) (s.heap.objs.size + 1) (.ins C s.heap.objs.size []))
    { s with heap := (s.heap.push PySem.W.emptyDict).push (PySem.W.instObj C s.heap.objs.size) } := by
  have e1 : (s.heap.push PySem.W.emptyDict).get? s.heap.objs.size = some PySem.W.emptyDict := Heap.get?_push_size s.heap rfl
  have e2 : ((s.heap.push PySem.W.emptyDict).push (PySem.W.instObj C s.heap.objs.size)).get? (s.heap.objs.size + 1) = some (PySem.W.instObj C s.heap.objs.size) := by
    have := Heap.get?_push_size (s.heap.push PySem.W.emptyDict) (o := PySem.W.instObj C s.heap.objs.size) rfl
    rwa [Heap.size_push] at this
  have e3 : (s.heap.push PySem.W.emptyDict).Ns s.heap.objs.size (fun _ => none) := ⟨PySem.W.emptyDict, #[], _, e1, rfl, (fun e he => absurd he (by simp)), fun _ => rfl⟩
  have I1 := I.laid (a := s.heap.objs.size) (o := .own (s.heap.objs.size + 1)) (h' := s.heap.push PySem.W.emptyDict) (t' := s.toks) (fun b u q => Heap.get?_push_of_some _ q) (Nat.le_refl _) ⟨_, e1⟩
  refine I1.laid (a := s.heap.objs.size + 1) (o := .ins C s.heap.objs.size []) (t' := s.toks) (fun b u q => Heap.get?_push_of_some _ q) (Nat.le_of_eq (Heap.size_push _ _)) ?_
  have ne : s.heap.objs.size ≠ s.heap.objs.size + 1 := Nat.ne_of_lt (Nat.lt_succ_self _)
  refine ⟨by rw [upd_ne ne, upd_same], Nat.zero_le _, ne, e2, fun _ => none, (Heap.Ns1.of_empty e3).at fun o q => Heap.get?_push_of_some _ q, fun _ => True.intro, fun y hy => absurd rfl hy⟩

/-- e.f where nothing but the object is asked: through attributeBase (super) and the last hold -/
theorem attr_of {prog : Program} {w : World} {env : Env} {e : Expr} {f : Str} {pos : Pos} {s : Shared} {Q : Value → Shared → Prop} (hb : attributeBase e f env (eval e env) = eval e env)
    (h : wpAny (model prog w) A (eval e env) (fun o s₁ => wpAny (model prog w) A (getAttr o f true) Q E s₁) E s) : wpAny (model prog w) A (eval (.Attribute e f pos) env) Q E s :=
  Attribute_any_ h (by rw [arm_eval_Attribute, hb])
end

/-! ### readings and rules -/
/-- e.f, an attribute of the instance -/
def tFld (K : PySem.W.Frag) (ta : TE) (f : Str) : TE := fun σ H Q => ta σ H fun x H1 => ∃ a C dx fs v, x = .ref a ∧ H1 a = some (.ins C dx fs) ∧ Cls K C ∧ NoAttr K C f ∧ fs.lookup f = some v ∧ Q v H1
/-- e.f, a constant of the class -/
def tCon (K : PySem.W.Frag) (ta : TE) (f : Str) : TE := fun σ H Q => ta σ H fun x H1 => ∃ a C dx fs v u, x = .ref a ∧ H1 a = some (.ins C dx fs) ∧ Cls K C ∧ Con K C f v u ∧ fs.lookup f = none ∧ Q v H1
/-- e.f = value -/
def sFld (K : PySem.W.Frag) (ta tv : TE) (f : Str) : TS := fun D σ H => tv σ H fun y H1 => ta σ H1 fun x H2 => ∃ a C dx fs, x = .ref a ∧ H2 a = some (.ins C dx fs) ∧ Cls K C ∧ NoAttr K C f ∧ fs.length < 1000 ∧
  D.nx σ (upd H2 a (.ins C dx (putF f y fs)))
/-- an augmented operator on two values -/
def InOp (X : Cx) (op : Operator) (rd : V → V → Hp → VK → Prop) : Prop :=
  ∀ (pins : List (Addr × Obj)) (s : Shared) (σ : St) (H : Hp) (x y : V) (u v : Value) (Q : VK), Inv X pins σ H s → RelV x u → RelV y v → rd x y H Q → wpAny (model X.prog X.w) X.A (inplaceOp op u v) (EP X pins σ Q) X.xe s
/-- e.f op= value -/
def sFldAug (K : PySem.W.Frag) (ta tv : TE) (rd : V → V → Hp → VK → Prop) (f : Str) : TS := fun D σ H => ta σ H fun x H1 => ∃ a C dx fs v, x = .ref a ∧ H1 a = some (.ins C dx fs) ∧ Cls K C ∧ NoAttr K C f ∧ fs.lookup f = some v ∧
  tv σ H1 fun y H2 => rd v y H2 fun z H3 => ∃ dx' fs', H3 a = some (.ins C dx' fs') ∧ fs'.length < 1000 ∧ D.nx σ (upd H3 a (.ins C dx' (putF f z fs')))

section
variable {X : Cx} {o e value : Expr} {f : Str} {pos pos' tpos : Pos} {ta tv : TE}
theorem pe_fld (he : PE X e ta) (hb : attributeBase e f X.env (eval e X.env) = eval e X.env) : PE X (.Attribute e f pos) (tFld X.K ta f) := by
  intro pins s σ H Q I h
  refine attr_of hb (thn (he pins s σ H _ I h) fun u s1 ⟨x, H1, I1, rx, a, C, dx, fs, v, ex, ea, c, n, l, q⟩ => ?_)
  subst ex
  obtain rfl : u = Value.ref a := rx
  exact getattr_ok I1 ea c n l fun u' s2 I2 ru => ⟨v, H1, I2, ru, q⟩
theorem pe_con (he : PE X e ta) (hb : attributeBase e f X.env (eval e X.env) = eval e X.env) : PE X (.Attribute e f pos) (tCon X.K ta f) := by
  intro pins s σ H Q I h
  refine attr_of hb (thn (he pins s σ H _ I h) fun u s1 ⟨x, H1, I1, rx, a, C, dx, fs, v, u0, ex, ea, c, k, l, q⟩ => ?_)
  subst ex
  obtain rfl : u = Value.ref a := rx
  exact getcon_ok I1 ea c k l fun s2 I2 => ⟨v, H1, I2, k.rel, q⟩
theorem ps_fld (ha : PE X o ta) (hv : PE X value tv) (hs : swapsWith value (some (.Attribute o f pos')) pos.line X.env = pure false) : PS X (.Assign [.Attribute o f pos'] value pos) (sFld X.K ta tv f) := by
  intro pins s σ H D I h
  refine plainObj_wpAny_Assign_Attribute (thn (hv pins s σ H _ I h) fun u s1 ⟨y, H1, I1, ry, q⟩ => thn (ha pins s1 σ H1 _ I1 q) fun ov s2 ⟨x, H2, I2, rx, a, C, dx, fs, ex, ea, c, n, l, q2⟩ => ?_) hs
  subst ex
  obtain rfl : ov = Value.ref a := rx
  exact setattr_ok I2 ea c n l ry fun s3 I3 => ⟨σ, _, I3, q2⟩
theorem ps_fldaug {op : Operator} {rd : V → V → Hp → VK → Prop} (ha : PE X o ta) (hv : PE X value tv) (hop : InOp X op rd) : PS X (.AugAssign (.Attribute o f tpos) op value pos) (sFldAug X.K ta tv rd f) := by
  intro pins s σ H D I h
  refine wpAny_AugAssign_AttributeAny (thn (ha pins s σ H _ I h) fun ov s1 ⟨x, H1, I1, rx, a, C, dx, fs, v, ex, ea, c, n, l, q⟩ => ?_)
  subst ex
  obtain rfl : ov = Value.ref a := rx
  refine getattr_ok I1 ea c n l fun u s2 I2 ru => thn (hv pins s2 σ H1 _ I2 q) fun w3 s3 ⟨y, H2, I3, ry, q3⟩ => thn (hop pins s3 σ H2 v y u w3 _ I3 ru ry q3) fun w4 s4 ⟨z, H3, I4, rz, dx', fs', ea', l', q4⟩ => ?_
  exact setattr_ok I4 ea' c n l' rz fun s5 I5 => ⟨σ, _, I5, q4⟩
def rAdd : V → V → Hp → VK → Prop := fun x y H Q => ∃ i j, x = .int i ∧ y = .int j ∧ Q (.int (i + j)) H
def rSub : V → V → Hp → VK → Prop := fun x y H Q => ∃ i j, x = .int i ∧ y = .int j ∧ Q (.int (i - j)) H
theorem in_add : InOp X .Add rAdd := by
  rintro pins s σ H x y u v Q I rx ry ⟨i, j, rfl, rfl, q⟩
  obtain ⟨t, rfl⟩ := (show ∃ t, u = Value.int i t from rx)
  obtain ⟨t', rfl⟩ := (show ∃ t', v = Value.int j t' from ry)
  exact PyProof.Rows.iadd_int ⟨.int (i + j), H, I.tok _, ⟨_, rfl⟩, q⟩
theorem in_sub : InOp X .Sub rSub := by
  rintro pins s σ H x y u v Q I rx ry ⟨i, j, rfl, rfl, q⟩
  obtain ⟨t, rfl⟩ := (show ∃ t, u = Value.int i t from rx)
  obtain ⟨t', rfl⟩ := (show ∃ t', v = Value.int j t' from ry)
  exact PyProof.Rows.isub_int ⟨.int (i - j), H, I.tok _, ⟨_, rfl⟩, q⟩

/-- what is between an instance and its method: the tree of a method call -/
theorem methcall_of {pl : Sem Bool} {m : Str} {apos : Pos} {args : List Expr} {pins : List (Addr × Obj)} {s : Shared} {σ : St} {H : Hp} {Q : Value → Shared → Prop} {te : TE} (he : PE X e te) (I : Inv X pins σ H s)
    (h : te σ H fun x H1 => ∃ a C dx fs g, x = .ref a ∧ H1 a = some (.ins C dx fs) ∧ Cls X.K C ∧ Meth X.K C m g ∧ fs.lookup m = none ∧
      ∀ s1, Inv X pins σ H1 s1 → wpAny (model X.prog X.w) X.A (callWith pos (.ref g) [.ref a] (backTo pos (starEach args X.env)) (backToKw pos (keywordEach [] X.env))) Q X.xe s1)
    (ht : eval (.Call (.Attribute e m apos) args [] pos) X.env = (do
      let ov ← eval e X.env
      standAt apos.atName
      let (f, first) ← holding [ov] (getMethod ov m pl)
      callWith pos f first (backTo pos (starEach args X.env)) (backToKw pos (keywordEach [] X.env)))) :
    wpAny (model X.prog X.w) X.A (eval (.Call (.Attribute e m apos) args [] pos) X.env) Q X.xe s := by
  refine PySem.W.methodCall_KW (pl := pl) (thn (he pins s σ H _ I h) fun u s1 ⟨x, H1, I1, rx, a, C, dx, fs, g, ex, ea, c, k, l, q⟩ => ?_) ht
  subst ex
  obtain rfl : u = Value.ref a := rx
  exact getmeth_ok I1 ea c k l (q s1 I1)
end

/-! ### isinstance -/
section
variable {X : Cx} {pins : List (Addr × Obj)} {σ : St} {H : Hp} {s : Shared} {A : Around} {E : Value → Shared → Prop} {Q : Value → Shared → Prop} {c : Value} {b : Bool}
/-- the type of a value, as the fragment's deciders take it; for an instance its class -/
inductive TyOf (K : PySem.W.Frag) (H : Hp) : V → Value → Prop where
  | non : TyOf K H .non (.type "NoneType")
  | bl (x : Bool) : TyOf K H (.bl x) (.type "bool")
  | int (i : Int) : TyOf K H (.int i) (.type "int")
  | str (x : Str) : TyOf K H (.str x) (.type "str")
  | flt (x : UInt64) : TyOf K H (.flt x) (.type "float")
  | lst {a : Addr} {xs : List V} (e : H a = some (.lst xs)) : TyOf K H (.ref a) (.type "list")
  | frz {a : Addr} {o : Obj} {xs : List V} (e : H a = some (.frz o (.lst xs))) : TyOf K H (.ref a) (.type "list")
  | tup {a : Addr} {xs : List V} (e : H a = some (.tup xs)) : TyOf K H (.ref a) (.type "tuple")
  | dK {a : Addr} {kvs : List (Key × V)} (e : H a = some (.dK kvs)) : TyOf K H (.ref a) (.type "dict")
  | dT {a : Addr} {kvs : List (List Key × V)} (e : H a = some (.dT kvs)) : TyOf K H (.ref a) (.type "dict")
  | ins {a C dx : Addr} {fs : List (Str × V)} (e : H a = some (.ins C dx fs)) (cl : Cls K C) (ha : PySem.W.findIn K (.ref C) "__class__" = some (some (.builtin "object.__class__")))
      (hn : PySem.W.specialIn K (.builtin "object.__class__") "__get__" = some (some (.builtin "getset_descriptor.__get__"))) (htk : PySem.W.takesIn K (.builtin "object.__class__") = some true)
      (hm : PySem.W.mroIn K C (.type "object") = some true) : TyOf K H (.ref a) (.ref C)
/-- isinstance(x, c) for one class c, a built-in or an own one: kitOne's answer -/
theorem isinst_ok {x : V} {u t : Value} (I : Inv X pins σ H s) (rx : RelV x u) (ty : TyOf X.K H x t) (e : PySem.W.kitOne X.K t c = some b) (h : ∀ tk, Q (.bool b) { s with toks := tk }) :
    wpAny (model X.prog X.w) A (call (.builtin "isinstance") [u, c]) Q E s := by
  cases ty with
  | non => cases (show u = Value.none from rx); exact PySem.W.kia_one PySem.W.kitx_none I.kIn True.intro e (fun z => nomatch z) h
  | bl y => cases (show u = Value.bool y from rx); exact PySem.W.kia_one PySem.W.kitx_bool I.kIn True.intro e (fun z => nomatch z) h
  | int i => obtain ⟨t, q⟩ := (show ∃ t, u = Value.int i t from rx); cases q; exact PySem.W.kia_one PySem.W.kitx_int I.kIn True.intro e (fun z => nomatch z) h
  | str y => obtain ⟨t, q⟩ := (show ∃ t, u = Value.str y t from rx); cases q; exact PySem.W.kia_one PySem.W.kitx_str I.kIn True.intro e (fun z => nomatch z) h
  | flt y => obtain ⟨t, q⟩ := (show ∃ t, u = Value.float y t from rx); cases q; exact PySem.W.kia_one PySem.W.kitx_float I.kIn True.intro e (fun z => nomatch z) h
  | @lst a xs ea =>
    cases (show u = Value.ref a from rx)
    obtain ⟨_, _, n, _, h1⟩ := (show ObjOk X.prog X.w H s.heap a (.lst xs) from I.hok a _ ea)
    exact PySem.W.kia_one PySem.W.kitx_list I.kIn ⟨_, h1, rfl⟩ e (fun z => nomatch z) h
  | @frz a ob xs ea =>
    cases (show u = Value.ref a from rx)
    obtain ⟨_, _, _, n, _, h1⟩ := (show ObjOk X.prog X.w H s.heap a (.frz ob (.lst xs)) from I.hok a _ ea)
    exact PySem.W.kia_one PySem.W.kitx_list I.kIn ⟨_, h1, rfl⟩ e (fun z => nomatch z) h
  | @tup a xs ea =>
    cases (show u = Value.ref a from rx)
    obtain ⟨_, _, _, p⟩ := (show ObjOk X.prog X.w H s.heap a (.tup xs) from I.hok a _ ea)
    obtain ⟨o, h1, h2, _⟩ := p
    exact PySem.W.kia_one PySem.W.kitx_tuple I.kIn ⟨o, h1, h2⟩ e (fun z => nomatch z) h
  | @dK a kvs ea =>
    cases (show u = Value.ref a from rx)
    obtain ⟨_, _, vs, _, p⟩ := (show ObjOk X.prog X.w H s.heap a (.dK kvs) from I.hok a _ ea)
    obtain ⟨o, es, ep, h1, h2, _⟩ := p
    exact PySem.W.kia_one PySem.W.kitx_dict I.kIn ⟨o, h1, h2.1⟩ e (fun z => nomatch z) h
  | @dT a kvs ea =>
    cases (show u = Value.ref a from rx)
    obtain ⟨_, _, xs, _, o, es, ep, h1, h2, _⟩ := (show ObjOk X.prog X.w H s.heap a (.dT kvs) from I.hok a _ ea)
    exact PySem.W.kia_one PySem.W.kitx_dict I.kIn ⟨o, h1, h2.1⟩ e (fun z => nomatch z) h
  | @ins a C dx fs ea cl ha hn htk hm =>
    cases (show u = Value.ref a from rx)
    obtain ⟨mA, O, _⟩ := ins_get I.hok ea
    obtain ⟨od, J, _⟩ := O.look
    exact PySem.W.kia_one (PySem.W.kitx_own (cl.get _) cl.hd ha hn htk hm) I.kIn J e (fun z => nomatch z) h
end
end L2

namespace L2
open PySem PySem.Spec PyProof.Rows

/-! ### room -/
structure Room (k : Nat) (A : Around) : Prop where
  hd : A.handled = none
  dp : A.depth + 3 * k + 5 < recursionLimit
  un : A.units + 16 * k + 200 < cLine
  gd : A.guards = some []
theorem Room.mono {j k : Nat} {A : Around} (r : Room k A) (h : j ≤ k) : Room j A := ⟨r.hd, by have := r.dp; omega, by have := r.un; omega, r.gd⟩
theorem Room.deeper {k : Nat} {A : Around} (r : Room (k + 1) A) (env : Env) : Room k (A.deeper env) :=
  ⟨r.hd, by have := r.dp; show A.depth + 1 + 3 * k + 5 < _; omega, by have := r.un; show A.units + 3 + 16 * k + 200 < _; omega, r.gd⟩
theorem Room.in1 {k : Nat} {A : Around} (r : Room (k + 1) A) : Room k A.in1 :=
  ⟨r.hd, by have := r.dp; show A.depth + 3 * k + 5 < _; omega, by have := r.un; show A.units + 1 + 16 * k + 200 < _; omega, r.gd⟩
theorem make_depth {A : Around} {C : Addr} {us : List Value} {kw : List (Str × Value)} : (A.under (.builtin "type.__call__" ⟨.ref C :: us, kw⟩)).depth = A.depth + 1 := by
  first | rfl | simp [Around.under, Code.weight, Code.isCreation, Code.isGuard, Code.isCaller, Code.frames, Code.isFrame, guardIds]
theorem make_units {A : Around} {C : Addr} {us : List Value} {kw : List (Str × Value)} : (A.under (.builtin "type.__call__" ⟨.ref C :: us, kw⟩)).units = A.units + 1 := by
  first | rfl | simp [Around.under, Code.cUnits, Code.frames, Code.isFrame]
theorem Room.make {k : Nat} {A : Around} (r : Room (k + 1) A) (C : Addr) (us : List Value) (kw : List (Str × Value)) : Room k (A.under (.builtin "type.__call__" ⟨.ref C :: us, kw⟩)) :=
  ⟨r.hd, by have := r.dp; rw [make_depth]; omega, by have := r.un; rw [make_units]; omega, by
    have g := r.gd
    first | exact g | simp [Around.under, Code.guards, Code.isGuard, guardIds, pushGuards, g]⟩
theorem Room.depth {k : Nat} {A : Around} (r : Room k A) : A.depth < recursionLimit := by have := r.dp; omega
theorem Room.units {k : Nat} {A : Around} (r : Room k A) : A.units + 64 < cLine := by have := r.un; omega
theorem Room.units0 {k : Nat} {A : Around} (r : Room k A) : A.units < cLine := by have := r.un; omega

/-! ### argument lists and displays -/
def tNil : TA := fun _ H Q => Q [] H
def tCons (ta : TE) (tr : TA) : TA := fun σ H Q => ta σ H fun x H1 => tr σ H1 fun xs H2 => Q (x :: xs) H2
section
variable {X : Cx} {e : Expr} {es : List Expr} {te : TE} {t : TA} {pos : Pos}
theorem pa_nil : PA X [] tNil := fun _ _ _ _ H Q I h => Calls.spliced_nil ⟨[], H, I, .nil, h⟩
theorem pa_cons (ha : PE X e te) (hr : PA X es t) (hs : starEach (e :: es) X.env = (false, eval e X.env) :: starEach es X.env := by rfl) : PA X (e :: es) (tCons te t) := by
  intro pos pins s σ H Q I h
  rw [hs]
  show wpAny _ _ (spliced ((false, eval e X.env) :: backTo pos (starEach es X.env))) _ _ s
  refine Calls.spliced_cons (thn (ha pins s σ H _ I h) fun u s1 ⟨x, H1, I1, r1, q1⟩ => ?_)
  exact thn (hr pos pins s1 σ H1 _ I1 q1) fun us s2 ⟨xs, H2, I2, r2, q2⟩ => ⟨x :: xs, H2, I2, .cons r1 r2, q2⟩

/-- a tuple, a list of written items -/
def tTup (t : TA) : TE := fun σ H Q => t σ H fun xs H1 => xs.length ≤ sizeLine ∧ ∀ p, H1 p = none → Q (.ref p) (upd H1 p (.tup xs))
def tLst (t : TA) : TE := fun σ H Q => t σ H fun xs H1 => xs.length ≤ sizeLine ∧ ∀ p, H1 p = none → Q (.ref p) (upd H1 p (.lst xs))
theorem pe_tup {x1} (h : PA X es t) : PE X (.Tuple es x1 pos) (tTup t) := by
  intro pins s σ H Q I hq
  refine wpAny_Tuple_spliced (thn (h pos pins s σ H _ I hq) fun us s1 ⟨xs, H1, I1, r, z, q⟩ => ⟨by rw [← r.length]; exact z, ?_⟩)
  have hf : H1 s1.heap.objs.size = none := I1.hok.fresh (Nat.le_refl _)
  refine ⟨.ref s1.heap.objs.size, upd H1 s1.heap.objs.size (.tup xs), I1.laid (t' := s1.toks) (fun b u e => Heap.get?_push_of_some _ e) (Nat.le_refl _) ?_, rfl, q _ hf⟩
  exact ⟨z, us, r, ⟨_, Heap.get?_push_size _ rfl, rfl, _, rfl⟩⟩
theorem pe_lst (h : PA X es t) : PE X (.List es pos) (tLst t) := by
  intro pins s σ H Q I hq
  refine wpAny_List_spliced (thn (h pos pins s σ H _ I hq) fun us s1 ⟨xs, H1, I1, r, z, q⟩ => ⟨by rw [← r.length]; exact z, ?_⟩)
  have hf : H1 s1.heap.objs.size = none := I1.hok.fresh (Nat.le_refl _)
  refine ⟨.ref s1.heap.objs.size, upd H1 s1.heap.objs.size (.lst xs), I1.laid (t' := s1.toks) (fun b u e => Heap.get?_push_of_some _ e) (Nat.le_refl _) ?_, rfl, q _ hf⟩
  exact ⟨z, us, 0, r, Heap.get?_push_size _ rfl⟩
end

/-! ### what a def promises -/
/-- a def's promise: the bound arguments in the parameters' order, the heap, the wanted end, the wanted exception -/
abbrev Sp := List V → Hp → VK → XK → Prop
/-- how an exception lies behind a call (file 08 gives it): the callers' frames, abstract heap and state ahead of the call, the wish, the exception, the state -/
abbrev CXT := List Env → Hp → Shared → XK → Value → Shared → Prop

/-- the state at a call -/
structure Env0 (P : Program) (w : World) (K : PySem.W.Frag) (mg : Str → Option Value) (base : Heap) (A : Around) (outer : List Env) (s : Shared) (H : Hp) : Prop where
  frames : A.frames = some outer
  mod : Mod K mg base
  bs : ∀ b o, base.get? b = some o → s.heap.get? b = some o ∧ H b = none
  bsz : base.objs.size ≤ s.heap.objs.size
  funs : s.heap.FunFrames base outer
  frf : ∀ b ∈ frs outer, H b = none
  hok : HOk P w H s.heap
  bare : AllBare s.gens
/-- a call's end -/
def CE (outer : List Env) (P : Program) (w : World) (H : Hp) (s : Shared) (Q : VK) (u : Value) (s' : Shared) : Prop :=
  ∃ v H', s'.os = s.os ∧ AllBare s'.gens ∧ Un (frs outer) [] H H' s.heap s'.heap ∧ HOk P w H' s'.heap ∧ RelV v u ∧ Q v H'
def CR (CX : CXT) (outer : List Env) (P : Program) (w : World) (H : Hp) (s : Shared) (Q : VK) (E : XK) (r : Result) (s' : Shared) : Prop :=
  match r with
  | .ok (.ret u) => CE outer P w H s Q u s'
  | .ok _ => False
  | .error e => CX outer H s E e s'
structure FnOk (P : Program) (w : World) (K : PySem.W.Frag) (mg : Str → Option Value) (base : Heap) (CX : CXT) (k : Nat) (f : Addr) (fd : FuncData) (ps : List Str) (sp : Sp) : Prop where
  len : ∀ vs H Q E, sp vs H Q E → vs.length = ps.length
  run : ∀ (A : Around) (outer : List Env) (s : Shared) (H : Hp) (args : Args) (us : List Value) (vs : List V) (Q : VK) (E : XK), Room k A → Env0 P w K mg base A outer s H → BindsTo s fd args (ps.zip us) → Vals vs us → sp vs H Q E →
    codeAny (model P w) A (.call (.ref f) args) (CR CX outer P w H s Q E) s
theorem FnOk.mono {P : Program} {w : World} {K : PySem.W.Frag} {mg : Str → Option Value} {base : Heap} {CX : CXT} {j k : Nat} {f : Addr} {fd : FuncData} {ps : List Str} {sp : Sp} (F : FnOk P w K mg base CX j f fd ps sp) (h : j ≤ k) :
    FnOk P w K mg base CX k f fd ps sp := ⟨F.len, fun A outer s H args us vs Q E hr => F.run A outer s H args us vs Q E (hr.mono h)⟩
/-- a weaker promise -/
theorem FnOk.imp {P : Program} {w : World} {K : PySem.W.Frag} {mg : Str → Option Value} {base : Heap} {CX : CXT} {k : Nat} {f : Addr} {fd : FuncData} {ps : List Str} {sp sp' : Sp} (F : FnOk P w K mg base CX k f fd ps sp)
    (h : ∀ vs H Q E, sp' vs H Q E → sp vs H Q E) : FnOk P w K mg base CX k f fd ps sp' :=
  ⟨fun vs H Q E q => F.len vs H Q E (h _ _ _ _ q), fun A outer s H args us vs Q E hr he hb hv hs => F.run A outer s H args us vs Q E hr he hb hv (h _ _ _ _ hs)⟩

theorem Env0.make {P : Program} {w : World} {K : PySem.W.Frag} {mg : Str → Option Value} {base : Heap} {A : Around} {outer : List Env} {s : Shared} {H : Hp} (e : Env0 P w K mg base A outer s H) (C : Addr) (us : List Value) (kw : List (Str × Value)) :
    Env0 P w K mg base (A.under (.builtin "type.__call__" ⟨.ref C :: us, kw⟩)) outer s H := ⟨by first | exact e.frames | (simpa [Around.under, Code.envs, Code.isFrame, pushEnvs] using e.frames), e.mod, e.bs, e.bsz, e.funs, e.frf, e.hok, e.bare⟩
theorem Env0.in1 {P : Program} {w : World} {K : PySem.W.Frag} {mg : Str → Option Value} {base : Heap} {A : Around} {outer : List Env} {s : Shared} {H : Hp} (e : Env0 P w K mg base A outer s H) :
    Env0 P w K mg base A.in1 outer s H := ⟨e.frames, e.mod, e.bs, e.bsz, e.funs, e.frf, e.hok, e.bare⟩

section
variable {X : Cx} {pins : List (Addr × Obj)} {σ : St} {H : Hp} {s s' : Shared}
/-- from a body: what a callee wants -/
theorem Inv.env0 (I : Inv X pins σ H s) : Env0 X.prog X.w X.K X.mg X.base X.A X.stack s H :=
  ⟨I.ok.frames, I.ok.mod, I.bs, Nat.le_trans I.ok.bsz I.sz, I.stack, I.stkFree, I.hok, I.bare⟩
/-- behind a call -/
theorem Inv.after {Q : VK} {u : Value} (I : Inv X pins σ H s) (h : CE X.stack X.prog X.w H s Q u s') : EP X pins σ Q u s' := by
  obtain ⟨v, H', os, bare, un, hok, r, q⟩ := h
  obtain ⟨hh, g, d, t, os'⟩ := s'
  obtain rfl : os' = s.os := os
  exact ⟨v, H', I.call (h' := hh) (g' := g) (d' := d) (t' := t) (ch := []) un hok bare (fun b z => absurd z (by simp)), r, q⟩
end

/-! ### calls -/
/-- f(..): the written arguments, then the defaults dvs; E: what is wanted of an exception -/
def tCall (sp : Sp) (dvs : List V) (E : XK) (t : TA) : TE := fun σ H Q => t σ H fun vs H1 => sp (vs ++ dvs) H1 Q E
/-- o.m(..) of an instance of the class at C -/
def tMeth (C : Addr) (m : Str) (sp : Sp) (dvs : List V) (E : XK) (ta : TE) (t : TA) : TE := fun σ H Q => ta σ H fun x H1 => ∃ a dx fs, x = .ref a ∧ H1 a = some (.ins C dx fs) ∧ fs.lookup m = none ∧
  t σ H1 fun vs H2 => sp (x :: (vs ++ dvs)) H2 Q E
/-- C(..): a new instance and its dict, then __init__ -/
def tMake (C : Addr) (sp : Sp) (dvs : List V) (E : XK) (t : TA) : TE := fun σ H Q => t σ H fun vs H1 => ∀ x dx, H1 x = none → H1 dx = none → dx ≠ x →
  sp (.ref x :: (vs ++ dvs)) (upd (upd H1 dx (.own x)) x (.ins C dx [])) (fun v H2 => v = .non ∧ Q (.ref x) H2) E

/-- how the parameters are bound: us the positional arguments, kw the keywords' values by name, ds the defaults that fill up -/
def Binds (K : PySem.W.Frag) (fd : FuncData) (ps : List Str) (ds : List Value) : Prop :=
  ∀ (s : Shared) (us : List Value), K.In s.heap → (us ++ ds).length = ps.length → BindsTo s fd ⟨us, []⟩ (ps.zip (us ++ ds))
/-- every parameter is given -/
theorem Binds.all {K : PySem.W.Frag} {fd : FuncData} {ps : List Str} (h : ∀ us : List Value, us.length = ps.length → bindArgs fd ⟨us, []⟩ = pure (ps.zip us)) : Binds K fd ps [] := fun s us _ hl => by
  rw [List.append_nil] at hl ⊢
  exact .of_eq (h us hl)

/-- an exception of a callee reaches what this body wants of exceptions -/
def Passes (CX : CXT) (X : Cx) (E : XK) : Prop := ∀ (pins : List (Addr × Obj)) (σ : St) (H : Hp) (s : Shared) (e : Value) (s' : Shared), Inv X pins σ H s → CX X.stack H s E e s' → X.xe e s'

section
variable {X : Cx} {CX : CXT} {k : Nat} {f C : Addr} {fd : FuncData} {ps : List Str} {sp : Sp} {dvs : List V} {ds : List Value} {E : XK} {x m : Str} {p pos apos : Pos} {e o : Expr} {es : List Expr} {ta : TE} {t : TA}

/-- the callee runs -/
theorem run_fn {pins : List (Addr × Obj)} {σ : St} {H : Hp} {s : Shared} {Q : VK} {us : List Value} {vs : List V} (F : FnOk X.prog X.w X.K X.mg X.base CX k f fd ps sp) (hr : Room k X.A) (hb : Binds X.K fd ps ds) (hd : Vals dvs ds) (hx : Passes CX X E)
    (I : Inv X pins σ H s) (r : Vals vs us) (h : sp (vs ++ dvs) H Q E) : wpAny (model X.prog X.w) X.A (call (.ref f) us) (EP X pins σ Q) X.xe s := by
  have r2 : Vals (vs ++ dvs) (us ++ ds) := r.append hd
  have hl : (us ++ ds).length = ps.length := by rw [← r2.length]; exact F.len _ _ _ _ h
  refine wpAny_call (codeAny_mono (F.run X.A X.stack s H ⟨us, []⟩ (us ++ ds) (vs ++ dvs) Q E hr I.env0 (hb s us I.kIn hl) r2 h) fun r s' hq => ?_)
  cases r with
  | error e => exact hx pins σ H s e s' I hq
  | ok fl =>
    cases fl with
    | ret u => exact I.after hq
    | next => exact False.elim hq
    | brk => exact False.elim hq
    | cont => exact False.elim hq

theorem pe_call (F : FnOk X.prog X.w X.K X.mg X.base CX k f fd ps sp) (hr : Room k X.A) (hg : Gl X x) (hm : X.mg x = some (.ref f)) (hk : PySem.W.keepIn X.K (.ref f) = true) (hb : Binds X.K fd ps ds) (hd : Vals dvs ds) (hx : Passes CX X E)
    (ha : PA X (e :: es) t) (hdb : (x == ("__debug__" : Str)) = false := by decide) (he : starEach (e :: es) X.env = (false, eval e X.env) :: starEach es X.env := by rfl) (hpl : (backTo pos (starEach es X.env)).any (·.1) = false := by rfl) :
    PE X (.Call (.Name x p) (e :: es) [] pos) (tCall sp dvs E t) := by
  intro pins s σ H Q I h
  refine wpAny_Call_Name_kw (ld_glob I hg hm ?_ hdb)
  refine PySem.W.callWith_K (h₀ := X.base) I.ok.mod.kin hk (thn (ha pos pins s σ H _ I h) fun us s1 ⟨vs, H1, I1, r, q⟩ => ⟨I1.kIn, ?_⟩) he hpl
  exact run_fn F hr hb hd hx I1 r q
theorem pe_call0 (F : FnOk X.prog X.w X.K X.mg X.base CX k f fd ps sp) (hr : Room k X.A) (hg : Gl X x) (hm : X.mg x = some (.ref f)) (hk : PySem.W.keepIn X.K (.ref f) = true) (hb : Binds X.K fd ps ds) (hd : Vals dvs ds) (hx : Passes CX X E)
    (hdb : (x == ("__debug__" : Str)) = false := by decide) : PE X (.Call (.Name x p) [] [] pos) (tCall sp dvs E tNil) := by
  intro pins s σ H Q I h
  refine wpAny_Call_Name_kw (ld_glob I hg hm ?_ hdb)
  exact PySem.W.callWith_K0 I.kIn hk (run_fn (us := []) F hr hb hd hx I .nil h)

/-- o.m(e, ..) -/
theorem pe_meth {pl : Sem Bool} (he : PE X o ta) (c : Cls X.K C) (hm : Meth X.K C m f) (F : FnOk X.prog X.w X.K X.mg X.base CX k f fd ps sp) (hr : Room k X.A) (hb : Binds X.K fd ps ds) (hd : Vals dvs ds) (hx : Passes CX X E) (ha : PA X (e :: es) t)
    (hst : starEach (e :: es) X.env = (false, eval e X.env) :: starEach es X.env := by rfl) (hpl : (backTo pos (starEach es X.env)).any (·.1) = false := by rfl)
    (ht : eval (.Call (.Attribute o m apos) (e :: es) [] pos) X.env = (do
      let ov ← eval o X.env
      standAt apos.atName
      let (f, first) ← holding [ov] (getMethod ov m pl)
      callWith pos f first (backTo pos (starEach (e :: es) X.env)) (backToKw pos (keywordEach [] X.env))) := by rfl) :
    PE X (.Call (.Attribute o m apos) (e :: es) [] pos) (tMeth C m sp dvs E ta t) := by
  intro pins s σ H Q I h
  refine PySem.W.methodCall_KW (pl := pl) (thn (he pins s σ H _ I h) fun u s1 ⟨x, H1, I1, rx, a, dx, fs, ex, ea, l, q⟩ => ?_) ht
  subst ex
  obtain rfl : u = Value.ref a := rx
  refine getmeth_ok I1 ea c hm l ?_
  refine PySem.W.callWith_K (first := [.ref a]) (h₀ := X.base) I.ok.mod.kin hm.kp (thn (ha pos pins s1 σ H1 _ I1 q) fun us s2 ⟨vs, H2, I2, r, q2⟩ => ⟨I2.kIn, ?_⟩) hst hpl
  exact run_fn (us := .ref a :: us) (vs := .ref a :: vs) F hr hb hd hx I2 (.cons rfl r) q2
/-- o.m() -/
theorem pe_meth0 {pl : Sem Bool} (he : PE X o ta) (c : Cls X.K C) (hm : Meth X.K C m f) (F : FnOk X.prog X.w X.K X.mg X.base CX k f fd ps sp) (hr : Room k X.A) (hb : Binds X.K fd ps ds) (hd : Vals dvs ds) (hx : Passes CX X E)
    (ht : eval (.Call (.Attribute o m apos) [] [] pos) X.env = (do
      let ov ← eval o X.env
      standAt apos.atName
      let (f, first) ← holding [ov] (getMethod ov m pl)
      callWith pos f first (backTo pos (starEach [] X.env)) (backToKw pos (keywordEach [] X.env))) := by rfl) :
    PE X (.Call (.Attribute o m apos) [] [] pos) (tMeth C m sp dvs E ta tNil) := by
  intro pins s σ H Q I h
  refine PySem.W.methodCall_KW (pl := pl) (thn (he pins s σ H _ I h) fun u s1 ⟨x, H1, I1, rx, a, dx, fs, ex, ea, l, q⟩ => ?_) ht
  subst ex
  obtain rfl : u = Value.ref a := rx
  refine getmeth_ok I1 ea c hm l ?_
  exact PySem.W.callWith_K0 (first := [.ref a]) I1.kIn hm.kp (run_fn (us := [.ref a]) (vs := [.ref a]) F hr hb hd hx I1 (.cons rfl .nil) q)

/-- what a class must have to be made -/
structure Mk (K : PySem.W.Frag) (C f : Addr) : Prop where
  makes : PySem.W.makesIn K C = true
  init : PySem.W.findIn K (.ref C) "__init__" = some (some (.ref f))
  fn : PySem.W.isFn K (.ref f) = true
  kp : PySem.W.keepIn K (.ref C) = true

theorem run_make {pins : List (Addr × Obj)} {σ : St} {H : Hp} {s : Shared} {Q : VK} {us : List Value} {vs : List V} (M : Mk X.K C f) (F : FnOk X.prog X.w X.K X.mg X.base CX k f fd ps sp) (hr : Room (k + 1) X.A) (hb : Binds X.K fd ps ds) (hd : Vals dvs ds)
    (hx : Passes CX X E) (I : Inv X pins σ H s) (r : Vals vs us)
    (h : ∀ x dx, H x = none → H dx = none → dx ≠ x → sp (.ref x :: (vs ++ dvs)) (upd (upd H dx (.own x)) x (.ins C dx [])) (fun v H2 => v = .non ∧ Q (.ref x) H2) E) :
    wpAny (model X.prog X.w) X.A (call (.ref C) us) (EP X pins σ Q) X.xe s := by
  have hq := h (s.heap.objs.size + 1) s.heap.objs.size (I.hok.fresh (Nat.le_succ _)) (I.hok.fresh (Nat.le_refl _)) (Nat.ne_of_lt (Nat.lt_succ_self _))
  have I2 := Inv.made (C := C) I
  have r2 : Vals (V.ref (s.heap.objs.size + 1) :: (vs ++ dvs)) (Value.ref (s.heap.objs.size + 1) :: (us ++ ds)) := .cons rfl (r.append hd)
  have hl : (Value.ref (s.heap.objs.size + 1) :: us ++ ds).length = ps.length := by
    have e := r2.length
    rw [F.len _ _ _ _ hq] at e
    exact e.symm
  refine wpAny_call (make_map (f := f) I.kIn M.makes M.init (beq_iff_eq.mp M.fn) (codeAny_mono (F.run _ X.stack _ _ ⟨Value.ref (s.heap.objs.size + 1) :: us, []⟩ (Value.ref (s.heap.objs.size + 1) :: (us ++ ds)) _ _ E (hr.make C us [])
    (I2.env0.make C us []) (hb _ (Value.ref (s.heap.objs.size + 1) :: us) I2.kIn hl) r2 hq) fun r s' hq' => ?_))
  cases r with
  | error e => exact hx pins σ _ _ e s' I2 hq'
  | ok fl =>
    cases fl with
    | ret u =>
      obtain ⟨v, H', I3, rv, ev, q3⟩ := I2.after hq'
      subst ev
      exact ⟨rv, ⟨V.ref (s.heap.objs.size + 1), H', I3, rfl, q3⟩⟩
    | next => exact False.elim hq'
    | brk => exact False.elim hq'
    | cont => exact False.elim hq'
theorem pe_make (M : Mk X.K C f) (F : FnOk X.prog X.w X.K X.mg X.base CX k f fd ps sp) (hr : Room (k + 1) X.A) (hg : Gl X x) (hm : X.mg x = some (.ref C)) (hb : Binds X.K fd ps ds) (hd : Vals dvs ds) (hx : Passes CX X E)
    (ha : PA X (e :: es) t) (hdb : (x == ("__debug__" : Str)) = false := by decide) (he : starEach (e :: es) X.env = (false, eval e X.env) :: starEach es X.env := by rfl) (hpl : (backTo pos (starEach es X.env)).any (·.1) = false := by rfl) :
    PE X (.Call (.Name x p) (e :: es) [] pos) (tMake C sp dvs E t) := by
  intro pins s σ H Q I h
  refine wpAny_Call_Name_kw (ld_glob I hg hm ?_ hdb)
  refine PySem.W.callWith_K (h₀ := X.base) I.ok.mod.kin M.kp (thn (ha pos pins s σ H _ I h) fun us s1 ⟨vs, H1, I1, r, q⟩ => ⟨I1.kIn, ?_⟩) he hpl
  exact run_make M F hr hb hd hx I1 r q
theorem pe_make0 (M : Mk X.K C f) (F : FnOk X.prog X.w X.K X.mg X.base CX k f fd ps sp) (hr : Room (k + 1) X.A) (hg : Gl X x) (hm : X.mg x = some (.ref C)) (hb : Binds X.K fd ps ds) (hd : Vals dvs ds) (hx : Passes CX X E)
    (hdb : (x == ("__debug__" : Str)) = false := by decide) : PE X (.Call (.Name x p) [] [] pos) (tMake C sp dvs E tNil) := by
  intro pins s σ H Q I h
  refine wpAny_Call_Name_kw (ld_glob I hg hm ?_ hdb)
  exact PySem.W.callWith_K0 I.kIn M.kp (run_make (us := []) M F hr hb hd hx I .nil h)
end

/-! ### keywords -/
/-- the values of the keywords, from the left -/
def PK (X : Cx) (kws : List Keyword) (t : TA) : Prop :=
  ∀ (pos : Pos) (pins : List (Addr × Obj)) (s : Shared) (σ : St) (H : Hp) (Q : List V → Hp → Prop), Inv X pins σ H s → t σ H Q → wpAny (model X.prog X.w) X.A (evalAll ((backToKw pos (keywordEach kws X.env)).map (·.2))) (AP X pins σ Q) X.xe s
section
variable {X : Cx} {CX : CXT} {k : Nat} {f C : Addr} {fd : FuncData} {ps ks : List Str} {sp : Sp} {E : XK} {x m : Str} {p pos apos kpos : Pos} {e o : Expr} {es : List Expr} {kws : List Keyword} {te ta : TE} {t tk : TA} {nm : Option Str}
theorem pk_nil : PK X [] tNil := fun _ _ _ _ H Q I h => wpAny_evalAll_nil ⟨[], H, I, .nil, h⟩
theorem pk_cons (ha : PE X e te) (hr : PK X kws t) : PK X (⟨nm, e, kpos⟩ :: kws) (tCons te t) := by
  intro pos pins s σ H Q I h
  show wpAny _ _ (evalAll ((do let v ← eval e X.env; standAt pos; pure v) :: (backToKw pos (keywordEach kws X.env)).map (·.2))) _ _ s
  refine wpAny_evalAll_cons (wpAny_bind (thn (ha pins s σ H _ I h) fun u s1 ⟨x, H1, I1, r1, q1⟩ => wpAny_bind (wpAny_standAt (wpAny_pure ?_))))
  exact thn (hr pos pins s1 σ H1 _ I1 q1) fun us s2 ⟨xs, H2, I2, r2, q2⟩ => ⟨x :: xs, H2, I2, .cons r1 r2, q2⟩

/-- how a call with keywords binds: g puts the positional values us and the keywords' values ws (names ks) in the parameters' order, defaults among them -/
structure KBinds (K : PySem.W.Frag) (fd : FuncData) (ps ks : List Str) (g : List Value → List Value → List Value) (gV : List V → List V → List V) : Prop where
  to : ∀ (s : Shared) (us ws : List Value), K.In s.heap → (g us ws).length = ps.length → BindsTo s fd ⟨us, ks.zip ws⟩ (ps.zip (g us ws))
  rel : ∀ {vs : List V} {us : List Value} {zs : List V} {ws : List Value}, Vals vs us → Vals zs ws → Vals (gV vs zs) (g us ws)
def tCallK (sp : Sp) (gV : List V → List V → List V) (E : XK) (t tk : TA) : TE := fun σ H Q => t σ H fun vs H1 => tk σ H1 fun zs H2 => sp (gV vs zs) H2 Q E
variable {g : List Value → List Value → List Value} {gV : List V → List V → List V}
theorem run_fnk {pins : List (Addr × Obj)} {σ : St} {H : Hp} {s : Shared} {Q : VK} {us ws : List Value} {vs zs : List V} (F : FnOk X.prog X.w X.K X.mg X.base CX k f fd ps sp) (hr : Room k X.A) (hb : KBinds X.K fd ps ks g gV) (hx : Passes CX X E)
    (I : Inv X pins σ H s) (r : Vals vs us) (rz : Vals zs ws) (h : sp (gV vs zs) H Q E) : wpAny (model X.prog X.w) X.A (call (.ref f) us (ks.zip ws)) (EP X pins σ Q) X.xe s := by
  have r2 := hb.rel r rz
  have hl : (g us ws).length = ps.length := by rw [← r2.length]; exact F.len _ _ _ _ h
  refine wpAny_call (codeAny_mono (F.run X.A X.stack s H ⟨us, ks.zip ws⟩ (g us ws) (gV vs zs) Q E hr I.env0 (hb.to s us ws I.kIn hl) r2 h) fun r s' hq => ?_)
  cases r with
  | error e => exact hx pins σ H s e s' I hq
  | ok fl =>
    cases fl with
    | ret u => exact I.after hq
    | next => exact False.elim hq
    | brk => exact False.elim hq
    | cont => exact False.elim hq
/-- f(e, .., k = v, ..) -/
theorem pe_callK (F : FnOk X.prog X.w X.K X.mg X.base CX k f fd ps sp) (hr : Room k X.A) (hg : Gl X x) (hm : X.mg x = some (.ref f)) (hk : PySem.W.keepIn X.K (.ref f) = true) (hb : KBinds X.K fd ps ks g gV) (hx : Passes CX X E)
    (ha : PA X (e :: es) t) (hkw : PK X kws tk) (hall : (backToKw pos (keywordEach kws X.env)).all (·.1.isSome) = true := by rfl) (hks : (backToKw pos (keywordEach kws X.env)).filterMap (·.1) = ks := by rfl)
    (hdb : (x == ("__debug__" : Str)) = false := by decide) (he : starEach (e :: es) X.env = (false, eval e X.env) :: starEach es X.env := by rfl)
    (hpl : ((backTo pos (starEach (e :: es) X.env)).any (·.1) || (backToKw pos (keywordEach kws X.env)).any (·.1.isNone)) = false := by rfl) :
    PE X (.Call (.Name x p) (e :: es) kws pos) (tCallK sp gV E t tk) := by
  intro pins s σ H Q I h
  refine wpAny_Call_Name_kw (ld_glob I hg hm ?_ hdb)
  refine PySem.W.callWith_KW (h₀ := X.base) I.ok.mod.kin hk hall (thn (ha pos pins s σ H _ I h) fun us s1 ⟨vs, H1, I1, r, q⟩ => ?_) hpl he
  refine thn (hkw pos pins s1 σ H1 _ I1 q) fun ws s2 ⟨zs, H2, I2, rz, q2⟩ => ⟨I2.kIn, ?_⟩
  rw [hks]
  exact run_fnk F hr hb hx I2 r rz q2
end

/-! ### a def's body keeps its promise -/
/-- names: the parameters first -/
structure FnScope (N P : List Str) (sc : Scope) : Prop where
  kind : sc.kind = .function
  co : sc.isCoroutine = false
  gen : sc.isGenerator = false
  nd : N.Nodup
  pre : N.take P.length = P
  par : ∀ x ∈ P, sc.names.lookup x = some .local ∨ sc.names.lookup x = some .cell
  nofree : ∀ y ∈ sc.names, y.2 ≠ .free

theorem bindL_out {kindOf : Str → Option NameKind} {x : Str} : ∀ {binds : List (Str × Value)} {m : Str → Option Value}, (∀ v, (x, v) ∉ binds) → bindL kindOf binds m x = m x
  | [], _, _ => rfl
  | (n, v) :: r, m, h => by
    unfold bindL
    rw [bindL_out fun w hw => h w (List.mem_cons_of_mem _ hw)]
    split
    · have : x ≠ n := by rintro rfl; exact h v List.mem_cons_self
      simp [this]
    · rfl
theorem bindC_out {kindOf : Str → Option NameKind} {x : Str} : ∀ {binds : List (Str × Value)} {m : Str → Option Value}, (∀ v, (x, v) ∉ binds) → bindC kindOf binds m x = m x
  | [], _, _ => rfl
  | (n, v) :: r, m, h => by
    unfold bindC
    rw [bindC_out fun w hw => h w (List.mem_cons_of_mem _ hw)]
    split
    · rfl
    · have : x ≠ n := by rintro rfl; exact h v List.mem_cons_self
      simp [this]
theorem bindL_get {kindOf : Str → Option NameKind} {x : Str} {v : Value} : ∀ {P : List Str} {vs : List Value} {i : Nat} {m : Str → Option Value}, P.Nodup → P[i]? = some x → vs[i]? = some v → kindOf x = some .local →
    bindL kindOf (P.zip vs) m x = some v
  | [], _, _, _, _, h, _, _ => by simp at h
  | _ :: _, [], _, _, _, _, h, _ => by simp at h
  | p :: P, w :: vs, 0, m, nd, h1, h2, hk => by
    simp at h1 h2; subst h1; subst h2
    show bindL kindOf ((p, w) :: P.zip vs) m p = _
    unfold bindL
    rw [bindL_out fun v hv => (List.nodup_cons.mp nd).1 (List.of_mem_zip hv).1, if_pos hk]
    simp
  | p :: P, w :: vs, i + 1, m, nd, h1, h2, hk => by
    show bindL kindOf ((p, w) :: P.zip vs) m x = _
    unfold bindL
    exact bindL_get (i := i) (List.nodup_cons.mp nd).2 (by simpa using h1) (by simpa using h2) hk
theorem bindC_get {kindOf : Str → Option NameKind} {x : Str} {v : Value} : ∀ {P : List Str} {vs : List Value} {i : Nat} {m : Str → Option Value}, P.Nodup → P[i]? = some x → vs[i]? = some v → kindOf x ≠ some .local →
    bindC kindOf (P.zip vs) m x = some v
  | [], _, _, _, _, h, _, _ => by simp at h
  | _ :: _, [], _, _, _, _, h, _ => by simp at h
  | p :: P, w :: vs, 0, m, nd, h1, h2, hk => by
    simp at h1 h2; subst h1; subst h2
    show bindC kindOf ((p, w) :: P.zip vs) m p = _
    unfold bindC
    rw [bindC_out fun v hv => (List.nodup_cons.mp nd).1 (List.of_mem_zip hv).1, if_neg hk]
    simp
  | p :: P, w :: vs, i + 1, m, nd, h1, h2, hk => by
    show bindC kindOf ((p, w) :: P.zip vs) m x = _
    unfold bindC
    exact bindC_get (i := i) (List.nodup_cons.mp nd).2 (by simpa using h1) (by simpa using h2) hk

/-- the names' values at the entry -/
def start (N : List Str) (vs : List V) : St := vs.map some ++ List.replicate (N.length - vs.length) none

/-- the context of a def's body, at its entry; an exception leaves the frame, then lies as CX says -/
def cxOf (CX : CXT) (P : Program) (w : World) (K : PySem.W.Frag) (mg : Str → Option Value) (base : Heap) (N : List Str) (qual : Str) (scope : Scope) (f : Addr) (cd : Value) (A : Around) (outer : List Env) (s : Shared) (H : Hp) (E : XK) : Cx where
  prog := P
  w := w
  K := K
  mg := mg
  base := base
  A := A.deeper (envOfC qual scope s.heap.objs.size f cd)
  N := N
  s₀ := s
  H₀ := H
  env := envOfC qual scope s.heap.objs.size f cd
  outer := outer
  stack := envOfC qual scope s.heap.objs.size f cd :: outer
  ex := []
  calm := true
  fn := fun _ => true
  pn := []
  xe := fun e s' => wpAny (model P w) (A.deeper (envOfC qual scope s.heap.objs.size f cd)) (leaving (envOfC qual scope s.heap.objs.size f cd) e) (fun _ s'' => CX outer H s E e s'') (fun e' s'' => CX outer H s E e' s'') s'

theorem cell_has {sc : Scope} {n : Nat} {x : Str} (h : sc.names.lookup x = some .cell) : ∃ c, (cellsFrom n sc.names []).lookup x = some c := by
  have q := PySem.W.cellsFrom_some sc.names n [] (.inl h)
  exact Option.isSome_iff_exists.mp q

theorem inv_start {CX : CXT} {P : Program} {w : World} {K : PySem.W.Frag} {mg : Str → Option Value} {base : Heap} {N ps : List Str} {qual : Str} {scope : Scope} {f : Addr} {cd : Value} {A : Around} {outer : List Env} {s s1 : Shared} {H : Hp} {E : XK} {us : List Value} {vs : List V}
    (S : FnScope N ps scope) (hd : A.handled = none) (e0 : Env0 P w K mg base A outer s H) (hl : vs.length = ps.length) (r : Vals vs us)
    (x : InCallC s s.heap.objs.size (bindL (envOfC qual scope s.heap.objs.size f cd).kindOf (ps.zip us) fun _ => none) (cellsFrom (s.heap.objs.size + 1) scope.names []) (bindC (envOfC qual scope s.heap.objs.size f cd).kindOf (ps.zip us) fun _ => none) s1) :
    Inv (cxOf CX P w K mg base N qual scope f cd A outer s H E) [] (start N vs) H s1 := by
  have hpl : ps.length ≤ N.length := by have := congrArg List.length S.pre; rw [List.length_take] at this; omega
  obtain ⟨h1, tk, rfl, hk⟩ := x.done
  have noA : ∀ b : Addr, b ∉ (cxOf CX P w K mg base N qual scope f cd A outer s H E).ex := fun b z => absurd (show b ∈ ([] : List Addr) from z) (by simp)
  refine ⟨⟨e0.mod, S.kind, rfl, rfl, Nat.le_refl _, fun y z c h1 h2 => ?_, fun y hy => ?_, fun y c _ h => ?_, fun _ => hd, Around.frames_deeper e0.frames, .inr ⟨rfl, rfl⟩, fun b z => absurd z (noA b), e0.bs, e0.bsz, fun b _ _ => noA b, fun b z => absurd z (noA b), e0.funs, e0.frf⟩,
    rfl, e0.bare, Un.kept hk, ⟨_, x.toInCall.ns, fun i y v h1 h2 h3 => ?_⟩, fun y c h => ⟨_, x.cell y c h⟩, e0.hok.fresh (Nat.le_refl _), fun y c h => ?_, fun p hp => absurd (show p ∈ ([] : List (Addr × Obj)) from hp) (by simp), e0.hok.kept hk, ?_⟩
  · exact name_of_addr x.apart (PySem.mem_of_lookup h1) (PySem.mem_of_lookup h2)
  · have hy : scope.names.lookup y = some .cell ∨ scope.names.lookup y = some .free := hy
    rcases hy with hy | hy
    · exact cell_has hy
    · exact absurd rfl (S.nofree _ (PySem.mem_of_lookup hy))
  · exact Nat.le_of_lt (x.above y c (PySem.mem_of_lookup h))
  · have hi : i < vs.length := by
      unfold start at h2
      by_cases hi : i < vs.length
      · exact hi
      · rw [List.getElem?_append_right (by simpa using hi)] at h2
        rw [List.getElem?_replicate] at h2
        split at h2 <;> cases h2
    have ha : vs[i]? = some v := by
      unfold start at h2
      rw [List.getElem?_append_left (by simpa using hi), List.getElem?_map] at h2
      cases e : vs[i]? with
      | none => rw [e] at h2; cases h2
      | some a => rw [e] at h2; cases h2; rfl
    obtain ⟨u, hu, rv⟩ := r.get ha
    have hp : ps[i]? = some y := by
      rw [← S.pre, List.getElem?_take_of_lt (by omega)]; exact h1
    have ndP : ps.Nodup := by rw [← S.pre]; exact S.nd.sublist (List.take_sublist _ _)
    refine ⟨u, rv, ?_⟩
    rcases S.par y (List.mem_of_getElem? hp) with k | k
    · exact .inl ⟨k, bindL_get ndP hp hu k⟩
    · obtain ⟨c, e⟩ := cell_has (n := s.heap.objs.size + 1) k
      refine .inr ⟨.inl k, c, e, ?_⟩
      have q := x.cell y c e
      rw [bindC_get ndP hp hu (by show scope.names.lookup y ≠ _; rw [k]; decide)] at q
      exact q
  · exact e0.hok.fresh (Nat.le_of_lt (x.above y c (PySem.mem_of_lookup h)))
  · unfold start
    show _ = N.length
    rw [List.length_append, List.length_map, List.length_replicate]
    omega

/-- THE RULE: a def (or a method) of the text, by its body. The body's reading t is chosen for each entry; it is run at the parameters' values -/
theorem fn_of {CX : CXT} {P : Program} {w : World} {K : PySem.W.Frag} {mg : Str → Option Value} {base : Heap} {k : Nat} {f : Addr} {name qual : Str} {params : Arguments} {body : List Stmt} {scope : Scope} {dV kV doc pm cdv ct oc : Value} {an od : Option Addr}
    {osl : Array (Option Value)} {N ps : List Str} {sp : Sp} (lk : K.lookup f = some ⟨oc, od, .func (PySem.W.fnOf name qual params body scope dV kV doc pm an cdv ct), osl⟩) (hcd : PySem.W.codeIn K cdv qual = true) (S : FnScope N ps scope)
    (len : ∀ vs H Q E, sp vs H Q E → vs.length = ps.length)
    (hbody : ∀ (A : Around) (outer : List Env) (s : Shared) (H : Hp) (vs : List V) (Q : VK) (E : XK), Room k (A.deeper (envOfC qual scope s.heap.objs.size f cdv)) → sp vs H Q E →
      ∃ t, PSs (cxOf CX P w K mg base N qual scope f cdv A outer s H E) body t ∧ t { nx := fun _ H' => Q .non H', rt := Q } (start N vs) H) :
    FnOk P w K mg base CX (k + 1) f (PySem.W.fnOf name qual params body scope dV kV doc pm an cdv ct) ps sp := by
  refine ⟨len, fun A outer s H args us vs Q E hr e0 hb r hsp => ?_⟩
  have hl := len _ _ _ _ hsp
  have KX : K.In s.heap := e0.mod.kin.keeps fun b o e => (e0.bs b o e).1
  have lim : s.heap.NoLimit := e0.mod.nolimit.keeps fun b o e => (e0.bs b o e).1
  have hkind : ∀ y ∈ ps.zip us, scope.names.lookup y.1 = some .local ∨ (scope.names.lookup y.1 = some .cell ∧ ((cellsFrom (s.heap.objs.size + 1) scope.names []).lookup y.1).isSome = true) := fun ⟨n, v⟩ hy => by
    rcases S.par n (List.of_mem_zip hy).1 with q | q
    · exact .inl q
    · exact .inr ⟨q, PySem.W.cellsFrom_some _ _ _ (.inl q)⟩
  refine codeAny_call_function hr.depth (KX _ _ lk) rfl S.co S.gen rfl (PySem.W.codeRec_of KX hcd) (hb _ _ _ _ ?_)
  refine wpAny_newFunctionEnv_cells S.kind hkind fun env he s1 x => ?_
  subst he
  refine ⟨lim.keeps x.toInCall.keep, codeAny_func ?_⟩
  obtain ⟨t, ht, hq⟩ := hbody A outer s H vs Q E (hr.deeper _) hsp
  have I : Inv (cxOf CX P w K mg base N qual scope f cdv A outer s H E) [] (start N vs) H s1 := inv_start S hr.hd e0 hl r x
  refine wpAny_mono (ht [] s1 (start N vs) H _ I hq) (fun fl s' hs => ?_) fun e s' hs => hs
  have fin : ∀ {σ' : St} {H' : Hp} {v : V} {u : Value}, Inv (cxOf CX P w K mg base N qual scope f cdv A outer s H E) [] σ' H' s' → RelV v u → Q v H' → CE outer P w H s Q u s' :=
    fun {σ' H' v u} J rv q => ⟨v, H', J.os, J.bare, J.base, J.hok, rv, q⟩
  cases fl with
  | ret u =>
    obtain ⟨v, σ', H', J, rv, q⟩ := hs
    exact fin J rv q
  | next =>
    obtain ⟨σ', H', J, q⟩ := hs
    exact fin (v := V.non) (u := Value.none) J rfl q
  | brk =>
    obtain ⟨_, _, _, q⟩ := hs
    exact False.elim q
  | cont =>
    obtain ⟨_, _, _, q⟩ := hs
    exact False.elim q
end L2

namespace L2
open PySem PySem.Spec PyProof.Rows
section
variable {X : Cx} {x : Str} {p pos : Pos} {e : Expr} {es : List Expr} {t : TA} {id T : String} {r : List V → Hp → VK → Prop}

def tCB (r : List V → Hp → VK → Prop) (t : TA) : TE := fun σ H Q => t σ H fun vs H1 => r vs H1 Q
/-- f(e, ..), f a built-in function -/
theorem pe_callB (hc : CallR X (.builtin id) r) (hg : Gl X x) (hm : X.mg x = none) (hv : bootBuiltins x = some (.builtin id)) (ha : PA X (e :: es) t) (hn : x ≠ "__name__" := by decide) (hdb : (x == ("__debug__" : Str)) = false := by decide)
    (he : starEach (e :: es) X.env = (false, eval e X.env) :: starEach es X.env := by rfl) (hpl : (backTo pos (starEach es X.env)).any (·.1) = false := by rfl) : PE X (.Call (.Name x p) (e :: es) [] pos) (tCB r t) := by
  intro pins s σ H Q I h
  refine wpAny_Call_Name_kw (ld_blt I hg hm hv ?_ hn hdb)
  exact PyProof.Rows.callWith_builtin1 (thn (ha pos pins s σ H _ I h) fun us s1 ⟨vs, H1, I1, r1, q1⟩ => hc pins s1 σ H1 vs us Q I1 r1 q1) he hpl
/-- T(e, ..), T a built-in type -/
theorem pe_callTy (hc : CallR X (.type T) r) (hg : Gl X x) (hm : X.mg x = none) (hv : bootBuiltins x = some (.type T)) (ha : PA X (e :: es) t) (hn : x ≠ "__name__" := by decide) (hdb : (x == ("__debug__" : Str)) = false := by decide)
    (he : starEach (e :: es) X.env = (false, eval e X.env) :: starEach es X.env := by rfl) (hpl : (backTo pos (starEach es X.env)).any (·.1) = false := by rfl) : PE X (.Call (.Name x p) (e :: es) [] pos) (tCB r t) := by
  intro pins s σ H Q I h
  refine wpAny_Call_Name_kw (ld_blt I hg hm hv ?_ hn hdb)
  exact PyProof.Rows.callWith_type1 (thn (ha pos pins s σ H _ I h) fun us s1 ⟨vs, H1, I1, r1, q1⟩ => hc pins s1 σ H1 vs us Q I1 r1 q1) he hpl
/-- T() -/
theorem pe_callTy0 (hc : CallR X (.type T) r) (hg : Gl X x) (hm : X.mg x = none) (hv : bootBuiltins x = some (.type T)) (hn : x ≠ "__name__" := by decide) (hdb : (x == ("__debug__" : Str)) = false := by decide) :
    PE X (.Call (.Name x p) [] [] pos) (tCB r tNil) := by
  intro pins s σ H Q I h
  refine wpAny_Call_Name_kw (ld_blt I hg hm hv ?_ hn hdb)
  exact PyProof.Rows.callWith_type0 (hc pins s σ H [] [] Q I .nil h)
end
end L2

namespace HT
open PySem PyProof.Rows

/-- t < u of tuples of ints -/
def lexLt : List Int → List Int → Bool
  | [], [] => false
  | [], _ :: _ => true
  | _ :: _, [] => false
  | x :: xs, y :: ys => if x = y then lexLt xs ys else decide (x < y)
theorem lexLt_cons (x y : Int) (xs ys : List Int) : lexLt (x :: xs) (y :: ys) = if x = y then lexLt xs ys else decide (x < y) := rfl
theorem lexLt_nil_nil : lexLt [] [] = false := rfl
theorem lexLt_nil_cons (y : Int) (ys : List Int) : lexLt [] (y :: ys) = true := rfl
theorem lexLt_cons_nil (x : Int) (xs : List Int) : lexLt (x :: xs) [] = false := rfl

theorem eqAt_int (A : Around) (s : Shared) (a : Int) (t : Tok) (c : Int) (u : Tok) : ∃ e, SeqAt.EqAt A s (.int a t) (.int c u) e ∧ (e = true ↔ a = c) :=
  ⟨(a == c), SeqAt.EqAt.int_int a t c u, by simp⟩
theorem rcLt_int (A : Around) (s : Shared) (a : Int) (t : Tok) (c : Int) (u : Tok) (prog : Program) (w : World) (E : Value → Shared → Prop) (Q : Value → Shared → Prop) (h : Q (.bool (decide (a < c))) s) :
    wpAny (model prog w) A (richCompare .Lt (.int a t) (.int c u)) Q E s :=
  (PyProof.Rows.lt_int h : wpAny (model prog w) A (compareOp .Lt (.int a t) (.int c u)) Q E s)

section
open PySem.SeqAt
open PySem.AutoSeq1 (wpAny_loadPart')
open PySem.MeetsSeq PySem.MeetsSeq2 PySem.MeetsSeq3

theorem tuple_lt_ints (l b : Addr) (items items2 : Array Value) (n n2 : Nat) (dd dd2 : Option Addr) (sl sl2 : Array (Option Value)) (ns ms : List Int) (hi : IntsAre items.toList ns) (hj : IntsAre items2.toList ms) :
    Meets (Builtin.«tuple.__lt__» ⟨[.ref l, .ref b], []⟩)
      (fun _ R s => s.heap.get? l = some { cls := .type "tuple", dict := dd, data := .seq items n, slots := sl } ∧ s.heap.get? b = some { cls := .type "tuple", dict := dd2, data := .seq items2 n2, slots := sl2 } ∧
        R (.ok (.ret (.bool (lexLt ns ms)))) s) :=
  .of_wp fun prog w A R s h => by
    obtain ⟨hp, g, d, tk, os⟩ := s; obtain ⟨hl, hb, h⟩ := h
    have f2 := AutoSeq1.sub_tuple_tuple
    have z1 : items.size = ns.length := by rw [← hi.length]; simp
    have z2 : items2.size = ms.length := by rw [← hj.length]; simp
    wp_walk using wpAny_loadPart' hl, wpAny_loadPart' hb, wpAny_forIn_list _ (fun rest b s' => b.1 = none ∧ s' = ⟨hp, g, d, tk, os⟩ ∧ ∃ (vs ws : List Value) (ns' ms' : List Int), rest = vs.zip ws ∧
      IntsAre vs ns' ∧ IntsAre ws ms' ∧ ns'.length + items2.size = ms'.length + items.size ∧ R (.ok (.ret (.bool (lexLt ns' ms')))) ⟨hp, g, d, tk, os⟩) _
    case turn =>
      rintro ⟨y, x⟩ rest b s' ⟨hb', rfl, vs, ws, ns', ms', hz, hvi, hwi, hlen, hR⟩
      cases hvi with
      | nil => rw [List.zip_nil_left] at hz; cases hz
      | cons a t hvi' =>
        cases hwi with
        | nil => rw [List.zip_nil_right] at hz; cases hz
        | cons c u hwi' =>
          rw [List.zip_cons_cons] at hz
          injection hz with hyx hrest
          injection hyx with hy hx
          subst hy hx
          rw [lexLt_cons] at hR
          simp only [List.length_cons] at hlen
          obtain ⟨e, he, hiff⟩ := eqAt_int A.in1 ⟨hp, g, d, tk, os⟩ a t c u
          refine wpAny_bind (he prog w _ _ ?_)
          cases e with
          | true =>
            rw [if_pos (hiff.mp rfl)] at hR
            wp_walk
            exact ⟨rfl, rfl, _, _, _, _, hrest, hvi', hwi', by omega, hR⟩
          | false =>
            rw [if_neg (fun q => absurd (hiff.mpr q) Bool.false_ne_true)] at hR
            have hri := rcLt_int A.in1 ⟨hp, g, d, tk, os⟩ a t c u prog w
            wp_walk using hri
            exact ⟨_, rfl, by simpa using hR⟩
    case fin =>
      rintro ⟨b1, b2⟩ s' ⟨hb', rfl, vs, ws, ns', ms', hz, hvi, hwi, hlen, hR⟩
      simp only at hb'
      subst hb'
      have hv : lexLt ns' ms' = decide (items.size < items2.size) := by
        cases hvi with
        | nil =>
          cases hwi with
          | nil =>
            simp only [List.length_nil] at hlen
            rw [lexLt_nil_nil]
            exact (decide_eq_false (by omega)).symm
          | cons c u hw =>
            simp only [List.length_nil, List.length_cons] at hlen
            rw [lexLt_nil_cons]
            exact (decide_eq_true (by omega)).symm
        | cons a t hv =>
          cases hwi with
          | nil =>
            simp only [List.length_nil, List.length_cons] at hlen
            rw [lexLt_cons_nil]
            exact (decide_eq_false (by omega)).symm
          | cons c u hw =>
            rw [List.zip_cons_cons] at hz
            cases hz
      rw [hv] at hR
      wp_walk
      exact ⟨_, rfl, by simpa [Builtin.Tuple.tupleCompareSizes] using hR⟩
    case h =>
      exact ⟨rfl, rfl, items.toList, items2.toList, ns, ms, rfl, hi, hj, by omega, h⟩
end

section
variable {prog : Program} {w : World} {A : Around} {E : Value → Shared → Prop} {s : Shared}

theorem lt_tupInts {l b : Addr} {items items2 : Array Value} {ns ms : List Int} {Q : Value → Shared → Prop} (hl : IsTup s.heap l items) (hb : IsTup s.heap b items2) (hi : IntsAre items.toList ns) (hj : IntsAre items2.toList ms)
    (hu : A.units < cLine) (h : Q (.bool (lexLt ns ms)) s) : wpAny (model prog w) A (compareOp .Lt (.ref l) (.ref b)) Q E s := by
  obtain ⟨⟨cls, dd, data, sl⟩, ho, hc, n, hd⟩ := id hl
  obtain ⟨⟨cls2, dd2, data2, sl2⟩, ho2, hc2, n2, hd2⟩ := id hb
  simp only at hc hd hc2 hd2
  subst hc hd hc2 hd2
  exact richCompare_meets_room (op := .Lt) ⟨_, ho, rfl⟩ ⟨_, ho2, rfl⟩ PySem.F.slot_tuple_lt PySem.F.entry_tuple_lt (PySem.F.args_tuple_lt_2 _ _) (tuple_lt_ints l b items items2 n n2 dd dd2 sl sl2 ns ms hi hj)
    ⟨ho, ho2, show Value.bool (lexLt ns ms) ≠ Value.notImplemented ∧ Q (.bool (lexLt ns ms)) s from ⟨(fun x => nomatch x), h⟩⟩ hu

/-- t + u, t not empty -/
theorem cat_tup {t b : Addr} {vs ws : List Value} {Q : Value → Shared → Prop} (ht : IsTup s.heap t vs.toArray) (hb : IsTup s.heap b ws.toArray) (hv : vs ≠ [])
    (h1 : ws = [] → Q (.ref t) s) (h2 : ws ≠ [] → Q (.ref s.heap.objs.size) { s with heap := s.heap.push { cls := .type "tuple", data := .seq (vs ++ ws).toArray } })
    (hsz : vs.length + ws.length ≤ sizeLine) : wpAny (model prog w) A (binaryOp .Add (.ref t) (.ref b)) Q E s := by
  obtain ⟨⟨cls, dd, data, sl⟩, ho, hc, n, hd⟩ := id ht
  obtain ⟨⟨cls2, dd2, data2, sl2⟩, ho2, hc2, n2, hd2⟩ := id hb
  simp only at hc hd hc2 hd2
  subst hc hd hc2 hd2
  have e : vs.toArray ++ ws.toArray = (vs ++ ws).toArray := by simp
  by_cases hw : ws = []
  · exact concat_meets ⟨_, ho, rfl⟩ ⟨_, ho2, rfl⟩ noFill_tuple_add seq_tuple_add PySem.F.slot_tuple_add PySem.F.entry_tuple_add (PySem.F.args_tuple_add_2 _ _)
      (tuple_addW1 t b vs.toArray ws.toArray n n2 dd dd2 sl sl2 (by simpa using hv) (by simp [hw])) ⟨ho, ho2, h1 hw⟩
  · refine concat_meets ⟨_, ho, rfl⟩ ⟨_, ho2, rfl⟩ noFill_tuple_add seq_tuple_add PySem.F.slot_tuple_add PySem.F.entry_tuple_add (PySem.F.args_tuple_add_2 _ _)
      (tuple_addW2 t b vs.toArray ws.toArray n n2 dd dd2 sl sl2 (by simpa using hv) (by simpa using hw) (by rw [List.size_toArray, List.size_toArray]; exact hsz)) ⟨ho, ho2, ?_⟩
    rw [e]
    exact h2 hw

/-! ### t[a:b], not the whole -/
/-- a slice's bound as a place among n (d where it is left out) -/
def sIx (n d : Nat) : Option Int → Nat
  | none => d
  | some v => if v < 0 then (v + (n : Int)).toNat else min v.toNat n
theorem sIx_none (n d : Nat) : sIx n d none = d := rfl
theorem sIx_nat (n d k : Nat) : sIx n d (some (k : Int)) = min k n := by
  show (if (k : Int) < 0 then ((k : Int) + (n : Int)).toNat else min (k : Int).toNat n) = min k n
  rw [if_neg (by omega), Int.toNat_natCast]
theorem sIx_le (n d : Nat) (hd : d ≤ n) (o : Option Int) : sIx n d o ≤ n := by
  cases o with
  | none => exact hd
  | some v =>
    show (if v < 0 then (v + (n : Int)).toNat else min v.toNat n) ≤ n
    by_cases hv : v < 0
    · rw [if_pos hv]; omega
    · rw [if_neg hv]; exact Nat.min_le_right _ _
theorem clip_eq (v : Int) (n d : Nat) : (if v < 0 then max (v + (n : Int)) 0 else min v (n : Int)) = ((sIx n d (some v) : Nat) : Int) := by
  show (if v < 0 then max (v + (n : Int)) 0 else min v (n : Int)) = (((if v < 0 then (v + (n : Int)).toNat else min v.toNat n) : Nat) : Int)
  by_cases hv : v < 0
  · simp only [if_pos hv]; omega
  · simp only [if_neg hv]; omega
theorem adjust_gen (lo hi : Option Int) (n : Nat) : Builtin.Slice.sliceAdjust lo hi 1 (n : Int) = (((sIx n 0 lo : Nat) : Int), ((sIx n n hi : Nat) : Int)) := by
  have h1 : ¬ ((1 : Int) < 0) := by omega
  unfold Builtin.Slice.sliceAdjust
  simp only [h1, if_false]
  refine Prod.ext ?_ ?_
  · cases lo with
    | none => rfl
    | some v => exact clip_eq v n 0
  · cases hi with
    | none => rfl
    | some v => exact clip_eq v n n
theorem places_gen (i j : Nat) : Builtin.Slice.slicePlaces (i : Int) (j : Int) 1 = j - i := by
  unfold Builtin.Slice.slicePlaces
  have h1 : (1 : Int) > 0 := by omega
  simp only [h1, if_true, Int.ediv_one]
  split <;> omega
theorem slicePart_ {v : Value} {o : Option Int} {Q : Option Int → Shared → Prop} (p : IsPart v o) (h : Q o s) : wpAny (model prog w) A (Builtin.Slice.slicePartIndex v) Q E s := by
  cases p with
  | none => exact slicePart_none h
  | int i t => exact slicePart_int h
theorem sliceApplied_gen {sl : Addr} {vl vu : Value} {lo hi : Option Int} {n : Nat} {Q : Int × Int × Nat → Shared → Prop} (hs : s.heap.IsSliceOf sl vl vu .none) (pl : IsPart vl lo) (pu : IsPart vu hi)
    (h : Q (((sIx n 0 lo : Nat) : Int), 1, sIx n n hi - sIx n 0 lo) s) : wpAny (model prog w) A (Builtin.Slice.sliceApplied (.ref sl) (pure (n : Int))) Q E s := by
  obtain ⟨os, hos, hcs, hds⟩ := id hs
  unfold Builtin.Slice.sliceApplied Builtin.Slice.sliceFields
  refine wpAny_bind (wpAny_bind (wpAny_field hos hds (x := vl) rfl (wpAny_bind (wpAny_field hos hds (x := vu) rfl (wpAny_bind (wpAny_field hos hds (x := .none) rfl (wpAny_pure ?_)))))))
  refine wpAny_bind (slicePart_none ?_)
  show wpAny _ _ (if ((1 : Int) == 0) = true then _ else _) _ _ s
  rw [if_neg (by decide)]
  refine wpAny_bind (slicePart_ pl (wpAny_bind (slicePart_ pu (wpAny_bind (wpAny_pure ?_)))))
  show wpAny _ _ (match Builtin.Slice.sliceAdjust lo hi 1 (n : Int) with | (lo, hi) => pure (lo, (1 : Int), Builtin.Slice.slicePlaces lo hi 1)) _ _ s
  rw [adjust_gen lo hi n]
  show wpAny _ _ (pure (((sIx n 0 lo : Nat) : Int), (1 : Int), Builtin.Slice.slicePlaces ((sIx n 0 lo : Nat) : Int) ((sIx n n hi : Nat) : Int) 1)) _ _ s
  rw [places_gen]
  exact wpAny_pure h
theorem pick_gen (xs : Array Value) (i k : Nat) : ((List.range k).filterMap fun (m : Nat) => xs[((i : Int) + (m : Int) * 1).toNat]?).toArray = ((xs.toList.drop i).take k).toArray := by
  have e : (fun (m : Nat) => xs[((i : Int) + (m : Int) * 1).toNat]?) = fun m => xs[i + m]? := by
    funext m
    have : ((i : Int) + (m : Int) * 1).toNat = i + m := by omega
    rw [this]
  rw [e]
  have := pick_run xs i k
  rw [List.filterMap_map] at this
  have e2 : ((fun x => xs[x]?) ∘ fun x => i + x) = fun m => xs[i + m]? := rfl
  rw [e2] at this
  rw [this]

theorem getItem_tuple_cut {t sl : Addr} {items : Array Value} {vl vu : Value} {lo hi : Option Int} {Q : Value → Shared → Prop} (ht : IsTup s.heap t items) (hs : s.heap.IsSliceOf sl vl vu .none) (pl : IsPart vl lo) (pu : IsPart vu hi)
    (hw : ¬ (sIx items.size 0 lo = 0 ∧ sIx items.size items.size hi = items.size))
    (h : Q (.ref s.heap.objs.size) { s with heap := s.heap.push { cls := .type "tuple", data := .seq ((items.toList.drop (sIx items.size 0 lo)).take (sIx items.size items.size hi - sIx items.size 0 lo)).toArray } })
    (hsz : items.size ≤ sizeLine) : wpAny (model prog w) A (getItem (.ref t) (.ref sl)) Q E s := by
  have htake : sizeOk (.seq ((items.toList.drop (sIx items.size 0 lo)).take (sIx items.size items.size hi - sIx items.size 0 lo)).toArray) := by
    show ((items.toList.drop (sIx items.size 0 lo)).take (sIx items.size items.size hi - sIx items.size 0 lo)).toArray.size ≤ sizeLine
    rw [List.size_toArray, List.length_take, List.length_drop, Array.length_toList]
    omega
  have hj : sIx items.size items.size hi ≤ items.size := sIx_le _ _ (Nat.le_refl _) hi
  obtain ⟨os, hos, hcs, hds⟩ := id hs
  have hTs : s.TypeIs (.ref sl) "slice" := ⟨os, hos, hcs⟩
  unfold getItem
  try with_reducible refine wpAny_holding ?_
  first | refine wpAny_bind (wpAny_pure ?_) | skip
  refine wpAny_bind (wpAny_sequenceKey ht.typeIs (by decide) ?_)
  refine wpAny_bind (wpAny_callSpecial?_slot (name := Str.ofString "__getitem__") ht.typeIs PyProof.Rows.slot_tuple_getitem
    (wpAny_call_entry PyProof.Rows.slot_tuple_getitem ht.typeIs entry_tuple_getitem ?_ (args_tuple_getitem _ _)))
  show wpAny _ _ (Builtin.Tuple.tupleItemsOf (.ref t) >>= _) _ _ s
  refine wpAny_bind (tupleItemsOf_ ht ?_)
  refine wpAny_bind (wpAny_typeOf hTs ?_)
  rw [if_pos (by decide)]
  refine wpAny_bind (sliceApplied_gen hs pl pu ?_)
  have hno : ¬ ((((sIx items.size 0 lo : Nat) : Int) == 0 && (1 : Int) == 1 && (sIx items.size items.size hi - sIx items.size 0 lo) == items.size) = true) := by
    intro q
    rw [Bool.and_eq_true, Bool.and_eq_true] at q
    have q1 : ((sIx items.size 0 lo : Nat) : Int) = 0 := eq_of_beq q.1.1
    have q2 : sIx items.size items.size hi - sIx items.size 0 lo = items.size := eq_of_beq q.2
    exact hw ⟨by omega, by omega⟩
  show wpAny _ _ (if (((sIx items.size 0 lo : Nat) : Int) == 0 && (1 : Int) == 1 && (sIx items.size items.size hi - sIx items.size 0 lo) == items.size) = true then _ else _) _ _ s
  rw [if_neg hno, pick_gen]
  first
    | exact wpAny_bind (m := Builtin.Tuple.tupleExact _) (wpAny_newObj_type (wpAny_pure ⟨_, rfl, wpAny_pure h⟩) htake)
    | exact wpAny_bind (m := Builtin.Tuple.tupleExact _) (wpAny_newObj_type (wpAny_bind (wpAny_pure (wpAny_pure ⟨_, rfl, wpAny_pure h⟩))) htake)
    | exact wpAny_bind (wpAny_bind (m := Builtin.Tuple.tupleExact _) (wpAny_newObj_type (wpAny_pure (wpAny_pure ⟨_, rfl, wpAny_pure h⟩)) htake))
    | exact wpAny_bind (wpAny_bind (m := Builtin.Tuple.tupleExact _) (wpAny_newObj_type (wpAny_pure ⟨_, rfl, wpAny_pure h⟩) htake))
end
end HT

namespace L2
open PySem PySem.Spec PyProof.Rows

/-! ### the parts of a slice -/
abbrev TO := St → Hp → (Option Int → Hp → Prop) → Prop
/-- a slice's part (left out, or an int) -/
def PO (X : Cx) (e : Option Expr) (t : TO) : Prop :=
  ∀ (pins : List (Addr × Obj)) (s : Shared) (σ : St) (H : Hp) (Q : Option Int → Hp → Prop), Inv X pins σ H s → t σ H Q →
    wpAny (model X.prog X.w) X.A (evalPart e X.env) (fun u s' => ∃ o H', Inv X pins σ H' s' ∧ IsPart u o ∧ Q o H') X.xe s
def tNoPart : TO := fun _ H Q => Q none H
def tPart (t : TE) : TO := fun σ H Q => t σ H fun x H1 => ∃ i, x = .int i ∧ Q (some i) H1

theorem intsAre_of {ns : List Int} : ∀ {us : List Value}, Vals (ns.map V.int) us → IntsAre us ns := by
  induction ns with
  | nil => intro us r; rw [List.map_nil] at r; cases r; exact .nil
  | cons n ns ih =>
    intro us r
    rw [List.map_cons] at r
    cases r with
    | cons r1 r2 =>
      obtain ⟨t, e⟩ := r1
      subst e
      exact .cons n t (ih r2)

section
variable {X : Cx} {e : Expr} {te : TE} {lo hi : Option Expr} {tl th : TO} {pos p2 : Pos}

theorem po_none : PO X none tNoPart := by
  intro pins s σ H Q I h
  rw [evalPart_none]
  exact wpAny_pure ⟨none, H, I, .none, h⟩
theorem po_some (h : PE X e te) : PO X (some e) (tPart te) := by
  intro pins s σ H Q I hw
  rw [evalPart_some]
  refine thn (h pins s σ H _ I hw) fun u s1 ⟨x, H1, I1, r1, q1⟩ => ?_
  obtain ⟨i, rfl, q⟩ := q1
  obtain ⟨t, rfl⟩ := r1
  exact ⟨some i, H1, I1, .int i t, q⟩

/-- what a slice of a value is, by values: the slice object stands at sl -/
def SlR (X : Cx) (r : V → Option Int → Option Int → Hp → VK → Prop) : Prop :=
  ∀ (pins : List (Addr × Obj)) (s : Shared) (σ : St) (H : Hp) (x : V) (v vl vu : Value) (lo hi : Option Int) (sl : Addr) (Q : VK), Inv X pins σ H s → RelV x v → s.heap.IsSliceOf sl vl vu .none → IsPart vl lo → IsPart vu hi → r x lo hi H Q →
    ∃ T id, typeLookup (.type T) "__getitem__" = pure (some (.builtin id)) ∧ s.TypeIs v T ∧ wpAny (model X.prog X.w) X.A (getItem v (.ref sl)) (EP X pins σ Q) X.xe s
theorem SlR.or {r r' : V → Option Int → Option Int → Hp → VK → Prop} (h : SlR X r) (h' : SlR X r') : SlR X (fun x lo hi H Q => r x lo hi H Q ∨ r' x lo hi H Q) := by
  intro pins s σ H x v vl vu lo hi sl Q I rx hs pl pu q
  rcases q with q | q
  · exact h pins s σ H x v vl vu lo hi sl Q I rx hs pl pu q
  · exact h' pins s σ H x v vl vu lo hi sl Q I rx hs pl pu q
def tSl (r : V → Option Int → Option Int → Hp → VK → Prop) (te : TE) (tl th : TO) : TE := fun σ H Q => te σ H fun x H1 => tl σ H1 fun l H2 => th σ H2 fun u H3 => r x l u H3 Q
/-- a[lo:hi], any a -/
theorem pe_slice {r : V → Option Int → Option Int → Hp → VK → Prop} (hr : SlR X r) (he : PE X e te) (hl : PO X lo tl) (hu : PO X hi th) : PE X (.Subscript e (.Slice lo hi none p2) pos) (tSl r te tl th) := by
  intro pins s σ H Q I h
  refine Subscript_ (thn (he pins s σ H _ I h) fun v s1 ⟨x, H1, I1, r1, q1⟩ => ?_)
  refine wpAny_Slice (thn (hl pins s1 σ H1 _ I1 q1) fun vl s2 ⟨l, H2, I2, pl, q2⟩ => thn (hu pins s2 σ H2 _ I2 q2) fun vu s3 ⟨u, H3, I3, pu, q3⟩ => ?_)
  rw [evalPart_none]
  refine wpAny_pure ?_
  have I4 : Inv X pins σ H3 { s3 with heap := s3.heap.push { cls := .type "slice", data := .fields #[vl, vu, .none] } } := I3.kept (t' := s3.toks) fun b ob q => Heap.get?_push_of_some _ q
  obtain ⟨T, id, hT, ht, hg⟩ := hr pins { s3 with heap := s3.heap.push { cls := .type "slice", data := .fields #[vl, vu, .none] } } σ H3 x v vl vu l u s3.heap.objs.size Q I4 r1 (Heap.IsSliceOf.new ..) pl pu q3
  show wpAny (model X.prog X.w) X.A (subscriptTail e (.Slice lo hi none p2) v (.ref s3.heap.objs.size)) (EP X pins σ Q) X.xe { s3 with heap := s3.heap.push { cls := .type "slice", data := .fields #[vl, vu, .none] } }
  exact tail_any (ops := [.ref s3.heap.objs.size, v]) ht hT hg (by with_unfolding_all rfl)

/-- the items of xs[lo:hi] -/
def cutV (xs : List V) (lo hi : Option Int) : List V := (xs.drop (HT.sIx xs.length 0 lo)).take (HT.sIx xs.length xs.length hi - HT.sIx xs.length 0 lo)
theorem cutV_length (xs : List V) (lo hi : Option Int) : (cutV xs lo hi).length ≤ xs.length := by
  unfold cutV
  rw [List.length_take, List.length_drop]
  omega
/-- t[lo:hi], not the whole of it (the whole would be t itself) -/
def rSlT (K : PySem.W.Frag) : V → Option Int → Option Int → Hp → VK → Prop := fun x lo hi H Q => ∃ a xs, x = .ref a ∧ SqT K H a xs ∧
  ¬ (HT.sIx xs.length 0 lo = 0 ∧ HT.sIx xs.length xs.length hi = xs.length) ∧ ∀ p, H p = none → Q (.ref p) (upd H p (.tup (cutV xs lo hi)))
theorem sl_tup : SlR X (rSlT X.K) := by
  intro pins s σ H x v vl vu lo hi sl Q I rx hs pl pu h
  obtain ⟨a, xs, rfl, hx, hw, q⟩ := h
  cases rx
  obtain ⟨its, r, ht, hz⟩ := I.tuple hx
  have hlen : its.toArray.size = xs.length := by rw [List.size_toArray]; exact r.length.symm
  refine ⟨"tuple", _, PyProof.Rows.slot_tuple_getitem.lookup, ht.typeIs, ?_⟩
  refine HT.getItem_tuple_cut ht hs pl pu (by rw [hlen]; exact hw) ?_ (by rw [hlen]; exact hz)
  rw [hlen]
  refine ⟨.ref s.heap.objs.size, _, I.laid (t' := s.toks) (o := .tup (cutV xs lo hi)) (fun b ob q => Heap.get?_push_of_some _ q) (Nat.le_refl _) ?_, rfl, q _ (I.hok.fresh (Nat.le_refl _))⟩
  exact ⟨Nat.le_trans (cutV_length xs lo hi) hz, _, (r.drop (HT.sIx xs.length 0 lo)).take (HT.sIx xs.length xs.length hi - HT.sIx xs.length 0 lo), IsTup.new _ _⟩

/-! ### t < u, t + u -/
def rLtT (K : PySem.W.Frag) : R2 := fun x y H Q => ∃ a b ns ms, x = .ref a ∧ y = .ref b ∧ SqT K H a (ns.map V.int) ∧ SqT K H b (ms.map V.int) ∧ Q (.bl (HT.lexLt ns ms)) H
theorem op_ltT (hu : X.A.units < cLine) : OpR X (compareOp .Lt) (rLtT X.K) := by
  intro pins s σ H x y v u Q I rx ry h
  obtain ⟨a, b, ns, ms, rfl, rfl, ha, hb, q⟩ := h
  cases rx
  cases ry
  obtain ⟨its, r1, p1, _⟩ := I.tuple ha
  obtain ⟨its2, r2, p2, _⟩ := I.tuple hb
  have i1 : IntsAre its.toArray.toList ns := intsAre_of r1
  have i2 : IntsAre its2.toArray.toList ms := intsAre_of r2
  exact HT.lt_tupInts p1 p2 i1 i2 hu ⟨.bl (HT.lexLt ns ms), H, I, rfl, q⟩
/-- t + u, t not empty: u empty gives t itself -/
def rCatT (K : PySem.W.Frag) : R2 := fun x y H Q => ∃ a b xs ys, x = .ref a ∧ y = .ref b ∧ SqT K H a xs ∧ SqT K H b ys ∧ xs ≠ [] ∧ xs.length + ys.length ≤ sizeLine ∧
  (ys = [] → Q (.ref a) H) ∧ (ys ≠ [] → ∀ p, H p = none → Q (.ref p) (upd H p (.tup (xs ++ ys))))
theorem Vals.nil_iff {xs : List V} {us : List Value} (r : Vals xs us) : us = [] ↔ xs = [] := by
  cases r with
  | nil => simp
  | cons _ _ => simp
theorem op_catT : OpR X (binaryOp .Add) (rCatT X.K) := by
  intro pins s σ H x y v u Q I rx ry h
  obtain ⟨a, b, xs, ys, rfl, rfl, ha, hb, hx, hz, q1, q2⟩ := h
  cases rx
  cases ry
  obtain ⟨its, r1, p1, _⟩ := I.tuple ha
  obtain ⟨its2, r2, p2, _⟩ := I.tuple hb
  refine HT.cat_tup p1 p2 (fun z => hx (r1.nil_iff.mp z)) (fun z => ⟨.ref a, H, I, rfl, q1 (r2.nil_iff.mp z)⟩) (fun z => ?_) (by rw [← r1.length, ← r2.length]; exact hz)
  refine ⟨.ref s.heap.objs.size, _, I.laid (t' := s.toks) (o := .tup (xs ++ ys)) (fun b ob q => Heap.get?_push_of_some _ q) (Nat.le_refl _) ?_, rfl, q2 (fun w => z (r2.nil_iff.mpr w)) _ (I.hok.fresh (Nat.le_refl _))⟩
  exact ⟨by rw [List.length_append]; exact hz, _, r1.append r2, IsTup.new _ _⟩
/-- tuple(t) -/
theorem call_tupleT : CallR X (.type "tuple") (fun xs H Q => ∃ a ys, xs = [.ref a] ∧ SqT X.K H a ys ∧ Q (.ref a) H) := by
  intro pins s σ H xs us Q I r h
  obtain ⟨a, ys, rfl, ha, q⟩ := h
  obtain ⟨u, rfl, ru⟩ := vals1 r
  cases ru
  obtain ⟨its, _, p1, _⟩ := I.tuple ha
  exact call_tuple_same (items := its.toArray) p1 ⟨.ref a, H, I, rfl, q⟩
end
end L2

namespace L2
open PySem PySem.Spec PyProof.Rows

/-! ### places -/
/-- the place that an index of any sign means -/
def ixN (n : Nat) (i : Int) : Option Nat := if 0 ≤ i then (if i < n then some i.toNat else none) else if -(n : Int) ≤ i then some (i + n).toNat else none
def atI {α : Type} (xs : List α) (i : Int) : Option α := (ixN xs.length i).bind fun j => xs[j]?
theorem ixN_seq {n : Nat} {i : Int} {j : Nat} (h : ixN n i = some j) : seqIndex? i n = some j ∧ j < n ∧ -(n : Int) ≤ i ∧ i < n := by
  unfold ixN at h
  by_cases h0 : 0 ≤ i
  · rw [if_pos h0] at h
    by_cases h1 : i < n
    · rw [if_pos h1] at h
      have e : i.toNat = j := Option.some.inj h
      exact ⟨by rw [seqIndex_of h0 h1, e], by omega, by omega, h1⟩
    · rw [if_neg h1] at h; cases h
  · rw [if_neg h0] at h
    by_cases h1 : -(n : Int) ≤ i
    · rw [if_pos h1] at h
      have e : (i + n).toNat = j := Option.some.inj h
      exact ⟨by rw [seqIndex_neg (by omega) h1, e], by omega, h1, by omega⟩
    · rw [if_neg h1] at h; cases h
theorem atI_get {α : Type} {xs : List α} {i : Int} {v : α} (h : atI xs i = some v) : ∃ j, seqIndex? i xs.length = some j ∧ xs[j]? = some v ∧ j < xs.length ∧ -(xs.length : Int) ≤ i ∧ i < xs.length := by
  unfold atI at h
  cases e : ixN xs.length i with
  | none => rw [e] at h; cases h
  | some j =>
    rw [e] at h
    obtain ⟨h1, h2, h3, h4⟩ := ixN_seq e
    exact ⟨j, h1, h, h2, h3, h4⟩
theorem atI_nat {α : Type} {xs : List α} {j : Nat} {v : α} (h : xs[j]? = some v) : atI xs (j : Int) = some v := by
  have hj : j < xs.length := (List.getElem?_eq_some_iff.mp h).1
  have e : ixN xs.length (j : Int) = some j := by
    unfold ixN
    rw [if_pos (by omega), if_pos (by omega)]; simp
  unfold atI; rw [e]; exact h
theorem atI_last {α : Type} (xs : List α) (v : α) : atI (xs ++ [v]) (-1) = some v := by
  have hl : (xs ++ [v]).length = xs.length + 1 := by simp
  have e : ixN (xs ++ [v]).length (-1) = some xs.length := by
    unfold ixN
    rw [hl, if_neg (by decide), if_pos (by omega)]
    congr 1
    omega
  unfold atI
  rw [e]
  show (xs ++ [v])[xs.length]? = some v
  simp

/-! ### what may be subscripted -/
/-- what stands as an index of a plain subscript -/
def PlainIx (b : Expr) : Prop := ∀ o i, subscripted b false o i = operate [o, i] (getItem o i)
/-- a subscript by values -/
def IxR (X : Cx) (r : R2) : Prop :=
  ∀ (value slice : Expr) (pins : List (Addr × Obj)) (s : Shared) (σ : St) (H : Hp) (x y : V) (v u : Value) (Q : VK), Inv X pins σ H s → RelV x v → RelV y u → r x y H Q →
    subscripted slice false v u = operate [v, u] (getItem v u) → wpAny (model X.prog X.w) X.A (subscriptTail value slice v u) (EP X pins σ Q) X.xe s
/-- a call of a builtin's method by values: the receiver, the arguments -/
def MtR (X : Cx) (id : String) (r : V → List V → Hp → VK → Prop) : Prop :=
  ∀ (pins : List (Addr × Obj)) (s : Shared) (σ : St) (H : Hp) (x : V) (xs : List V) (v : Value) (us : List Value) (Q : VK), Inv X pins σ H s → RelV x v → Vals xs us → r x xs H Q →
    wpAny (model X.prog X.w) X.A (call (.builtin id) (v :: us)) (EP X pins σ Q) X.xe s
section
variable {X : Cx} {a b : Expr} {ta tb : TE} {pos : Pos}
theorem IxR.or {r r' : R2} (h : IxR X r) (h' : IxR X r') : IxR X (fun x y H Q => r x y H Q ∨ r' x y H Q) := by
  intro value slice pins s σ H x y v u Q I rx ry q hs
  rcases q with q | q
  · exact h value slice pins s σ H x y v u Q I rx ry q hs
  · exact h' value slice pins s σ H x y v u Q I rx ry q hs
theorem MtR.or {id : String} {r r' : V → List V → Hp → VK → Prop} (h : MtR X id r) (h' : MtR X id r') : MtR X id (fun x xs H Q => r x xs H Q ∨ r' x xs H Q) := by
  intro pins s σ H x xs v us Q I rx rs q
  rcases q with q | q
  · exact h pins s σ H x xs v us Q I rx rs q
  · exact h' pins s σ H x xs v us Q I rx rs q
/-- a[b] -/
theorem pe_ix {r : R2} (hr : IxR X r) (ha : PE X a ta) (hb : PE X b tb) (hs : PlainIx b) : PE X (.Subscript a b pos) (tOp r ta tb) := by
  intro pins s σ H Q I h
  exact Subscript_ (binT ha hb I h fun v u s2 x y H2 I2 rx ry q => hr a b pins s2 σ H2 x y v u Q I2 rx ry q (hs _ _))

def rIxL (K : PySem.W.Frag) : R2 := fun x y H Q => ∃ p xs i v, x = .ref p ∧ y = .int i ∧ SqL K H p xs ∧ atI xs i = some v ∧ Q v H
def rIxT (K : PySem.W.Frag) : R2 := fun x y H Q => ∃ p xs i v, x = .ref p ∧ y = .int i ∧ SqT K H p xs ∧ atI xs i = some v ∧ Q v H
def rIxS : R2 := fun x y H Q => ∃ z i c, x = .str z ∧ y = .int i ∧ z.length ≤ sizeLine ∧ atI z.cps.toList i = some c ∧ Q (.str ⟨#[c]⟩) H
theorem ix_list : IxR X (rIxL X.K) := by
  intro value slice pins s σ H x y v u Q I rx ry h hs
  obtain ⟨p, xs, i, z, rfl, rfl, hq, he, q⟩ := h
  cases rx
  obtain ⟨t, rfl⟩ := ry
  obtain ⟨its, r, pl, hz⟩ := I.list hq
  obtain ⟨j, h1, h2, h3, h4, h5⟩ := atI_get he
  obtain ⟨w, ew, rw'⟩ := r.get h2
  have hl := r.length
  have hn := line63
  have fin : EP X pins σ Q w s := ⟨z, H, I, rw', q⟩
  by_cases h0 : 0 ≤ i
  · have hj : i.toNat = j := by
      rw [seqIndex_of h0 h5] at h1
      exact Option.some.inj h1
    exact item_listR pl.isList h0 (by omega) (by rw [hj]; simpa using ew) fin hs
  · have hj : (i + (its.toArray.size : Int)).toNat = j := by
      rw [seqIndex_neg (by omega) h4] at h1
      rw [List.size_toArray, ← hl]
      exact Option.some.inj h1
    exact subscriptTail_builtinR (x := w) pl.isList.typeIs slot_list_getitem.lookup
      (wpAny_getItem_list_neg (Q := fun r s' => r = w ∧ EP X pins σ Q r s') pl.isList (by omega) (by rw [List.size_toArray] <;> omega) (by omega) (by rw [hj]; simpa using ew) ⟨rfl, fin⟩) hs
theorem ix_tup : IxR X (rIxT X.K) := by
  intro value slice pins s σ H x y v u Q I rx ry h hs
  obtain ⟨p, xs, i, z, rfl, rfl, hq, he, q⟩ := h
  cases rx
  obtain ⟨t, rfl⟩ := ry
  obtain ⟨its, r, pl, hz⟩ := I.tuple hq
  obtain ⟨j, h1, h2, h3, h4, h5⟩ := atI_get he
  obtain ⟨w, ew, rw'⟩ := r.get h2
  have hl := r.length
  have hn := line63
  have fin : EP X pins σ Q w s := ⟨z, H, I, rw', q⟩
  exact subscriptTail_builtinR (x := w) pl.typeIs slot_tuple_getitem.lookup
    (getItem_tuple (j := j) (Q := fun r s' => r = w ∧ EP X pins σ Q r s') pl (by omega) (by omega) (by rw [List.size_toArray, ← hl]; exact h1) (by simpa using ew) ⟨rfl, fin⟩) hs
theorem ix_str : IxR X rIxS := by
  intro value slice pins s σ H x y v u Q I rx ry h hs
  obtain ⟨z, i, c, rfl, rfl, hz, he, q⟩ := h
  obtain ⟨t, rfl⟩ := rx
  obtain ⟨t', rfl⟩ := ry
  obtain ⟨j, h1, h2, h3, h4, h5⟩ := atI_get he
  have hl : z.cps.toList.length = z.length := by simp [Str.length]
  rw [hl] at h1 h4 h5
  have hn := line63
  exact tail_any (typeIs_str s z t) slot_str_getitem.lookup (getItem_str (c := c) (by
    have e1 : decide (i < -(2 ^ 63 : Int)) = false := decide_eq_false (by omega)
    have e2 : decide (i ≥ 2 ^ 63) = false := decide_eq_false (by omega)
    rw [e1, e2, Bool.or_false]) (by rw [h1]; simpa using h2) ⟨.str ⟨#[c]⟩, H, I.tok _, ⟨_, rfl⟩, q⟩) hs
/-- list, tuple or str -/
def rIx (K : PySem.W.Frag) : R2 := fun x y H Q => rIxL K x y H Q ∨ rIxT K x y H Q ∨ rIxS x y H Q
theorem ix_seq : IxR X (rIx X.K) := ix_list.or (ix_tup.or ix_str)

/-! ### xs[i] = v, any sign -/
/-- the list's object behind a store -/
theorem mapSeq_set (its : List Value) (n j : Nat) (u : Value) : Obj.mapSeq (·.setIfInBounds j u) { cls := .type "list", data := .seq its.toArray n } = { cls := .type "list", data := .seq (its.set j u).toArray n } := by
  simp [Obj.mapSeq]
theorem Inv.lst {pins : List (Addr × Obj)} {σ : St} {H : Hp} {s : Shared} {p : Addr} {xs : List V} (I : Inv X pins σ H s) (h : H p = some (.lst xs)) :
    ∃ (its : List Value) (n : Nat), Vals xs its ∧ s.heap.get? p = some { cls := .type "list", data := .seq its.toArray n } ∧ xs.length ≤ sizeLine := by
  obtain ⟨z, its, n, r, e⟩ := I.hok p _ h
  exact ⟨its, n, r, e, z⟩
/-- the list at p is written by an update of its object -/
theorem Inv.lstUpd {pins : List (Addr × Obj)} {σ : St} {H : Hp} {s : Shared} {p : Addr} {xs ys : List V} {its its' : List Value} {n n' : Nat} {f : Obj → Obj} (I : Inv X pins σ H s) (h : H p = some (.lst xs))
    (ho : s.heap.get? p = some { cls := .type "list", data := .seq its.toArray n }) (hf : f { cls := .type "list", data := .seq its.toArray n } = { cls := .type "list", data := .seq its'.toArray n' }) (r : Vals ys its') (hz : ys.length ≤ sizeLine) (t : Nat) :
    Inv X pins σ (upd H p (.lst ys)) { s with heap := s.heap.update p f, toks := t } := by
  have e : (s.heap.update p f).get? p = some { cls := .type "list", data := .seq its'.toArray n' } := by
    rw [Heap.get?_update_self f ho (by rw [hf] <;> rfl), hf]
  refine I.write (x := p) (e := p) (by rw [h]; trivial) (.inl rfl) (fun b u hb q => (Heap.get?_update_other _ _ (Ne.symm hb)).trans q) ⟨_, e⟩ ?_
  exact ⟨hz, its', n', r, e⟩
def rSetL : V → V → V → Hp → (Hp → Prop) → Prop := fun o i v H Q => ∃ p xs k j, o = .ref p ∧ i = .int k ∧ H p = some (.lst xs) ∧ ixN xs.length k = some j ∧ Q (upd H p (.lst (xs.set j v)))
theorem set_list : PSet X rSetL := by
  intro pins s σ H o i v ov iv u Q I ro ri rv h
  obtain ⟨p, xs, k, j, rfl, rfl, hp, hj, q⟩ := h
  cases ro
  obtain ⟨t, rfl⟩ := ri
  obtain ⟨its, n, r, ho, hz⟩ := I.lst hp
  obtain ⟨h1, h2, h3, h4⟩ := ixN_seq hj
  have hl := r.length
  have hn := line63
  have I' : Inv X pins σ (upd H p (.lst (xs.set j v))) { s with heap := s.heap.update p (Obj.mapSeq (·.setIfInBounds j u)) } :=
    I.lstUpd hp ho (mapSeq_set its n j u) (r.set rv j) (by rw [List.length_set]; exact hz) s.toks
  by_cases h0 : 0 ≤ k
  · have hk : k.toNat = j := by
      rw [seqIndex_of h0 h4] at h1
      exact Option.some.inj h1
    exact PySem.W.ki_setAt ho h0 (by omega) (by rw [List.size_toArray, ← hl]; exact h4) (by rw [hk]; exact ⟨_, I', q⟩)
  · have hk : (k + (its.toArray.size : Int)).toNat = j := by
      rw [seqIndex_neg (by omega) h3] at h1
      rw [List.size_toArray, ← hl]
      exact Option.some.inj h1
    exact PySem.W.ki_setBack ho (by omega) (by rw [List.size_toArray, ← hl]; exact h3) (by omega) (by rw [hk]; exact ⟨_, I', q⟩)

/-! ### slices -/
theorem slice_bounds (lo hi : Option Int) (n : Nat) : (sliceBounds lo hi none n).1 = ((HT.sIx n 0 lo : Nat) : Int) ∧ (sliceBounds lo hi none n).2.1 = ((HT.sIx n n hi : Nat) : Int) ∧ (sliceBounds lo hi none n).2.2 = 1 := by
  refine ⟨?_, ?_, rfl⟩
  · cases lo with
    | none => simp [sliceBounds, HT.sIx]
    | some i =>
      simp only [sliceBounds, HT.sIx, Option.getD_none, show (1 : Int) > 0 by decide, if_true]
      by_cases h : i < 0
      · simp only [h, if_true] <;> omega
      · simp only [h, if_false] <;> omega
  · cases hi with
    | none => simp [sliceBounds, HT.sIx]
    | some i =>
      simp only [sliceBounds, HT.sIx, Option.getD_none, show (1 : Int) > 0 by decide, if_true]
      by_cases h : i < 0
      · simp only [h, if_true] <;> omega
      · simp only [h, if_false] <;> omega
theorem slicePick_cut (its : List Value) (lo hi : Option Int) : slicePick its.toArray lo hi none = ((its.drop (HT.sIx its.length 0 lo)).take (HT.sIx its.length its.length hi - HT.sIx its.length 0 lo)).toArray := by
  obtain ⟨h1, h2, h3⟩ := slice_bounds lo hi its.toArray.size
  unfold slicePick
  rw [h1, h2, h3]
  simp only [sliceRange_one, pick_run, List.size_toArray] <;> rfl
/-- xs[lo:hi] of a list: a new list -/
def rSlL (K : PySem.W.Frag) : V → Option Int → Option Int → Hp → VK → Prop := fun x lo hi H Q => ∃ a xs, x = .ref a ∧ SqL K H a xs ∧ ∀ p, H p = none → Q (.ref p) (upd H p (.lst (cutV xs lo hi)))
theorem sl_list : SlR X (rSlL X.K) := by
  intro pins s σ H x v vl vu lo hi sl Q I rx hs pl pu h
  obtain ⟨a, xs, rfl, hx, q⟩ := h
  cases rx
  obtain ⟨its, r, ht, hz⟩ := I.list hx
  have hlen := r.length
  refine ⟨"list", _, slot_list_getitem.lookup, ht.isList.typeIs, ?_⟩
  refine wpAny_getItem_list_slice ht.isList hs pl pu .none (by simp) ?_ (by rw [List.size_toArray] <;> omega)
  rw [slicePick_cut, ← hlen]
  refine ⟨.ref s.heap.objs.size, _, I.laid (t' := s.toks) (o := .lst (cutV xs lo hi)) (fun b ob q => Heap.get?_push_of_some _ q) (Nat.le_refl _) ?_, rfl, q _ (I.hok.fresh (Nat.le_refl _))⟩
  exact ⟨Nat.le_trans (cutV_length xs lo hi) hz, _, 0, (r.drop (HT.sIx xs.length 0 lo)).take (HT.sIx xs.length xs.length hi - HT.sIx xs.length 0 lo), Heap.get?_push_size _ rfl⟩

/-! ### in, not in: flat items -/
def flatV : V → Bool
  | .non => true
  | .bl _ => true
  | .int _ => true
  | .str _ => true
  | _ => false
/-- == of flat values -/
def eqV : V → V → Bool
  | .non, .non => true
  | .bl a, .bl b => a == b
  | .bl a, .int b => (if a then 1 else 0) == b
  | .int a, .bl b => a == (if b then 1 else 0)
  | .int a, .int b => a == b
  | .str a, .str b => a == b
  | _, _ => false
theorem eqAt_V {A : Around} {s : Shared} {y x : V} {u v : Value} (ry : RelV y u) (rx : RelV x v) (fy : flatV y = true) (fx : flatV x = true) : SeqAt.EqAt A s u v (eqV y x) := by
  cases y with
  | non =>
    cases ry
    cases x with
    | non => cases rx; exact SeqAt.EqAt.same _
    | bl b => cases rx; exact SeqAt.EqAt.none_bool b
    | int b => obtain ⟨t, rfl⟩ := rx; exact SeqAt.EqAt.none_int b t
    | str b => obtain ⟨t, rfl⟩ := rx; exact SeqAt.EqAt.none_str b t
    | _ => exact absurd (show false = true from fx) Bool.false_ne_true
  | bl a =>
    cases ry
    cases x with
    | non => cases rx; exact SeqAt.EqAt.bool_none a
    | bl b => cases rx; exact SeqAt.EqAt.bool_bool a b
    | int b => obtain ⟨t, rfl⟩ := rx; exact SeqAt.EqAt.bool_int a b t
    | str b => obtain ⟨t, rfl⟩ := rx; exact SeqAt.EqAt.bool_str a b t
    | _ => exact absurd (show false = true from fx) Bool.false_ne_true
  | int a =>
    obtain ⟨t', rfl⟩ := ry
    cases x with
    | non => cases rx; exact SeqAt.EqAt.int_none a t'
    | bl b => cases rx; exact SeqAt.EqAt.int_bool a t' b
    | int b => obtain ⟨t, rfl⟩ := rx; exact SeqAt.EqAt.int_int a t' b t
    | str b => obtain ⟨t, rfl⟩ := rx; exact SeqAt.EqAt.int_str a t' b t
    | _ => exact absurd (show false = true from fx) Bool.false_ne_true
  | str a =>
    obtain ⟨t', rfl⟩ := ry
    cases x with
    | non => cases rx; exact SeqAt.EqAt.str_none a t'
    | bl b => cases rx; exact SeqAt.EqAt.str_bool a t' b
    | int b => obtain ⟨t, rfl⟩ := rx; exact SeqAt.EqAt.str_int a t' b t
    | str b => obtain ⟨t, rfl⟩ := rx; exact SeqAt.EqAt.str_str a t' b t
    | _ => exact absurd (show false = true from fx) Bool.false_ne_true
  | _ => exact absurd (show false = true from fy) Bool.false_ne_true
/-- the items' answers, read off the values (a value's own answer does not lean on its token) -/
def eqU (x : V) (u : Value) : Bool := match u with
  | .none => eqV .non x
  | .bool b => eqV (.bl b) x
  | .int i _ => eqV (.int i) x
  | .str z _ => eqV (.str z) x
  | _ => false
theorem eqU_of {x y : V} {u : Value} (r : RelV y u) (f : flatV y = true) : eqU x u = eqV y x := by
  cases y with
  | non => cases r; rfl
  | bl b => cases r; rfl
  | int i => obtain ⟨t, rfl⟩ := r; rfl
  | str z => obtain ⟨t, rfl⟩ := r; rfl
  | _ => exact absurd (show false = true from f) Bool.false_ne_true
theorem any_eqU {x : V} : ∀ {xs : List V} {us : List Value}, Vals xs us → xs.all flatV = true → us.any (eqU x) = xs.any fun y => eqV y x
  | _, _, .nil, _ => rfl
  | y :: xs, u :: us, .cons r t, f => by
    rw [List.all_cons, Bool.and_eq_true] at f
    rw [List.any_cons, List.any_cons, eqU_of r f.1, any_eqU t f.2]
theorem mem_eqAt {A : Around} {s : Shared} {x : V} {v : Value} (rx : RelV x v) (fx : flatV x = true) : ∀ {xs : List V} {us : List Value}, Vals xs us → xs.all flatV = true → ∀ u ∈ us, SeqAt.EqAt A s u v (eqU x u)
  | _, _, .nil, _ => fun u hu => by cases hu
  | y :: xs, u :: us, .cons r t, f => fun u' hu => by
    rw [List.all_cons, Bool.and_eq_true] at f
    rcases List.mem_cons.mp hu with rfl | hu
    · rw [eqU_of r f.1]; exact eqAt_V r rx f.1 fx
    · exact mem_eqAt rx fx t f.2 u' hu
def inV (x : V) (xs : List V) : Bool := xs.any fun y => eqV y x
/-- x in a list or tuple of flat items -/
def rIn (K : PySem.W.Frag) (neg : Bool) : R2 := fun x y H Q => ∃ p xs, y = .ref p ∧ (SqL K H p xs ∨ SqT K H p xs) ∧ flatV x = true ∧ xs.all flatV = true ∧ Q (.bl (if neg then !inV x xs else inV x xs)) H
theorem op_in_seq : OpR X (compareOp .In) (rIn X.K false) := by
  intro pins s σ H x y v u Q I rx ry h
  obtain ⟨p, xs, rfl, hq, fx, fs, q⟩ := h
  cases ry
  rcases hq with hq | hq
  · obtain ⟨its, r, pl, hz⟩ := I.list hq
    refine SeqAt.in_listAt (eqU x) pl.isList (fun w hw => mem_eqAt rx fx r fs w (by simpa using hw)) ⟨.bl _, H, I, rfl, ?_⟩
    rw [show its.toArray.any (eqU x) = its.any (eqU x) by simp, any_eqU r fs]
    exact q
  · obtain ⟨its, r, pl, hz⟩ := I.tuple hq
    refine SeqAt.in_tupleAt (eqU x) pl (fun w hw => mem_eqAt rx fx r fs w (by simpa using hw)) ⟨.bl _, H, I, rfl, ?_⟩
    rw [show its.toArray.any (eqU x) = its.any (eqU x) by simp, any_eqU r fs]
    exact q
theorem op_notIn_seq : OpR X (compareOp .NotIn) (rIn X.K true) := by
  intro pins s σ H x y v u Q I rx ry h
  obtain ⟨p, xs, rfl, hq, fx, fs, q⟩ := h
  cases ry
  rcases hq with hq | hq
  · obtain ⟨its, r, pl, hz⟩ := I.list hq
    refine SeqAt.notIn_listAt (eqU x) pl.isList (fun w hw => mem_eqAt rx fx r fs w (by simpa using hw)) ⟨.bl _, H, I, rfl, ?_⟩
    rw [show its.toArray.any (eqU x) = its.any (eqU x) by simp, any_eqU r fs]
    exact q
  · obtain ⟨its, r, pl, hz⟩ := I.tuple hq
    refine SeqAt.notIn_tupleAt (eqU x) pl (fun w hw => mem_eqAt rx fx r fs w (by simpa using hw)) ⟨.bl _, H, I, rfl, ?_⟩
    rw [show its.toArray.any (eqU x) = its.any (eqU x) by simp, any_eqU r fs]
    exact q
theorem op_notIn_str : OpR X (compareOp .NotIn) (fun x y H Q => ∃ i j, x = .str i ∧ y = .str j ∧ Q (.bl (!(!(Builtin.Str.occurrences j i 0 j.length 1).isEmpty))) H) := by
  intro pins s σ H x y v u Q I rx ry h
  obtain ⟨i, j, rfl, rfl, q⟩ := h
  obtain ⟨t, rfl⟩ := rx
  obtain ⟨t', rfl⟩ := ry
  exact notIn_str ⟨.bl _, H, I, rfl, q⟩

/-! ### len, list(x), tuple(x) of any list or tuple that is read -/
theorem call_len_seq : CallR X (.builtin "len") (fun xs H Q => ∃ p ys, xs = [.ref p] ∧ (SqL X.K H p ys ∨ SqT X.K H p ys) ∧ Q (.int ys.length) H) := by
  intro pins s σ H xs us Q I r h
  obtain ⟨p, ys, rfl, hq, q⟩ := h
  obtain ⟨u, rfl, rx⟩ := vals1 r
  cases rx
  have hn := line63
  rcases hq with hq | hq
  · obtain ⟨its, r', pl, hz⟩ := I.list hq
    have hlen := r'.length
    exact Calls.call_len_list pl.isList (by simp only [List.size_toArray] <;> omega) ⟨.int ys.length, H, I.tok _, ⟨s.toks + 1, by rw [List.size_toArray, hlen]⟩, q⟩
  · obtain ⟨its, r', pl, hz⟩ := I.tuple hq
    have hlen := r'.length
    exact len_tuple pl (by simp only [List.size_toArray] <;> omega) ⟨.int ys.length, H, I.tok _, ⟨s.toks + 1, by rw [List.size_toArray, hlen]⟩, q⟩
theorem call_len_str : CallR X (.builtin "len") (fun xs H Q => ∃ z, xs = [.str z] ∧ z.length ≤ sizeLine ∧ Q (.int z.length) H) := by
  intro pins s σ H xs us Q I r h
  obtain ⟨z, rfl, hz, q⟩ := h
  obtain ⟨u, rfl, t, rfl⟩ := vals1 r
  have hn := line63
  exact len_str (by omega) ⟨.int z.length, H, I.tok _, ⟨_, rfl⟩, q⟩
theorem CallR.or {f : Value} {r r' : List V → Hp → VK → Prop} (h : CallR X f r) (h' : CallR X f r') : CallR X f (fun xs H Q => r xs H Q ∨ r' xs H Q) := by
  intro pins s σ H xs us Q I rs q
  rcases q with q | q
  · exact h pins s σ H xs us Q I rs q
  · exact h' pins s σ H xs us Q I rs q
theorem call_list_of : CallR X (.type "list") (fun xs H Q => ∃ p ys, xs = [.ref p] ∧ (SqL X.K H p ys ∨ SqT X.K H p ys) ∧ ∀ l, H l = none → Q (.ref l) (upd H l (.lst ys))) := by
  intro pins s σ H xs us Q I r h
  obtain ⟨p, ys, rfl, hq, q⟩ := h
  obtain ⟨u, rfl, rx⟩ := vals1 r
  cases rx
  have fin : ∀ (its : List Value), Vals ys its → ys.length ≤ sizeLine → ∀ (h' : Heap) (c' : Nat), (∀ b o', s.heap.get? b = some o' → h'.get? b = some o') →
      h'.get? s.heap.objs.size = some { cls := .type "list", dict := none, data := .seq its.toArray c', slots := #[] } → EP X pins σ Q (.ref s.heap.objs.size) { s with heap := h' } := fun its r' hz h' c' kp e =>
    ⟨.ref s.heap.objs.size, _, I.laid (t' := s.toks) kp (Nat.le_refl _) (show ObjOk X.prog X.w _ h' _ (.lst ys) from ⟨hz, its, c', r', e⟩), rfl, q _ (I.hok.fresh (Nat.le_refl _))⟩
  rcases hq with hq | hq
  · obtain ⟨its, r', pl, hz⟩ := I.list hq
    have hlen := r'.length
    obtain ⟨o, ho, hc, n, hd⟩ := pl.isList
    exact call_list_seq p (.inl rfl) ho hc hd (fun h' c' kp e => fin its r' hz h' c' kp e) (by simp only [List.size_toArray] <;> omega)
  · obtain ⟨its, r', pl, hz⟩ := I.tuple hq
    have hlen := r'.length
    obtain ⟨o, ho, hc, n, hd⟩ := pl
    exact call_list_seq p (.inr rfl) ho hc hd (fun h' c' kp e => fin its r' hz h' c' kp e) (by simp only [List.size_toArray] <;> omega)
theorem call_tuple_of : CallR X (.type "tuple") (fun xs H Q => ∃ p ys, xs = [.ref p] ∧ ((SqL X.K H p ys ∧ ∀ l, H l = none → Q (.ref l) (upd H l (.tup ys))) ∨ (SqT X.K H p ys ∧ Q (.ref p) H))) := by
  intro pins s σ H xs us Q I r h
  obtain ⟨p, ys, rfl, h⟩ := h
  obtain ⟨u, rfl, rx⟩ := vals1 r
  cases rx
  rcases h with ⟨hq, q⟩ | ⟨hq, q⟩
  · obtain ⟨its, r', pl, hz⟩ := I.list hq
    have hlen := r'.length
    refine call_tuple_list pl.isList (fun h' kp => ?_) (by simp only [List.size_toArray] <;> omega)
    have I1 : Inv X pins σ H { s with heap := h' } := I.kept (t' := s.toks) kp
    have I2 : Inv X pins σ (upd H h'.objs.size (.tup ys)) { s with heap := h'.push { cls := .type "tuple", data := .seq its.toArray } } :=
      I1.laid (t' := s.toks) (fun b o e => Heap.get?_push_of_some _ e) (Nat.le_refl _) (show ObjOk X.prog X.w _ _ _ (.tup ys) from ⟨hz, its, r', IsTup.new _ _⟩)
    exact ⟨.ref h'.objs.size, _, I2, rfl, q _ (I1.hok.fresh (Nat.le_refl _))⟩
  · obtain ⟨its, r', pl, hz⟩ := I.tuple hq
    exact call_tuple_same pl ⟨.ref p, H, I, rfl, q⟩

/-! ### the call of a builtin's method: o.m(..) -/
/-- the value is of that builtin type -/
def tyV (K : PySem.W.Frag) (T : String) (x : V) (H : Hp) : Prop := match x with
  | .str _ => T = "str"
  | .int _ => T = "int"
  | .ref p => (T = "list" ∧ ∃ xs, SqL K H p xs) ∨ (T = "tuple" ∧ ∃ o, K.lookup p = some o ∧ o.cls = .type "tuple" ∧ o.dict = none) ∨
      (T = "dict" ∧ ((∃ kvs, H p = some (.dK kvs)) ∨ ∃ kvs, H p = some (.dT kvs))) ∨ (T = "set" ∧ ∃ S n, H p = some (.set S n))
  | _ => False
theorem tyV_is {pins : List (Addr × Obj)} {σ : St} {H : Hp} {s : Shared} {T : String} {x : V} {v : Value} (I : Inv X pins σ H s) (r : RelV x v) (ty : tyV X.K T x H) :
    s.TypeIs v T ∧ ∀ a, v = .ref a → ∃ ob, s.heap.get? a = some ob ∧ ob.dict = none := by
  cases x with
  | str z =>
    obtain ⟨t, rfl⟩ := r
    cases (show T = "str" from ty)
    exact ⟨typeIs_str s z t, fun _ e => nomatch e⟩
  | int i =>
    obtain ⟨t, rfl⟩ := r
    cases (show T = "int" from ty)
    exact ⟨typeIs_int s i t, fun _ e => nomatch e⟩
  | ref p =>
    cases r
    rcases ty with ⟨rfl, xs, hq⟩ | ⟨rfl, o, hk, hc, hd⟩ | ⟨rfl, hk⟩ | ⟨rfl, S, n, hk⟩
    · obtain ⟨its, _, pl, _⟩ := I.list hq
      refine ⟨pl.isList.typeIs, fun a e => ?_⟩
      cases e
      obtain ⟨o, n, e, c, hd, _⟩ := pl
      exact ⟨o, e, hd⟩
    · refine ⟨⟨o, I.kIn p o hk, hc⟩, fun a e => ?_⟩
      cases e
      exact ⟨o, I.kIn _ o hk, hd⟩
    · have z : ∃ o, s.heap.get? p = some o ∧ o.ExactDict := by
        rcases hk with ⟨kvs, hk⟩ | ⟨kvs, hk⟩
        · obtain ⟨_, _, _, _, o, _, _, e, ex, _⟩ := I.hok p _ hk
          exact ⟨o, e, ex⟩
        · obtain ⟨_, _, _, _, o, _, _, e, ex, _⟩ := I.hok p _ hk
          exact ⟨o, e, ex⟩
      obtain ⟨o, e, ex⟩ := z
      refine ⟨⟨o, e, ex.1⟩, fun a e2 => ?_⟩
      cases e2
      exact ⟨o, e, ex.2.1⟩
    · obtain ⟨o, _, _, _, e, ex, _⟩ := I.hok p _ hk
      refine ⟨⟨o, e, ex.1⟩, fun a e2 => ?_⟩
      cases e2
      exact ⟨o, e, ex.2.1⟩
  | _ => exact False.elim ty
def tBM0 (K : PySem.W.Frag) (T : String) (r : V → List V → Hp → VK → Prop) (to : TE) : TE := fun σ H Q => to σ H fun x H1 => tyV K T x H1 ∧ r x [] H1 Q
def tBM (K : PySem.W.Frag) (T : String) (r : V → List V → Hp → VK → Prop) (to : TE) (t : TA) : TE := fun σ H Q => to σ H fun x H1 => tyV K T x H1 ∧ t σ H1 fun xs H2 => r x xs H2 Q
variable {o e : Expr} {es : List Expr} {to : TE} {t : TA} {name : Str} {apos cpos : Pos} {T id : String} {r : V → List V → Hp → VK → Prop}
theorem pe_bm0 (pa : PlainAttrs T) (slot : Slot T name id) (hty : typeOf (.builtin id) = pure (.type "method_descriptor")) (hm : MtR X id r) (ho : PE X o to)
    (hbase : attributeBase o name X.env (eval o X.env) = eval o X.env := by rfl) (hline : (apos.endLine == cpos.line) = true := by rfl) : PE X (.Call (.Attribute o name apos) [] [] cpos) (tBM0 X.K T r to) := by
  intro pins s σ H Q I h
  refine wpAny_Call_method0_late hbase hline (thn (ho pins s σ H _ I h) fun v s1 ⟨x, H1, I1, r1, ty, q1⟩ => ?_)
  obtain ⟨h1, h2⟩ := tyV_is I1 r1 ty
  exact ⟨T, id, pa, slot, hty, h1, h2, Calls.callWith_builtin rfl (PySem.evalArgs_none (hm pins s1 σ H1 x [] v [] Q I1 r1 .nil q1))⟩
theorem pe_bm (pa : PlainAttrs T) (slot : Slot T name id) (hty : typeOf (.builtin id) = pure (.type "method_descriptor")) (hm : MtR X id r) (ho : PE X o to) (ha : PA X (e :: es) t)
    (hbase : attributeBase o name X.env (eval o X.env) = eval o X.env := by rfl)
    (hfew : ((backTo cpos (starEach (e :: es) X.env)).all (fun x => !x.1) && (backToKw cpos (keywordEach [] X.env)).all (fun x => x.1.isSome)
      && decide ((e :: es).length + ([] : List Keyword).length + (if ([] : List Keyword).isEmpty then 0 else 1) < 30)) = true := by rfl)
    (hline : (apos.endLine == cpos.line) = true := by rfl) (hs : starEach (e :: es) X.env = (false, eval e X.env) :: starEach es X.env := by rfl) (hplain : (backTo cpos (starEach es X.env)).any (·.1) = false := by rfl) :
    PE X (.Call (.Attribute o name apos) (e :: es) [] cpos) (tBM X.K T r to t) := by
  intro pins s σ H Q I h
  refine wpAny_Call_method_late hbase hfew hline rfl (thn (ho pins s σ H _ I h) fun v s1 ⟨x, H1, I1, r1, ty, q1⟩ => ?_)
  obtain ⟨h1, h2⟩ := tyV_is I1 r1 ty
  refine ⟨T, id, pa, slot, hty, h1, h2, ?_⟩
  have hA := ha cpos pins s1 σ H1 _ I1 q1
  rw [hs] at hA ⊢
  refine Calls.callWith_builtin (by show (false || (backTo cpos (starEach es X.env)).any (·.1)) = false; rw [hplain] <;> rfl) (Calls.evalArgs_plain ?_)
  exact thn hA fun us s2 ⟨vs, H2, I2, r2, q2⟩ => hm pins s2 σ H2 x vs v us Q I2 r1 r2 q2
/- xs.append(e), list.index on a module's tuple .. are MtR facts of 06m -/
end
end L2

namespace L2
open PySem PySem.Spec PyProof.Rows

def MtM (X : Cx) (id : String) (r : V → List V → Hp → VK → Prop) : Prop :=
  ∀ (pins : List (Addr × Obj)) (s : Shared) (σ : St) (H : Hp) (x : V) (xs : List V) (v : Value) (us : List Value) (Q : VK), Inv X pins σ H s → RelV x v → Vals xs us → r x xs H Q →
    wpAny (model X.prog X.w) X.A (call (.builtin id) (v :: us)) (EP X pins σ Q) X.xe s

/-! ### lists of values -/
theorem Vals.one : ∀ {x : V} {us : List Value}, Vals [x] us → ∃ u, us = [u] ∧ RelV x u
  | _, _, .cons r .nil => ⟨_, rfl, r⟩
theorem Vals.two : ∀ {x y : V} {us : List Value}, Vals [x, y] us → ∃ u v, us = [u, v] ∧ RelV x u ∧ RelV y v
  | _, _, _, .cons r (.cons q .nil) => ⟨_, _, rfl, r, q⟩
theorem Vals.zero : ∀ {us : List Value}, Vals [] us → us = []
  | _, .nil => rfl
theorem Vals.dropLast {xs : List V} {us : List Value} (h : Vals xs us) : Vals xs.dropLast us.dropLast := by
  induction h with
  | nil => exact .nil
  | cons r t ih =>
    cases t with
    | nil => exact .nil
    | cons q t' => exact .cons r ih
theorem Vals.eraseIdx : ∀ {xs : List V} {us : List Value} (i : Nat), Vals xs us → Vals (xs.eraseIdx i) (us.eraseIdx i)
  | _, _, _, .nil => .nil
  | _, _, 0, .cons _ t => t
  | _, _, i + 1, .cons r t => .cons r (Vals.eraseIdx i t)
theorem Vals.reverse {xs : List V} {us : List Value} (h : Vals xs us) : Vals xs.reverse us.reverse := by
  induction h with
  | nil => exact .nil
  | cons r t ih => rw [List.reverse_cons, List.reverse_cons]; exact Vals.append ih (.cons r .nil)
theorem Vals.rep {xs : List V} {us : List Value} (h : Vals xs us) : ∀ k : Nat, Vals (List.replicate k xs).flatten (List.replicate k us).flatten
  | 0 => .nil
  | k + 1 => by
    rw [List.replicate_succ, List.replicate_succ, List.flatten_cons, List.flatten_cons]
    exact Vals.append h (Vals.rep h k)
theorem erase_last {α : Type} (l : List α) : l.eraseIdx (l.length - 1) = l.dropLast := by
  induction l with
  | nil => rfl
  | cons a r ih =>
    cases r with
    | nil => rfl
    | cons b r =>
      have e : (a :: b :: r).length - 1 = ((b :: r).length - 1) + 1 := by
        have h1 : (a :: b :: r).length = r.length + 2 := rfl
        have h2 : (b :: r).length = r.length + 1 := rfl
        omega
      rw [e, List.eraseIdx_cons_succ, ih]
      all_goals rfl
theorem len_erase {α : Type} : ∀ (l : List α) (i : Nat), (l.eraseIdx i).length ≤ l.length
  | [], _ => Nat.le_refl _
  | _ :: _, 0 => Nat.le_succ _
  | _ :: r, i + 1 => Nat.succ_le_succ (len_erase r i)
theorem foldl_rep (its : List Value) : ∀ (k : Nat) (acc : List Value),
    List.foldl (fun x1 x2 => x1 ++ x2) acc.toArray (List.replicate k its.toArray) = (acc ++ (List.replicate k its).flatten).toArray
  | 0, acc => by simp
  | k + 1, acc => by
    have e : acc.toArray ++ its.toArray = (acc ++ its).toArray := by simp
    have e2 : (acc ++ its) ++ (List.replicate k its).flatten = acc ++ (List.replicate (k + 1) its).flatten := by
      rw [List.replicate_succ, List.flatten_cons, List.append_assoc]
    rw [← e2, ← foldl_rep its k (acc ++ its), ← e, List.replicate_succ, List.foldl_cons]

section
variable {X : Cx} {pins : List (Addr × Obj)} {σ : St} {H : Hp} {s : Shared} {l b : Addr} {xs ys zs : List V}

/-! ### the two steps: a tracked list is rewritten, a new list is laid -/
theorem Inv.lset {its its' : List Value} {n : Nat} {f : Array Value → Array Value} {t' : Nat} (I : Inv X pins σ H s) (hH : H l = some (.lst xs))
    (e : s.heap.get? l = some { cls := .type "list", data := .seq its.toArray n }) (hf : f its.toArray = its'.toArray) (hv : Vals ys its') (hz : ys.length ≤ sizeLine) :
    Inv X pins σ (upd H l (.lst ys)) { s with heap := s.heap.update l (Obj.mapSeq f), toks := t' } := by
  have q := PySem.IsL.update e f
  rw [hf] at q
  refine I.write (x := l) (e := l) (by rw [hH]; exact trivial) (.inl rfl) (fun b' u hb hu => (Heap.get?_update_other s.heap (Obj.mapSeq f) (Ne.symm hb)).trans hu) ⟨_, q⟩ ?_
  exact ⟨hz, its', _, hv, q⟩
theorem Inv.lnew {its : List Value} {t' : Nat} (I : Inv X pins σ H s) (hv : Vals ys its) (hz : ys.length ≤ sizeLine) :
    Inv X pins σ (upd H s.heap.objs.size (.lst ys)) { s with heap := s.heap.push { cls := .type "list", data := .seq its.toArray }, toks := t' } :=
  I.laid (fun _ _ q => Heap.get?_push_of_some _ q) (Nat.le_refl _) ⟨hz, its, 0, hv, Heap.get?_push_size _ rfl⟩
theorem Inv.fresh (I : Inv X pins σ H s) : H s.heap.objs.size = none := I.hok.fresh (Nat.le_refl _)
theorem Inv.lstM (I : Inv X pins σ H s) (hH : H l = some (.lst xs)) : xs.length ≤ sizeLine ∧ ∃ (its : List Value) (n : Nat), Vals xs its ∧ xs.length = its.length ∧ s.heap.get? l = some { cls := .type "list", data := .seq its.toArray n } := by
  obtain ⟨z, its, n, r, e⟩ := I.hok l _ hH
  exact ⟨z, its, n, r, r.length, e⟩

theorem notLongL {n : Nat} (h : n ≤ sizeLine) : Builtin.List.listTooLong n = false := by
  unfold Builtin.List.listTooLong
  exact decide_eq_false (by omega)
end

section
variable {X : Cx}

/-! ### methods -/
def rAppend : V → List V → Hp → VK → Prop := fun x vs H Q => ∃ l xs y, x = .ref l ∧ vs = [y] ∧ H l = some (.lst xs) ∧ xs.length < sizeLine ∧ Q .non (upd H l (.lst (xs ++ [y])))
theorem mt_append : MtM X "list.append" rAppend := by
  intro pins s σ H x vs v us Q I rx rv h
  obtain ⟨l, xs, y, rfl, rfl, hH, hz, q⟩ := h
  cases rx
  obtain ⟨u, rfl, ru⟩ := rv.one
  obtain ⟨z, its, n, r, hl, e⟩ := I.lstM hH
  refine call_meets F.slot_list_append ⟨_, e, rfl⟩ F.entry_list_append (F.args_list_append_2 _ _) (PySem.list_append l its.toArray n u (by rw [List.size_toArray]; omega)) ⟨e, ?_⟩
  refine ⟨.non, _, I.lset (its' := its ++ [u]) hH e (by simp) (r.append (.cons ru .nil)) ?_, rfl, q⟩
  rw [List.length_append, List.length_singleton]
  omega

def rExtend : V → List V → Hp → VK → Prop := fun x vs H Q => ∃ l b xs zs, x = .ref l ∧ vs = [.ref b] ∧ H l = some (.lst xs) ∧ H b = some (.lst zs) ∧ xs.length + zs.length ≤ sizeLine ∧ Q .non (upd H l (.lst (xs ++ zs)))
theorem mt_extend : MtM X "list.extend" rExtend := by
  intro pins s σ H x vs v us Q I rx rv h
  obtain ⟨l, b, xs, zs, rfl, rfl, hH, hB, hz, q⟩ := h
  cases rx
  obtain ⟨u, rfl, ru⟩ := rv.one
  cases ru
  obtain ⟨z, its, n, r, hl, e⟩ := I.lstM hH
  obtain ⟨z2, its2, n2, r2, hl2, e2⟩ := I.lstM hB
  have hsz : its.toArray.size + its2.toArray.size ≤ sizeLine := by rw [List.size_toArray, List.size_toArray]; omega
  have hlong : ¬ (!its.toArray.isEmpty && Builtin.List.listTooLong (its.toArray.size + its2.toArray.size)) = true := by
    rw [notLongL hsz, Bool.and_false]
    exact Bool.false_ne_true
  refine call_meets F.slot_list_extend ⟨_, e, rfl⟩ F.entry_list_extend (F.args_list_extend_2 _ _)
    (AutoSeq1.list_extend_list_list_0 l its.toArray n b its2.toArray n2 hlong (by rw [List.size_toArray]; omega) (by omega)) ⟨e, e2, ?_⟩
  refine ⟨.non, _, I.lset (its' := its ++ its2) hH e (by simp) (r.append r2) ?_, rfl, q⟩
  rw [List.length_append]
  omega

def rPop : V → List V → Hp → VK → Prop := fun x vs H Q => ∃ l xs y, x = .ref l ∧ vs = [] ∧ H l = some (.lst xs) ∧ xs[xs.length - 1]? = some y ∧ Q y (upd H l (.lst xs.dropLast))
theorem mt_pop : MtM X "list.pop" rPop := by
  intro pins s σ H x vs v us Q I rx rv h
  obtain ⟨l, xs, y, rfl, rfl, hH, hy, q⟩ := h
  cases rx
  have hus := rv.zero
  subst hus
  obtain ⟨z, its, n, r, hl, e⟩ := I.lstM hH
  obtain ⟨u, hu, ru⟩ := r.get hy
  have hy' : its.toArray[its.toArray.size - 1]? = some u := by
    show its.toArray[its.length - 1]? = some u
    rw [← Array.getElem?_toList, ← hl]
    exact hu
  refine call_meets F.slot_list_pop ⟨_, e, rfl⟩ F.entry_list_pop (F.args_list_pop_1 _) (MeetsSeq.list_pop_last l its.toArray n u hy' (by rw [List.size_toArray]; omega)) ⟨e, ?_⟩
  refine ⟨y, _, I.lset (its' := its.dropLast) hH e ?_ r.dropLast ?_, ru, q⟩
  · show its.toArray.eraseIdxIfInBounds (its.toArray.size - 1) = its.dropLast.toArray
    rw [List.size_toArray, List.eraseIdxIfInBounds_toArray, erase_last]
  · rw [List.length_dropLast]
    omega

def rPopAt : V → List V → Hp → VK → Prop := fun x vs H Q => ∃ l xs i k y, x = .ref l ∧ vs = [.int i] ∧ H l = some (.lst xs) ∧ -(2 ^ 63) ≤ i ∧ i < 2 ^ 63 ∧ seqIndex? i xs.length = some k ∧ xs[k]? = some y ∧ Q y (upd H l (.lst (xs.eraseIdx k)))
theorem mt_popAt : MtM X "list.pop" rPopAt := by
  intro pins s σ H x vs v us Q I rx rv h
  obtain ⟨l, xs, i, k, y, rfl, rfl, hH, h1, h2, hk, hy, q⟩ := h
  cases rx
  obtain ⟨u, rfl, ru⟩ := rv.one
  obtain ⟨t, rfl⟩ := ru
  obtain ⟨z, its, n, r, hl, e⟩ := I.lstM hH
  obtain ⟨w, hw, rw'⟩ := r.get hy
  refine call_meets F.slot_list_pop ⟨_, e, rfl⟩ F.entry_list_pop (F.args_list_pop_2 _ _)
    (MeetsSeq.list_pop_at l its.toArray n i t k w (fitsIndex_both h1 h2) (by rw [List.size_toArray, ← hl]; exact hk) (by rw [← Array.getElem?_toList]; exact hw) (by rw [List.size_toArray]; omega)) ⟨e, ?_⟩
  refine ⟨y, _, I.lset (its' := its.eraseIdx k) hH e ?_ (r.eraseIdx k) ?_, rw', q⟩
  · show its.toArray.eraseIdxIfInBounds k = (its.eraseIdx k).toArray
    rw [List.eraseIdxIfInBounds_toArray]
  · have := len_erase xs k
    omega

def rReverse : V → List V → Hp → VK → Prop := fun x vs H Q => ∃ l xs, x = .ref l ∧ vs = [] ∧ H l = some (.lst xs) ∧ Q .non (upd H l (.lst xs.reverse))
theorem mt_reverse : MtM X "list.reverse" rReverse := by
  intro pins s σ H x vs v us Q I rx rv h
  obtain ⟨l, xs, rfl, rfl, hH, q⟩ := h
  cases rx
  have hus := rv.zero
  subst hus
  obtain ⟨z, its, n, r, hl, e⟩ := I.lstM hH
  refine call_meets F.slot_list_reverse ⟨_, e, rfl⟩ F.entry_list_reverse (F.args_list_reverse_1 _) (AutoSeq1.list_reverse_list_0 l its.toArray n (by rw [List.size_toArray]; omega)) ⟨e, ?_⟩
  refine ⟨.non, _, I.lset (its' := its.reverse) hH e (by simp) r.reverse ?_, rfl, q⟩
  rw [List.length_reverse]
  omega

def rClear : V → List V → Hp → VK → Prop := fun x vs H Q => ∃ l xs, x = .ref l ∧ vs = [] ∧ H l = some (.lst xs) ∧ Q .non (upd H l (.lst []))
theorem mt_clear : MtM X "list.clear" rClear := by
  intro pins s σ H x vs v us Q I rx rv h
  obtain ⟨l, xs, rfl, rfl, hH, q⟩ := h
  cases rx
  have hus := rv.zero
  subst hus
  obtain ⟨z, its, n, r, hl, e⟩ := I.lstM hH
  refine call_meets F.slot_list_clear ⟨_, e, rfl⟩ F.entry_list_clear (F.args_list_clear_1 _) (AutoSeq1.list_clear_list_0 l its.toArray n (by rw [List.size_toArray]; omega)) ⟨e, ?_⟩
  exact ⟨.non, _, I.lset (its' := []) (ys := []) hH e rfl .nil (Nat.zero_le _), rfl, q⟩

/-! ### list + list, list += list, list * int -/
def rCat : R2 := fun x y H Q => ∃ l b xs zs, x = .ref l ∧ y = .ref b ∧ H l = some (.lst xs) ∧ H b = some (.lst zs) ∧ xs.length + zs.length ≤ sizeLine ∧ ∀ p, H p = none → Q (.ref p) (upd H p (.lst (xs ++ zs)))
theorem op_cat : OpR X (binaryOp .Add) rCat := by
  intro pins s σ H x y v u Q I rx ry h
  obtain ⟨l, b, xs, zs, rfl, rfl, hH, hB, hz, q⟩ := h
  cases rx
  cases ry
  obtain ⟨z, its, n, r, hl, e⟩ := I.lstM hH
  obtain ⟨z2, its2, n2, r2, hl2, e2⟩ := I.lstM hB
  refine PySem.P.add_list e e2 ?_ (by rw [List.size_toArray, List.size_toArray]; omega)
  have ea : its.toArray ++ its2.toArray = (its ++ its2).toArray := by simp
  rw [ea]
  exact ⟨.ref _, _, I.lnew (t' := s.toks) (r.append r2) (by rw [List.length_append]; omega), rfl, q _ I.fresh⟩
/-- a list times an int (a negative one is nothing) -/
def rRep : R2 := fun x y H Q => ∃ l k xs, x = .ref l ∧ y = .int k ∧ H l = some (.lst xs) ∧ -(2 ^ 63) ≤ k ∧ k < 2 ^ 63 ∧ xs.length * k.toNat ≤ sizeLine ∧
  ∀ p, H p = none → Q (.ref p) (upd H p (.lst (List.replicate k.toNat xs).flatten))
theorem len_rep {α : Type} (xs : List α) (k : Nat) : (List.replicate k xs).flatten.length = k * xs.length := by
  induction k with
  | zero => simp
  | succ k ih => rw [List.replicate_succ, List.flatten_cons, List.length_append, ih, Nat.succ_mul, Nat.add_comm]
theorem op_rep : OpR X (binaryOp .Mult) rRep := by
  intro pins s σ H x y v u Q I rx ry h
  obtain ⟨l, k, xs, rfl, rfl, hH, h1, h2, hz, q⟩ := h
  cases rx
  obtain ⟨t, rfl⟩ := ry
  obtain ⟨z, its, n, r, hl, e⟩ := I.lstM hH
  have hlen : its.toArray.size * k.toNat ≤ sizeLine := by rw [List.size_toArray, ← hl]; exact hz
  have hcap : ¬ its.toArray.size * k.toNat > (2 ^ 63 - 1) / 8 := by
    have : (sizeLine : Nat) ≤ (2 ^ 63 - 1) / 8 := by decide
    omega
  have hfit : ¬ (!Builtin.List.listFitsIndex k) = true := by
    rw [fitsIndex_both h1 h2]
    exact Bool.false_ne_true
  have hlong : ¬ Builtin.List.listTooLong (its.toArray.size * k.toNat) = true := by
    rw [notLongL hlen]
    exact Bool.false_ne_true
  have hnew : List.foldl (fun x1 x2 => x1 ++ x2) #[] (List.replicate (if its.toArray.isEmpty = true then 0 else k.toNat) its.toArray) = (List.replicate k.toNat its).flatten.toArray := by
    have f0 : ∀ m : Nat, List.foldl (fun x1 x2 => x1 ++ x2) #[] (List.replicate m its.toArray) = (List.replicate m its).flatten.toArray := fun m => by
      have := foldl_rep its m []
      rw [List.nil_append] at this
      exact this
    rw [f0]
    cases its with
    | nil => simp
    | cons a r' => rw [if_neg (by simp)]
  refine wpAny_binaryOp_repeat_ref (T := "list") (U := "int") (by decide) ⟨_, e, rfl⟩ (fun s' => typeIs_int s' k t) noFill_list_mul F.fills_int_mul F.slot_int_rmul repeat_list F.slot_int_index.lookup
    (call_meets F.slot_int_rmul (typeIs_int s k t) F.entry_int_rmul (F.args_int_rmul_2 _ _) (int___rmul___int_list k t l its.toArray n)
      ⟨e, rfl, ⟨_, e, rfl⟩, call_meets F.slot_list_mul ⟨_, e, rfl⟩ F.entry_list_mul (F.args_list_mul_2 _ _) (AutoListH.list___mul___list_int_3 l its.toArray n k t hfit hcap hlong) ⟨e, ?_⟩⟩)
  rw [hnew]
  exact ⟨.ref _, _, I.lnew (t' := s.toks) (r.rep k.toNat) (by rw [len_rep, Nat.mul_comm]; exact hz), rfl, q _ I.fresh⟩

/-! ### del xs[i] -/
theorem del_list {pins : List (Addr × Obj)} {s : Shared} {σ : St} {H : Hp} {l : Addr} {xs : List V} {i : Int} {t : Tok} {k : Nat} {Q : Unit → Shared → Prop} (I : Inv X pins σ H s) (hH : H l = some (.lst xs))
    (h1 : -(2 ^ 63) ≤ i) (h2 : i < 2 ^ 63) (hk : seqIndex? i xs.length = some k) (h : ∀ s', Inv X pins σ (upd H l (.lst (xs.eraseIdx k))) s' → Q () s') :
    wpAny (model X.prog X.w) X.A (delItem (.ref l) (.int i t)) Q X.xe s := by
  obtain ⟨z, its, n, r, hl, e⟩ := I.lstM hH
  refine PySem.P.delItem_list (k := k) e (fitsIndex_both h1 h2) (by rw [List.size_toArray, ← hl]; exact hk) (h _ ?_) (by rw [List.size_toArray]; omega)
  refine I.lset (its' := its.eraseIdx k) (t' := s.toks) hH e ?_ (r.eraseIdx k) ?_
  · show its.toArray.eraseIdxIfInBounds k = (its.eraseIdx k).toArray
    rw [List.eraseIdxIfInBounds_toArray]
  · have := len_erase xs k
    omega
end

/-! ### xs[a:b] = ys -/
section
variable {prog : Program} {w : World} {A : Around} {E : Value → Shared → Prop} {s : Shared}
theorem splice_eq (its its2 : List Value) (a c : Nat) : its.toArray.extract 0 a ++ its2.toArray ++ its.toArray.extract c its.toArray.size = (its.take a ++ its2 ++ its.drop c).toArray := by
  apply Array.toList_inj.mp
  first
    | (simp
       exact List.take_of_length_le (by simp))
    | simp [List.take_of_length_le]
    | simp
theorem bounds_run {a c n : Nat} (hac : a ≤ c) (hc : c ≤ n) : sliceBounds (some (a : Int)) (some (c : Int)) none n = ((a : Int), (c : Int), 1) := by
  simp only [sliceBounds, Option.getD_none]
  have h1 : ¬ ((a : Int) < 0) := by omega
  have h2 : ¬ ((c : Int) < 0) := by omega
  simp only [h1, h2, if_false, show (1 : Int) > 0 by decide, if_true]
  congr 1
  · omega
  · congr 1; omega
set_option maxRecDepth 100000 in
/-- list.__setitem__ with a slice of step one and another list -/
theorem setItem_slice {l b sl : Addr} {items new : Array Value} {n n2 : Nat} {vl vu : Value} {a c : Nat} {Q : Unit → Shared → Prop}
    (e : s.heap.get? l = some { cls := .type "list", data := .seq items n }) (e2 : s.heap.get? b = some { cls := .type "list", data := .seq new n2 }) (hne : l ≠ b)
    (hs : s.heap.IsSliceOf sl vl vu .none) (pl : IsPart vl (some (a : Int))) (pu : IsPart vu (some (c : Int))) (hac : a ≤ c) (hc : c ≤ items.size)
    (hsz : items.size + new.size ≤ sizeLine) (h : Q () { s with heap := s.heap.update l (Obj.mapSeq fun xs => xs.extract 0 a ++ new ++ xs.extract c xs.size) }) :
    wpAny (model prog w) A (setItem (.ref l) (.ref sl) (.ref b)) Q E s := by
  have hl : s.heap.IsList l items := PySem.IsL.isList e
  have hb : s.heap.IsList b new := PySem.IsL.isList e2
  obtain ⟨os, hos, hcs, hds⟩ := id hs
  have hTs : s.TypeIs (.ref sl) "slice" := ⟨os, hos, hcs⟩
  have hstep : ¬ ((rawPart none == rawInt 0) = true) := Bool.false_ne_true
  have hsame : Builtin.List.listSameRef (.ref l) (.ref b) = false := by
    unfold Builtin.List.listSameRef
    exact beq_eq_false_iff_ne.mpr hne
  have hmax : (max (a : Int) (c : Int)).toNat = c := by omega
  have hz' : ((fun xs : Array Value => xs.extract 0 a ++ new ++ xs.extract c xs.size) items).size ≤ sizeLine + 1 := by
    simp only [Array.size_append, Array.size_extract]
    omega
  unfold setItem
  try with_reducible refine wpAny_holding ?_
  first | refine wpAny_bind (wpAny_pure ?_) | skip
  refine wpAny_bind (wpAny_sequenceKey hl.typeIs (by decide) ?_)
  refine wpAny_bind (wpAny_callSpecial?_slot (name := Str.ofString "__setitem__") hl.typeIs slot_list_setitem
    (wpAny_call_entry slot_list_setitem hl.typeIs entry_list_setitem ?_ (args_list_setitem _ _ _)))
  show wpAny _ _ (Builtin.List.listSubscript? (.ref sl) >>= _) _ _ s
  refine wpAny_bind ?_
  unfold Builtin.List.listSubscript?
  refine wpAny_bind (wpAny_specialOf hTs slice_no_index ?_)
  simp only [Option.isNone_none, if_true]
  refine wpAny_pure ?_
  show wpAny _ _ (typeOf (.ref sl) >>= _) _ _ s
  refine wpAny_bind (wpAny_typeOf hTs ?_)
  first
    | rw [if_neg (by decide)]
    | refine PySem.W.KFB.if_not (by decide) ?_
  rw [listSliceParts_eq]
  refine wpAny_bind (wpAny_bind (wpAny_field hos hds (x := .none) rfl (wpAny_bind (wpAny_listPart .none ?_))))
  rw [if_neg hstep]
  refine wpAny_bind (wpAny_field hos hds (x := vl) rfl (wpAny_bind (wpAny_listPart pl ?_)))
  refine wpAny_bind (wpAny_field hos hds (x := vu) rfl (wpAny_bind (wpAny_listPart pu (wpAny_pure ?_))))
  first
    | simp only [hsame, Bool.false_eq_true, if_false]
    | refine PySem.W.KFB.if_not hsame ?_
    | (dsimp only
       rw [if_neg (by rw [hsame]; exact Bool.false_ne_true)])
  refine wpAny_bind (m := Builtin.List.listAllItems (.ref b) "must assign iterable to extended slice") ?_
  unfold Builtin.List.listAllItems
  refine wpAny_bind (wpAny_typeOf hb.typeIs ?_)
  first
    | refine PySem.W.KFB.if_so (by decide) ?_
    | rw [if_pos (by decide)]
    | simp only [beq_self_eq_true, Bool.true_or, if_true]
  unfold Builtin.List.listItems
  refine wpAny_bind (wpAny_seqItems e2 rfl (wpAny_pure ?_))
  refine wpAny_bind (wpAny_bind (wpAny_seqItems e rfl (wpAny_pure ?_)))
  refine wpAny_bind (wpAny_of_eq ((sliceIndices_raw (some (a : Int)) (some (c : Int)) none items.size (by simp)).trans (congrArg (pure : Int × Int × Int → Sem (Int × Int × Int)) (bounds_run hac hc))) ?_)
  show wpAny _ _ (if ((1 : Int) == 1) = true then _ else _) _ _ s
  rw [if_pos (by decide)]
  refine wpAny_bind (wpAny_rule ?_)
  first
    | simp only [notLongL hsz, Bool.false_eq_true, if_false]
    | refine PySem.W.KFB.if_not (notLongL hsz) ?_
  first | refine wpAny_bind (wpAny_pure ?_) | skip
  show wpAny _ _ (updateSeq l (fun xs => xs.extract 0 ((a : Int)).toNat ++ new ++ xs.extract (max (a : Int) (c : Int)).toNat xs.size) >>= _) _ _ s
  rw [hmax, Int.toNat_natCast]
  refine wpAny_bind (wpAny_updateSeq (hz := Nat.le_trans (Nat.le_add_right _ _) hsz) (_hz' := hz') e rfl ?_)
  refine wpAny_bind (wpAny_letGo ?_)
  first
    | exact wpAny_bind (wpAny_pure (wpAny_pure ⟨.none, rfl, wpAny_pure h⟩))
    | exact wpAny_pure ⟨.none, rfl, wpAny_pure h⟩
end

section
variable {X : Cx}
/-- xs[a:c] = ys of another list, at the value level: sl is the slice object that was just made -/
theorem set_slice {pins : List (Addr × Obj)} {s : Shared} {σ : St} {H : Hp} {l b sl : Addr} {xs ys : List V} {a c : Int} {vl vu : Value} {Q : Unit → Shared → Prop} (I : Inv X pins σ H s)
    (hH : H l = some (.lst xs)) (hB : H b = some (.lst ys)) (hne : l ≠ b) (hs : s.heap.IsSliceOf sl vl vu .none) (ra : RelV (.int a) vl) (rc : RelV (.int c) vu) (h0 : 0 ≤ a) (hac : a ≤ c) (hc : c ≤ xs.length)
    (hz : xs.length + ys.length ≤ sizeLine) (h : ∀ s', Inv X pins σ (upd H l (.lst (xs.take a.toNat ++ ys ++ xs.drop c.toNat))) s' → Q () s') :
    wpAny (model X.prog X.w) X.A (setItem (.ref l) (.ref sl) (.ref b)) Q X.xe s := by
  obtain ⟨ta, rfl⟩ := ra
  obtain ⟨tc, rfl⟩ := rc
  obtain ⟨z, its, n, r, hl, e⟩ := I.lstM hH
  obtain ⟨z2, its2, n2, r2, hl2, e2⟩ := I.lstM hB
  obtain ⟨a', rfl⟩ := Int.eq_ofNat_of_zero_le h0
  obtain ⟨c', rfl⟩ := Int.eq_ofNat_of_zero_le (Int.le_trans h0 hac)
  simp only [Int.toNat_natCast] at h
  refine setItem_slice (a := a') (c := c') e e2 hne hs (.int _ _) (.int _ _) (by omega) (by rw [List.size_toArray]; omega) (by rw [List.size_toArray, List.size_toArray]; omega) (h _ ?_)
  refine I.lset (its' := its.take a' ++ its2 ++ its.drop c') (t' := s.toks) hH e ?_ (Vals.append (Vals.append (r.take _) r2) (r.drop _)) ?_
  · exact splice_eq its its2 a' c'
  · rw [List.length_append, List.length_append, List.length_take, List.length_drop]
    omega
end
end L2

namespace Att
open PySem PySem.W PySem.Calls PyProof.Rows

/-! ### the script -/
theorem ints_of_wellAll {P : Params} {h : Heap} : ∀ (ns : List Int) (vs : List Value), WellAll P h vs (ns.map WData.int) → IntsAre vs ns := by
  intro ns
  induction ns with
  | nil =>
    intro vs w
    rw [List.map_nil] at w
    cases w
    exact .nil
  | cons n ns ih =>
    intro vs w
    rw [List.map_cons] at w
    cases w with
    | cons a b =>
      cases a
      exact .cons _ _ (ih _ b)

theorem script_of {l : OpenLaw} {n : Nat} (hn : l.most = some n) {P : Params} {h : Heap} {args : List WData} {vals : List Value}
    (hpre : l.row.toRowW.claim.pre args = true) (hwl : WellAll P h vals args) :
    ∃ a vs ns, vals = [Value.ref a] ∧ args = [WData.list (ns.map WData.int)] ∧ h.get? a = some { cls := .type "list", data := .seq vs.toArray } ∧ IntsAre vs ns ∧ ns.length ≤ n := by
  have hsh : WShape.hasAll [] args [.list .int] = true := (pre_splitW hpre).1
  have hc : l.pre.holds [] { args := args } = true := (pre_splitW hpre).2
  obtain ⟨d, r, rfl, h1, h2⟩ := hasAllW_cons hsh
  obtain rfl := hasAllW_nil h2
  obtain ⟨xs, rfl, h3⟩ := hasW_list h1
  obtain ⟨ns, rfl⟩ := items_int h3
  have hlen : ns.length ≤ n := by
    unfold OpenLaw.pre at hc
    have h4 : (WTm.not (.lt (.lit (.int (n : Int))) (.len (.arg 0)))).holds [] { args := [.list (ns.map .int)] } = true := by
      have h4 := (holds_andW hc).1
      rw [hn] at h4
      exact h4
    have h5 := condW_of h4 (w_not (w_lt w_lit (w_len_list (w_arg rfl))))
    rw [List.length_map] at h5
    refine Nat.le_of_not_lt fun q => ?_
    have q' : (n : Int) < ((ns.length : Nat) : Int) := by omega
    first
      | (rw [decide_eq_true q'] at h5; exact absurd h5 (by decide))
      | (simp at h5; omega)
  cases hwl with
  | cons w1 w2 =>
    cases w2
    cases w1 with
    | list ho hall => exact ⟨_, _, ns, rfl, rfl, ho, ints_of_wellAll ns _ hall, hlen⟩

theorem post_true (l : OpenLaw) (args : List WData) : l.row.toRowW.claim.post args (.bool true) args = true :=
  postW_of (r := l.row.toRowW) (X := (true == true))
    (show WShape.has [] (.bool true) .bool = true by first | rfl | decide | simp [WShape.has, WShape.arms, WShape.armsAll])
    (show (WTm.eq .res (.lit (.bool true))).value [] { args := args, res := some (.bool true), after := args } = some (.bool (true == true)) from w_eq_bool (w_res rfl) w_lit) rfl

/-! ### the attachment: holds_open's last premise (the goal 'hc' behind k_head) from a wpAny of the law's body -/
theorem attach {l : OpenLaw} {n : Nat} {q : Program} {loose : List Str} {XP : (Str → Option Value) → Heap → Prop} {YP : World → Heap → Prop} {d : DefRec} {x : Str}
    (hn : l.most = some n) (hdf : d.params.defaults = [])
    (hbind : ∀ pm cd doc v : Value, bindArgs (docDef d.name d.params d.body d.scope pm cd doc) ⟨[v], []⟩ = pure [(x, v)])
    (hx : d.scope.names.lookup x = some .local ∨ d.scope.names.lookup x = some .cell)
    (hk : d.scope.kind = .function) (hco : d.scope.isCoroutine = false) (hgen : d.scope.isGenerator = false)
    (body : ∀ (w : World) (s₀ s₁ s : Shared) (mg mb : Str → Option Value) (fa : Addr) (o : Obj) (pm cd doc : Value) (a : Addr) (vs : List Value) (ns : List Int),
      Ground q loose [] XP w s₀ mg mb s₁.heap → YP w s₁.heap →
      s₁.heap.get? fa = some o → o.data = .func (docDef d.name d.params d.body d.scope pm cd doc) → s₁.heap.CodeRec cd d.name → mg d.name = some (.ref fa) →
      s₁.heap.get? a = some { cls := .type "list", data := .seq vs.toArray } → IntsAre vs ns → ns.length ≤ n →
      s.gens = #[] → s.os = s₁.os →
      Fr s₁.heap s₁.heap.objs.size s.heap (bindL (envOfC d.name d.scope s₁.heap.objs.size fa cd).kindOf [(x, .ref a)] fun _ => none) →
      Cl s₁.heap.objs.size (cellsFrom (s₁.heap.objs.size + 1) d.scope.names []) s.heap (bindC (envOfC d.name d.scope s₁.heap.objs.size fa cd).kindOf [(x, .ref a)] fun _ => none) →
      wpAny (model l.prog w) (callerA.deeper (envOfC d.name d.scope s₁.heap.objs.size fa cd)) (execs d.body (envOfC d.name d.scope s₁.heap.objs.size fa cd))
        (fun f s' => f = .ret (.bool true) ∧ OldK s₁.heap s'.heap ∧ s'.os = s₁.os ∧ AllBare s'.gens) (fun _ _ => False) s) :
    WalkO q loose XP YP l.row.toRowW d [] (fun f vs => PySem.call f vs) := by
  intro w s₀ s₁ mg mb G Y fa o pm cd doc dV kV ho hd hcd hD hmg hg args vals as hpre hlay hrd hwl hlo
  obtain rfl : dV = .none := Dflts.none hD hdf
  obtain rfl : kV = .none := Dflts.noKw hD
  obtain ⟨a, vs, ns, rfl, rfl, hobj, hints, hlen⟩ := script_of hn hpre hwl
  refine enter_call ?_
  refine call_cells_ret (o := o) (by rw [depth_caller]; decide) ho (fd_plain hd) G.T.nolimit hcd (hbind pm cd doc (.ref a)) (fun y hy => ?_) (fun h₁ tk F X => ?_) hco hgen hk
  · obtain rfl : y = (x, Value.ref a) := List.mem_singleton.mp hy
    rcases hx with e | e
    · exact .inl e
    · exact .inr ⟨e, cellsFrom_some _ _ _ (.inl e)⟩
  · refine wpAny_mono (body w s₀ s₁ { s₁ with heap := h₁, toks := tk } mg mb fa o pm cd doc a vs ns G Y ho (fd_plain hd) hcd hmg hobj hints hlen hg rfl F X) (fun f s' hq => ?_) (fun _ _ hq => hq)
    obtain ⟨rfl, h2, h3, h4⟩ := hq
    exact ⟨.inl ⟨.bool true, .bool true, [], rfl, fun _ => rfl, .bool true, post_true l _, fun _ => ⟨List.Pairwise.nil, fun _ hm => (nomatch hm)⟩⟩, h2, h3, h4⟩

/-- the same from a codeAny of the CALL (for a layer whose function contracts speak of calls) -/
theorem attach_call {l : OpenLaw} {n : Nat} {q : Program} {loose : List Str} {XP : (Str → Option Value) → Heap → Prop} {YP : World → Heap → Prop} {d : DefRec}
    (hn : l.most = some n) (hdf : d.params.defaults = [])
    (call : ∀ (w : World) (s₀ s₁ : Shared) (mg mb : Str → Option Value) (fa : Addr) (o : Obj) (pm cd doc : Value) (a : Addr) (vs : List Value) (ns : List Int),
      Ground q loose [] XP w s₀ mg mb s₁.heap → YP w s₁.heap →
      s₁.heap.get? fa = some o → o.data = .func (docDef d.name d.params d.body d.scope pm cd doc) → s₁.heap.CodeRec cd d.name → mg d.name = some (.ref fa) →
      s₁.heap.get? a = some { cls := .type "list", data := .seq vs.toArray } → IntsAre vs ns → ns.length ≤ n → s₁.gens = #[] →
      codeAny (model l.prog w) callerA (.call (.ref fa) ⟨[.ref a], []⟩) (fun r s' => r = .ok (.ret (.bool true)) ∧ OldK s₁.heap s'.heap ∧ s'.os = s₁.os ∧ AllBare s'.gens) s₁) :
    WalkO q loose XP YP l.row.toRowW d [] (fun f vs => PySem.call f vs) := by
  intro w s₀ s₁ mg mb G Y fa o pm cd doc dV kV ho hd hcd hD hmg hg args vals as hpre hlay hrd hwl hlo
  obtain rfl : dV = .none := Dflts.none hD hdf
  obtain rfl : kV = .none := Dflts.noKw hD
  obtain ⟨a, vs, ns, rfl, rfl, hobj, hints, hlen⟩ := script_of hn hpre hwl
  refine enter_call (codeAny_mono (call w s₀ s₁ mg mb fa o pm cd doc a vs ns G Y ho (fd_plain hd) hcd hmg hobj hints hlen hg) fun r s' hq => ?_)
  obtain ⟨rfl, h2, h3, h4⟩ := hq
  exact ⟨.inl ⟨.bool true, .bool true, [], rfl, fun _ => rfl, .bool true, post_true l _, fun _ => ⟨List.Pairwise.nil, fun _ hm => (nomatch hm)⟩⟩, h2, h3, h4⟩

/-- the same where the top left finished generators (o_head chose holds_openN): nothing may have changed at all and no generator may be left -/
theorem attachN {l : OpenLaw} {n : Nat} {q : Program} {loose : List Str} {XP : (Str → Option Value) → Heap → Prop} {YP : World → Heap → Prop} {d : DefRec} {x : Str}
    (hn : l.most = some n) (hdf : d.params.defaults = [])
    (hbind : ∀ pm cd doc v : Value, bindArgs (docDef d.name d.params d.body d.scope pm cd doc) ⟨[v], []⟩ = pure [(x, v)])
    (hx : d.scope.names.lookup x = some .local ∨ d.scope.names.lookup x = some .cell)
    (hk : d.scope.kind = .function) (hco : d.scope.isCoroutine = false) (hgen : d.scope.isGenerator = false)
    (body : ∀ (w : World) (s₀ s₁ s : Shared) (mg mb : Str → Option Value) (fa : Addr) (o : Obj) (pm cd doc : Value) (a : Addr) (vs : List Value) (ns : List Int),
      Ground q loose [] XP w s₀ mg mb s₁.heap → YP w s₁.heap →
      s₁.heap.get? fa = some o → o.data = .func (docDef d.name d.params d.body d.scope pm cd doc) → s₁.heap.CodeRec cd d.name → mg d.name = some (.ref fa) →
      s₁.heap.get? a = some { cls := .type "list", data := .seq vs.toArray } → IntsAre vs ns → ns.length ≤ n →
      s.gens = #[] → s.os = s₁.os →
      Fr s₁.heap s₁.heap.objs.size s.heap (bindL (envOfC d.name d.scope s₁.heap.objs.size fa cd).kindOf [(x, .ref a)] fun _ => none) →
      Cl s₁.heap.objs.size (cellsFrom (s₁.heap.objs.size + 1) d.scope.names []) s.heap (bindC (envOfC d.name d.scope s₁.heap.objs.size fa cd).kindOf [(x, .ref a)] fun _ => none) →
      wpAny (model l.prog w) (callerA.deeper (envOfC d.name d.scope s₁.heap.objs.size fa cd)) (execs d.body (envOfC d.name d.scope s₁.heap.objs.size fa cd))
        (fun f s' => f = .ret (.bool true) ∧ (∀ b o, s₁.heap.get? b = some o → s'.heap.get? b = some o) ∧ s'.os = s₁.os ∧ s'.gens = #[]) (fun _ _ => False) s) :
    WalkN q loose XP YP l.row.toRowW d [] (fun f vs => PySem.call f vs) := by
  intro w s₀ s₁ mg mb G Y fa o pm cd doc dV kV ho hd hcd hD hmg hg args vals as hpre hlay hrd hwl hlo
  obtain rfl : dV = .none := Dflts.none hD hdf
  obtain rfl : kV = .none := Dflts.noKw hD
  obtain ⟨a, vs, ns, rfl, rfl, hobj, hints, hlen⟩ := script_of hn hpre hwl
  refine enter_callW ?_
  refine call_cells_ret (o := o) (by rw [depth_caller]; decide) ho (fd_plain hd) G.T.nolimit hcd (hbind pm cd doc (.ref a)) (fun y hy => ?_) (fun h₁ tk F X => ?_) hco hgen hk
  · obtain rfl : y = (x, Value.ref a) := List.mem_singleton.mp hy
    rcases hx with e | e
    · exact .inl e
    · exact .inr ⟨e, cellsFrom_some _ _ _ (.inl e)⟩
  · refine wpAny_mono (body w s₀ s₁ { s₁ with heap := h₁, toks := tk } mg mb fa o pm cd doc a vs ns G Y ho (fd_plain hd) hcd hmg hobj hints hlen hg rfl F X) (fun f s' hq => ?_) (fun _ _ hq => hq)
    obtain ⟨rfl, h2, h3, h4⟩ := hq
    exact ⟨.inl ⟨.bool true, .bool true, [], rfl, fun _ => rfl, .bool true, post_true l _, fun _ => ⟨List.Pairwise.nil, fun _ hm => (nomatch hm)⟩⟩, h2, h3, h4⟩

/-! ### rules over ANY heap (no ledger) from facts about the written part K: the library's own take a ledger (News) for what they write -/
section
variable {prog : Program} {w : World} {A : Around} {E : Value → Shared → Prop} {s : Shared} {K : Frag}

/-- a def of the module, or a method (qual 'C.m'), entered: the frame is the next address; cells behind it -/
theorem call_fn {R : Result → Shared → Prop} {name qual : Str} {params : Arguments} {body : List Stmt} {scope : Scope} {dV kV doc pm cdv ct oc : Value} {an od : Option Addr} {osl : Array (Option Value)} {f : Addr} {args : Args} {binds : List (Str × Value)}
    (X : K.In s.heap) (hlim : s.heap.NoLimit) (ho : K.lookup f = some ⟨oc, od, .func (fnOf name qual params body scope dV kV doc pm an cdv ct), osl⟩) (hcd : codeIn K cdv qual = true) (hroom : A.depth < recursionLimit)
    (hbind : BindsTo s (fnOf name qual params body scope dV kV doc pm an cdv ct) args binds)
    (hkind : (binds.all fun y => scope.names.lookup y.1 == some .local || scope.names.lookup y.1 == some .cell) = true)
    (h : ∀ s₁, InCallC s s.heap.objs.size (bindL (envOfC qual scope s.heap.objs.size f cdv).kindOf binds fun _ => none) (cellsFrom (s.heap.objs.size + 1) scope.names [])
        (bindC (envOfC qual scope s.heap.objs.size f cdv).kindOf binds fun _ => none) s₁ →
      wpAny (model prog w) (A.deeper (envOfC qual scope s.heap.objs.size f cdv)) (execs body (envOfC qual scope s.heap.objs.size f cdv))
        (fun fl s' => R (.ok (.ret (match fl with | .ret v => v | _ => .none))) s')
        (fun e s' => wpAny (model prog w) (A.deeper (envOfC qual scope s.heap.objs.size f cdv)) (leaving (envOfC qual scope s.heap.objs.size f cdv) e) (fun _ s'' => R (.error e) s'') (fun e' s'' => R (.error e') s'') s') s₁)
    (hco : scope.isCoroutine = false) (hgen : scope.isGenerator = false) (hk : scope.kind = .function) : codeAny (model prog w) A (.call (.ref f) args) R s := by
  refine codeAny_call_function hroom (X _ _ ho) rfl hco hgen rfl (codeRec_of X hcd) (hbind _ _ _ _ ?_)
  refine wpAny_newFunctionEnv_cells hk (kindsX hkind _) fun env he s₁ x => ?_
  subst he
  exact ⟨hlim.keeps x.toInCall.keep, codeAny_func (h s₁ x)⟩

/-- C(..): dict at size, instance at size + 1, then __init__ -/
theorem make_obj {R : Result → Shared → Prop} {C fI : Addr} {rest : List Value} {kw : List (Str × Value)}
    (X : K.In s.heap) (hm : makesIn K C = true) (hi : findIn K (.ref C) "__init__" = some (some (.ref fI))) (hf : isFn K (.ref fI) = true)
    (h : codeAny (model prog w) (A.under (.builtin "type.__call__" ⟨.ref C :: rest, kw⟩)) (.call (.ref fI) ⟨.ref (s.heap.objs.size + 1) :: rest, kw⟩) (InitBack (s.heap.objs.size + 1) R)
      { s with heap := (s.heap.push emptyDict).push (instObj C s.heap.objs.size) }) : codeAny (model prog w) A (.call (.ref C) ⟨rest, kw⟩) R s := by
  obtain ⟨hh, g, d, t, os⟩ := s
  exact make_core (makes_of X hm) (looks_findIn X hi) (fun self => bind_fn X self (beq_iff_eq.mp hf)) (.inl rfl) h

/-- x.name where the instance's dict holds the name and the class does not -/
theorem get_field {x C : Addr} {ox : Obj} {es : List DictEntry} {n : Nat} {name : Str} {expr : Bool} {v : Value} {Q : Value → Shared → Prop}
    (X : K.In s.heap) (I : PySem.W.InstAt s.heap x ox C (some (dictOf es n))) (hg : plainGet K C name = true) (hh : hasDictIn K C = true) (ha : findIn K (.ref C) name = some none)
    (hl : getL name es = some (some v)) (hv : handedIn v = true) (h : Q v { s with toks := s.toks + 1 }) : wpAny (model prog w) A (getAttr (.ref x) name expr) Q E s :=
  get_value X I (plainGet_of hg).1 (findObj_own hh ha rfl hl) hv h

/-- x.m(..): the method found in the class -/
theorem get_method {x C f : Addr} {ox : Obj} {es : List DictEntry} {n : Nat} {name : Str} {pl : Sem Bool} {Q : Value × List Value → Shared → Prop}
    (X : K.In s.heap) (I : PySem.W.InstAt s.heap x ox C (some (dictOf es n))) (hg : plainGet K C name = true) (hf : findIn K (.ref C) name = some (some (.ref f))) (ht : isFn K (.ref f) = true)
    (hl : getL name es = some none) (h : Q (.ref f, [.ref x]) s) : wpAny (model prog w) A (getMethod (.ref x) name pl) Q E s :=
  method_fn X I (plainGet_of hg).1 (plainGet_of hg).2 hf (beq_iff_eq.mp ht) (by show (lookIn name (dictOf es n)).map _ = _; rw [lookIn_dict, hl]; rfl) h

/-! the whole heap as the ledger: makes every rule that writes through a ledger a rule over any heap -/
def noObjs (h : Heap) : Heap := { h with objs := #[] }
theorem noObjs_get (h : Heap) (b : Addr) : (noObjs h).get? b = none := by
  cases e : (noObjs h).get? b with
  | none => rfl
  | some o => exact absurd (Heap.lt_size e) (Nat.not_lt_zero _)
def ledger (h : Heap) (L d : Addr) : List (Addr × Obj) := (List.range h.objs.size).filterMap fun a => if a = L ∨ a = d then none else (h.get? a).map fun o => (a, o)
theorem mem_ledger {h : Heap} {L d a : Addr} {o : Obj} : (a, o) ∈ ledger h L d ↔ a ≠ L ∧ a ≠ d ∧ h.get? a = some o := by
  unfold ledger
  rw [List.mem_filterMap]
  constructor
  · rintro ⟨b, _, e⟩
    split at e
    · cases e
    · rename_i hb
      obtain ⟨o', ho, e'⟩ := Option.map_eq_some_iff.mp e
      cases e'
      exact ⟨fun q => hb (.inl q), fun q => hb (.inr q), ho⟩
  · rintro ⟨n1, n2, ho⟩
    refine ⟨a, List.mem_range.mpr (Heap.lt_size ho), ?_⟩
    rw [if_neg (show ¬ (a = L ∨ a = d) from fun q => q.elim n1 n2), ho] <;> rfl
theorem news_ledger {h : Heap} {L d : Addr} {od : Obj} (hne : d ≠ L) (ho : h.get? d = some od) : News (noObjs h) L h ([] ++ (d, od) :: ledger h L d) := by
  rintro ⟨a, o⟩ hp
  rcases List.mem_cons.mp hp with e | hp
  · cases e
    exact ⟨ho, hne, noObjs_get _ _⟩
  · obtain ⟨n1, n2, e⟩ := mem_ledger.mp hp
    exact ⟨e, n1, noObjs_get _ _⟩
theorem fr_all {h : Heap} {L : Addr} {m : Str → Option Value} (n : h.Ns L m) : Fr (noObjs h) L h m :=
  ⟨n, fun b o e => (by rw [noObjs_get] at e; cases e), Nat.zero_le _⟩
/-- Upd of the head entry (for append_K, setItem_K ..) -/
theorem upd_ledger {h : Heap} {L d : Addr} {o o' : Obj} : Upd d o o' ((d, o) :: ledger h L d) ((d, o') :: ledger h L d) :=
  .head fun ⟨_, _⟩ hp => (mem_ledger.mp hp).2.1

/-- x.name = v over any heap: L is any namespace of the heap (the frame's, say): its map stays, its object is not told; all else but the dict stays -/
theorem set_field {x C dx L : Addr} {ox : Obj} {m : Str → Option Value} {es es' : List DictEntry} {n n' : Nat} {name : Str} {v : Value} {Q : Unit → Shared → Prop}
    (X : K.In s.heap) (I : PySem.W.InstAt s.heap x ox C (some (dictOf es n))) (hd : ox.dict = some dx) (hL : s.heap.Ns L m) (hne : dx ≠ L)
    (hs : findIn K (.ref C) "__setattr__" = some (some (.builtin "object.__setattr__"))) (hp : plainOver K C = true) (ht : takerIn K C name = some none) (hh : hasDictIn K C = true) (hl : (getL name es).isSome = true)
    (e : (putL name (PyData.keyHash w.params name) (.str name (s.toks + 1)) v es, putN name es n) = (es', n')) (hz : es'.length ≤ 1000)
    (h : ∀ h' : Heap, h'.Ns L m → h'.get? dx = some (dictOf es' n') → (∀ b o, b ≠ dx → b ≠ L → s.heap.get? b = some o → h'.get? b = some o) → Q () { s with heap := h', toks := s.toks + 2 }) :
    wpAny (model prog w) A (setAttr (.ref x) name v) Q E s := by
  obtain ⟨e1, e2⟩ := Prod.mk.inj e
  have hdx : s.heap.get? dx = some (dictOf es n) := by
    have := I.dict
    rw [hd] at this
    exact this
  refine set_plain X I hs (osa_dict (s := { s with toks := s.toks + 1 }) (h₀ := noObjs s.heap) (L := L) (m := m) (od := dictOf es n) (od' := dictOf es' n') (es := es') (n := n') (pre := []) (post := ledger s.heap L dx)
    (fr_all hL) (news_ledger hne hdx) X I hd hp ht hh hl (fun _ q => nomatch q) (fun ⟨_, _⟩ q => (mem_ledger.mp q).2.1) (by rw [putName_dict, e1, e2]) rfl hz fun h' F' N' => ?_)
  exact h h' F'.ns (N'.get (List.Mem.head _)) fun b o n1 n2 ho => N'.get (List.Mem.tail _ (mem_ledger.mpr ⟨n2, n1, ho⟩))
end
end Att

namespace L2
open PySem PySem.Spec PyProof.Rows

theorem vals_ints : ∀ {vs : List Value} {ns : List Int}, IntsAre vs ns → Vals (ns.map V.int) vs
  | _, _, .nil => .nil
  | _, _, .cons n t h => .cons ⟨t, rfl⟩ (vals_ints h)

/-- nothing is tracked but the script, known to the object (or it is an object of the module) -/
def Only (H : Hp) : Prop := ∀ b, H b = none ∨ ∃ o xs, H b = some (.frz o (.lst xs))

/-- THE HEAD: the law's promise, at the heap behind the top. F, the promise of the law's def, may use that base is part of the heap (so K.In base, base.Ns mainGlobals mg stand in Mod) -/
theorem law_call {P : Program} {w : World} {K : PySem.W.Frag} {mg mb : Str → Option Value} {CX : CXT} {k : Nat} {fa a : Addr} {fd : FuncData} {x : Str} {sp : Sp} {s₁ : Shared} {vs : List Value} {ns : List Int}
    (KX : K.In s₁.heap) (hns : s₁.heap.Ns mainGlobals mg) (hb : s₁.heap.Ns builtinsNs mb) (hbb : ∀ x : Str, x ≠ "__name__" → mb x = bootBuiltins x) (hlim : s₁.heap.NoLimit) (hg : s₁.gens = #[])
    (ha : s₁.heap.get? a = some { cls := .type "list", data := .seq vs.toArray }) (hi : IntsAre vs ns) (hl : ns.length ≤ sizeLine) (hr : Room k callerA)
    (F : ∀ base : Heap, K.In base → base.Ns mainGlobals mg → FnOk P w K mg base CX k fa fd [x] sp) (hbind : ∀ (s : Shared) (u : Value), BindsTo s fd ⟨[u], []⟩ [(x, u)])
    (hsp : ∀ H : Hp, Only H → SqL K H a (ns.map V.int) → sp [.ref a] H (fun v _ => v = .bl true) fun _ _ _ => False)
    (hCX : ∀ H e s', CX [] H s₁ (fun _ _ _ => False) e s' → False) :
    codeAny (model P w) callerA (.call (.ref fa) ⟨[.ref a], []⟩) (fun r s' => r = .ok (.ret (.bool true)) ∧ OldK s₁.heap s'.heap ∧ s'.os = s₁.os ∧ AllBare s'.gens) s₁ := by
  have rv := vals_ints hi
  have lenV := hi.length
  -- from an abstract heap in which nothing but the script may be tracked
  have core : ∀ H : Hp, Only H → SqL K H a (ns.map V.int) → HOk P w H s₁.heap → (∀ b, H b ≠ none → b = a) → (H a ≠ none → K.lookup a = none) →
      codeAny (model P w) callerA (.call (.ref fa) ⟨[.ref a], []⟩) (fun r s' => r = .ok (.ret (.bool true)) ∧ OldK s₁.heap s'.heap ∧ s'.os = s₁.os ∧ AllBare s'.gens) s₁ := by
    intro H hO hS hok hA hK
    have base_of : ∀ {b : Addr} {o : Obj}, s₁.heap.get? b = some o → H b = none → (hidT s₁.heap H).get? b = some o := fun e n => hidT_get e n
    have noA : ∀ {b : Addr} {o : Obj} {es : Array DictEntry} {ep : Nat}, s₁.heap.get? b = some o → o.data = .dict es ep → H b = none := fun {b o es ep} e d => by
      cases q : H b with
      | none => rfl
      | some u =>
        have e' : b = a := hA b (by rw [q]; simp)
        subst e'
        rw [ha] at e; cases e
        have d' : Data.seq vs.toArray _ = Data.dict es ep := d
        cases d'
    have nsK : ∀ {b : Addr} {m : Str → Option Value}, s₁.heap.Ns b m → (hidT s₁.heap H).Ns b m := fun {b m} ⟨o, es, ep, e, d, r⟩ => ⟨o, es, ep, base_of e (noA e d), d, r⟩
    have hKb : K.In (hidT s₁.heap H) := fun b o e => base_of (KX b o e) (by
      cases q : H b with
      | none => rfl
      | some u =>
        have e' : b = a := hA b (by rw [q]; simp)
        subst e'
        rw [hK (by rw [q]; simp)] at e; cases e)
    have hM : Mod K mg (hidT s₁.heap H) := ⟨hKb, nsK hns, ⟨mb, nsK hb, hbb⟩, let ⟨mc, h1, h2⟩ := hlim; ⟨mc, nsK h1, h2⟩⟩
    have e0 : Env0 P w K mg (hidT s₁.heap H) callerA [] s₁ H := ⟨rfl, hM, fun b o e => of_hidT e, Nat.le_of_eq (hidT_size _ _), trivial, fun b hb => absurd (show b ∈ ([] : List Addr) from hb) (by simp), hok, .of_eq hg⟩
    refine codeAny_mono ((F _ hKb (nsK hns)).run callerA [] s₁ H ⟨[.ref a], []⟩ [.ref a] [.ref a] _ _ hr e0 (hbind s₁ (.ref a)) (.cons rfl .nil) (hsp H hO hS)) fun r s' h => ?_
    cases r with
    | error e => exact (hCX H e s' h).elim
    | ok fl =>
      cases fl with
      | next => exact False.elim h
      | brk => exact False.elim h
      | cont => exact False.elim h
      | ret u =>
        obtain ⟨v, H', os, bare, un, hok', r', q⟩ := h
        have q' : v = .bl true := q
        subst q'
        obtain rfl : u = Value.bool true := r'
        refine ⟨rfl, OldK.of_keep fun b o e => ?_, os, bare⟩
        cases q : H b with
        | none => exact un.keep b o e q (by intro z; exact absurd (show b ∈ ([] : List Addr) from z) (by simp)) (by simp)
        | some u =>
          rcases hO b with z | ⟨ob, xs, z⟩
          · rw [q] at z; cases z
          · have z2 := un.frzs b ob _ z
            obtain ⟨e1, _⟩ := hok b _ z
            obtain ⟨e2, _⟩ := hok' b _ z2
            rw [e] at e1; cases e1
            exact e2
  cases hk : K.lookup a with
  | some o =>
    -- the script is one of the module's own objects
    have e := KX a o hk
    rw [ha] at e
    cases e
    refine core (fun _ => none) (fun _ => .inl rfl) (.inr ⟨_, vs.toArray, _, hk, rfl, rfl, rfl, by rw [List.size_toArray, lenV]; exact hl, by simpa using rv⟩) (fun b u z => by have z' : (none : Option HO) = some u := z; cases z') (fun b z => absurd rfl z) fun z => absurd rfl z
  | none =>
    refine core (fun b => if b = a then some (.frz { cls := .type "list", data := .seq vs.toArray } (.lst (ns.map V.int))) else none) (fun b => ?_) (.inl (.inr ⟨{ cls := .type "list", data := .seq vs.toArray }, if_pos rfl⟩)) (fun b u z => ?_) (fun b z => ?_) fun _ => hk
    · by_cases hb : b = a
      · exact .inr ⟨_, _, if_pos hb⟩
      · exact .inl (if_neg hb)
    · by_cases hb : b = a
      · have z' := (if_pos hb).symm.trans z
        cases z'
        subst hb
        exact ⟨ha, by rw [List.length_map]; exact hl, vs, _, rv, ha⟩
      · have z' := (if_neg hb).symm.trans z
        cases z'
    · by_cases hb : b = a
      · exact hb
      · exact absurd (if_neg hb) z
end L2

namespace L2
open PySem PySem.Spec PyProof.Rows

abbrev KOf {K : PySem.W.Frag} {h : Heap} (_ : K.In h) : PySem.W.Frag := K

/-- the goal that k_head leaves (case hc), from the law's promise. F gives the function object fd (K's own) once, then the promise over every base -/
theorem walk_of {l : PySem.W.OpenLaw} {n k : Nat} {q : Program} {loose : List Str} {XP : (Str → Option Value) → Heap → Prop} {YP : World → Heap → Prop} {d : DefRec} {K : Params → PySem.W.Frag} {CX : World → CXT} {sp : World → Sp} {x : Str}
    (hn : l.most = some n) (hn2 : n ≤ sizeLine) (hdf : d.params.defaults = []) (hr : Room k callerA)
    (hY : ∀ (w : World) (h : Heap), YP w h → (K w.params).In h)
    (F : ∀ (w : World) (mg : Str → Option Value) (fa : Addr) (h : Heap), (K w.params).In h → h.Ns mainGlobals mg → mg d.name = some (.ref fa) →
      ∃ fd : FuncData, (∀ (s : Shared) (u : Value), BindsTo s fd ⟨[u], []⟩ [(x, u)]) ∧
        ∀ base : Heap, (K w.params).In base → base.Ns mainGlobals mg → FnOk l.prog w (K w.params) mg base (CX w) k fa fd [x] (sp w))
    (hsp : ∀ (w : World) (H : Hp) (a : Addr) (ns : List Int), ns.length ≤ n → Only H → SqL (K w.params) H a (ns.map V.int) → sp w [.ref a] H (fun v _ => v = .bl true) fun _ _ _ => False)
    (hCX : ∀ (w : World) (H : Hp) (s : Shared) (e : Value) (s' : Shared), CX w [] H s (fun _ _ _ => False) e s' → False) :
    PySem.W.WalkO q loose XP YP l.row.toRowW d [] (fun f vs => PySem.call f vs) := by
  refine Att.attach_call hn hdf fun w s₀ s₁ mg mb fa o pm cd doc a vs ns G Y ho hd hcd hmg hobj hints hlen hg => ?_
  have KX := hY w _ Y
  obtain ⟨fd, hb, hF⟩ := F w mg fa _ KX G.T.g hmg
  exact law_call KX G.T.g G.T.b G.T.builtins G.T.nolimit hg hobj hints (Nat.le_trans hlen hn2) hr hF hb (fun H hO hS => hsp w H a ns hlen hO hS) fun H e s' => hCX w H s₁ e s'
/-- the same where the promise hangs on the written part alone: (sp := My.sp_law), no hole under a binder -/
theorem walk_ofK {l : PySem.W.OpenLaw} {n k : Nat} {q : Program} {loose : List Str} {XP : (Str → Option Value) → Heap → Prop} {YP : World → Heap → Prop} {d : DefRec} {K : Params → PySem.W.Frag} {CX : CXT} {sp : PySem.W.Frag → Sp} {x : Str}
    (hn : l.most = some n) (hn2 : n ≤ sizeLine) (hdf : d.params.defaults = []) (hr : Room k callerA)
    (hY : ∀ (w : World) (h : Heap), YP w h → (K w.params).In h)
    (F : ∀ (w : World) (mg : Str → Option Value) (fa : Addr) (h : Heap), (K w.params).In h → h.Ns mainGlobals mg → mg d.name = some (.ref fa) →
      ∃ fd : FuncData, (∀ (s : Shared) (u : Value), BindsTo s fd ⟨[u], []⟩ [(x, u)]) ∧
        ∀ base : Heap, (K w.params).In base → base.Ns mainGlobals mg → FnOk l.prog w (K w.params) mg base CX k fa fd [x] (sp (K w.params)))
    (hsp : ∀ (K : PySem.W.Frag) (H : Hp) (a : Addr) (ns : List Int), ns.length ≤ n → Only H → SqL K H a (ns.map V.int) → sp K [.ref a] H (fun v _ => v = .bl true) fun _ _ _ => False)
    (hCX : ∀ (H : Hp) (s : Shared) (e : Value) (s' : Shared), CX [] H s (fun _ _ _ => False) e s' → False) :
    PySem.W.WalkO q loose XP YP l.row.toRowW d [] (fun f vs => PySem.call f vs) :=
  walk_of (K := K) (CX := fun _ => CX) (sp := fun w => sp (K w.params)) hn hn2 hdf hr hY F (fun w H a ns h1 h2 h3 => hsp (K w.params) H a ns h1 h2 h3) fun _ H s e s' => hCX H s e s'
end L2

/-! SHORT WORDS over the layer: a def of the text, its body, what a loop and a test want. -/
namespace L2
open PySem PySem.Spec PyProof.Rows

/-! ### the text by places -/
/-- the j-th statement of a class's body -/
def inClass (s : Stmt) (j : Nat) : Stmt := match s with
  | .ClassDef _ _ _ body _ _ _ _ _ _ _ => body.getD j (.Pass ⟨0, 0, 0, 0⟩)
  | _ => .Pass ⟨0, 0, 0, 0⟩
def defArgs (s : Stmt) : Arguments := match s with
  | .FunctionDef _ a _ _ _ _ _ _ _ _ => a
  | _ => { posonlyargs := [], args := [], vararg := none, kwonlyargs := [], kw_defaults := [], kwarg := none, defaults := [] }
def defBody (s : Stmt) : List Stmt := match s with
  | .FunctionDef _ _ b _ _ _ _ _ _ _ => b
  | _ => []
def defScope (s : Stmt) : Scope := match s with
  | .FunctionDef _ _ _ _ _ _ sc _ _ _ => sc
  | _ => { kind := .function, names := [], isGenerator := false, isCoroutine := false }

/-! ### no exception leaves a def -/
abbrev CX0 : CXT := fun _ _ _ _ _ _ => False
abbrev E0 : XK := fun _ _ _ => False
theorem pass0 {X : Cx} : Passes CX0 X E0 := fun _ _ _ _ _ _ _ h => h.elim

/-! ### a def (or method) of the text as it stands behind the top -/
structure Fun (K : PySem.W.Frag) (x qual : Str) (st : Stmt) (f : Addr) (fd : FuncData) : Prop where
  ex : ∃ (oc : Value) (od : Option Addr) (kV doc pm : Value) (an : Option Addr) (cdv ct : Value) (osl : Array (Option Value)),
    fd = PySem.W.fnOf x qual (defArgs st) (defBody st) (defScope st) .none kV doc pm an cdv ct ∧ K.lookup f = some ⟨oc, od, .func fd, osl⟩ ∧ PySem.W.codeIn K cdv qual = true
  kp : PySem.W.keepIn K (.ref f) = true
section
variable {P : Program} {w : World} {K : PySem.W.Frag} {mg : Str → Option Value} {base : Heap}
/-- THE RULE for a def: its body as a term of rules, and the reading of that term -/
theorem Fun.ok {x qual : Str} {st : Stmt} {f : Addr} {fd : FuncData} {N ps : List Str} {k : Nat} {sp : Sp} (F : Fun K x qual st f fd) (S : FnScope N ps (defScope st)) (len : ∀ vs H Q E, sp vs H Q E → vs.length = ps.length)
    (hbody : ∀ (cdv : Value) (A : Around) (outer : List Env) (s : Shared) (H : Hp) (vs : List V) (Q : VK) (E : XK), Room k (A.deeper (envOfC qual (defScope st) s.heap.objs.size f cdv)) → sp vs H Q E →
      ∃ t, PSs (cxOf CX0 P w K mg base N qual (defScope st) f cdv A outer s H E).nox (defBody st) t ∧ t { nx := fun _ H' => Q .non H', rt := Q } (start N vs) H) : FnOk P w K mg base CX0 (k + 1) f fd ps sp := by
  obtain ⟨oc, od, kV, doc, pm, an, cdv, ct, osl, rfl, lk, hcd⟩ := F.ex
  refine fn_of lk hcd S len fun A outer s H vs Q E hr hsp => ?_
  obtain ⟨t, h, q⟩ := hbody cdv A outer s H vs Q E hr hsp
  exact ⟨t, h.nox, q⟩
/-- how its arguments bind (no defaults): h is «fun _ _ _ _ _ _ us hl => match us, hl with | [_, _], _ => rfl», one _ a parameter -/
theorem Fun.binds {x qual : Str} {st : Stmt} {f : Addr} {fd : FuncData} {ps : List Str} (F : Fun K x qual st f fd)
    (h : ∀ (kV doc pm : Value) (an : Option Addr) (cdv ct : Value) (us : List Value), us.length = ps.length → bindArgs (PySem.W.fnOf x qual (defArgs st) (defBody st) (defScope st) .none kV doc pm an cdv ct) ⟨us, []⟩ = pure (ps.zip us)) : Binds K fd ps [] := by
  obtain ⟨oc, od, kV, doc, pm, an, cdv, ct, osl, rfl, lk, hcd⟩ := F.ex
  exact .all (h kV doc pm an cdv ct)
theorem fun_mk {x qual : Str} {st : Stmt} {f : Addr} {oc : Value} {od an : Option Addr} {osl : Array (Option Value)} {kV doc pm cdv ct : Value} (l : K.lookup f = some ⟨oc, od, .func (PySem.W.fnOf x qual (defArgs st) (defBody st) (defScope st) .none kV doc pm an cdv ct), osl⟩)
    (c : PySem.W.codeIn K cdv qual = true) (k : PySem.W.keepIn K (.ref f) = true) : Fun K x qual st f (PySem.W.fnOf x qual (defArgs st) (defBody st) (defScope st) .none kV doc pm an cdv ct) := ⟨⟨oc, od, kV, doc, pm, an, cdv, ct, osl, rfl, l, c⟩, k⟩
end
theorem hu_of {A : Around} {k : Nat} (hr : Room k A) : A.units + 1 < cLine := Nat.lt_of_le_of_lt (Nat.add_le_add_left (by decide : 1 ≤ 64) _) hr.units
theorem small1000 {n : Nat} (h : n ≤ 1000) : n < sizeLine := Nat.lt_of_le_of_lt h (by decide)

/-! ### expressions in short: the name that stands in the i-th slot -/
section
variable {X : Cx}
theorem pv (i : Nat) {x : Str} {pos : Pos} (hN : X.N[i]? = some x := by rfl) (hv : Vis X.env.scope x := by first | exact Or.inl rfl | exact Or.inr (Or.inl rfl) | exact Or.inr (Or.inr rfl)) (hd : (x == ("__debug__" : Str)) = false := by decide)
    (hcd : (x == ("__classdict__" : Str)) = false := by decide) : PE X (.Name x pos) (tVar i) := pe_var hN hv hd hcd
end

/-! ### tests -/
theorem iteF {A B : Prop} (h : B) : if false = true then A else B := by
  rw [if_neg Bool.false_ne_true]
  exact h
theorem iteT {A B : Prop} (h : A) : if true = true then A else B := by
  rw [if_pos rfl]
  exact h
theorem ite2 {c A B : Prop} [Decidable c] (h1 : c → A) (h2 : ¬ c → B) : if c then A else B := by
  by_cases h : c
  · rw [if_pos h]
    exact h1 h
  · rw [if_neg h]
    exact h2 h
theorem iteNS {c A B : Prop} [Decidable c] (hc : c) (h : B) : if (!decide c) = true then A else B := by
  rw [decide_eq_true hc]
  exact iteF h

/-! ### heaps -/
/-- all that was tracked is as it was -/
def Same (H H' : Hp) : Prop := ∀ b o, H b = some o → H' b = some o
theorem Same.refl (H : Hp) : Same H H := fun _ _ h => h
theorem Same.trans {H H1 H2 : Hp} (a : Same H H1) (b : Same H1 H2) : Same H H2 := fun c o h => b c o (a c o h)
theorem Same.free {H H' : Hp} (e : Same H H') {l : Addr} (h : H' l = Option.none) : H l = Option.none := by
  cases q : H l with
  | none => rfl
  | some o =>
    rw [e l o q] at h
    cases h
theorem Same.seq {K : PySem.W.Frag} {H H' : Hp} {a : Addr} {xs : List V} (e : Same H H') (h : SqL K H a xs) : SqL K H' a xs := by
  rcases h with (h | ⟨o, h⟩) | h
  · exact .inl (.inl (e _ _ h))
  · exact .inl (.inr ⟨o, e _ _ h⟩)
  · exact .inr h

end L2

set_option maxHeartbeats 4000000
namespace L2
open PySem PySem.Spec PyProof.Rows

/-! ### built-in names -/
theorem bt_len : bootBuiltins "len" = some (.builtin "len") := by decide +kernel
theorem bt_isinstance : bootBuiltins "isinstance" = some (.builtin "isinstance") := by decide +kernel
theorem bt_max : bootBuiltins "max" = some (.builtin "max") := by decide +kernel
theorem bt_min : bootBuiltins "min" = some (.builtin "min") := by decide +kernel
theorem bt_any : bootBuiltins "any" = some (.builtin "any") := by decide +kernel
theorem bt_all : bootBuiltins "all" = some (.builtin "all") := by decide +kernel
theorem bt_int : bootBuiltins "int" = some (.type "int") := by decide +kernel
theorem bt_str : bootBuiltins "str" = some (.type "str") := by decide +kernel
theorem bt_bool : bootBuiltins "bool" = some (.type "bool") := by decide +kernel
theorem bt_list : bootBuiltins "list" = some (.type "list") := by decide +kernel
theorem bt_tuple : bootBuiltins "tuple" = some (.type "tuple") := by decide +kernel
theorem bt_ValueError : bootBuiltins "ValueError" = some (.type "ValueError") := by decide +kernel
theorem bt_ord : bootBuiltins "ord" = some (.builtin "ord") := by decide +kernel
theorem bt_range : bootBuiltins "range" = some (.type "range") := by decide +kernel

/-! ### data: what a value is worth, through lists and tuples -/
mutual
def DV (K : PySem.W.Frag) (H : Hp) : PyData → V → Prop
  | .none, x => x = .non
  | .bool b, x => x = .bl b
  | .int i, x => x = .int i
  | .str y, x => x = .str y
  | .list ds, x => ∃ a xs, x = .ref a ∧ SqL K H a xs ∧ DVs K H ds xs
  | .tuple ds, x => ∃ a xs, x = .ref a ∧ SqT K H a xs ∧ DVs K H ds xs
  | .dict _, _ => False
def DVs (K : PySem.W.Frag) (H : Hp) : List PyData → List V → Prop
  | [], xs => xs = []
  | d :: ds, xs => ∃ x r, xs = x :: r ∧ DV K H d x ∧ DVs K H ds r
end
section
variable {X : Cx} {pins : List (Addr × Obj)} {σ : St} {H : Hp} {s : Shared}
mutual
theorem DV.reads (I : Inv X pins σ H s) : ∀ (d : PyData) {x : V} {u : Value}, DV X.K H d x → RelV x u → ∃ as, Reads s.heap u d as
  | .none, _, _, h, r => by
    have h' := h; unfold DV at h'; subst h'; cases r; exact ⟨_, .none⟩
  | .bool b, _, _, h, r => by
    have h' := h; unfold DV at h'; subst h'; cases r; exact ⟨_, .bool b⟩
  | .int i, _, _, h, r => by
    have h' := h; unfold DV at h'; subst h'; obtain ⟨t, rfl⟩ := r; exact ⟨_, .int i t⟩
  | .str y, _, _, h, r => by
    have h' := h; unfold DV at h'; subst h'; obtain ⟨t, rfl⟩ := r; exact ⟨_, .str y t⟩
  | .list ds, _, _, h, r => by
    have h' := h; unfold DV at h'
    obtain ⟨a, xs, rfl, hq, hs⟩ := h'
    cases r
    obtain ⟨its, rv, ⟨o, n, e, c, _, dt⟩, _⟩ := I.list hq
    obtain ⟨as, q⟩ := DVs.reads I ds hs rv
    exact ⟨_, .list e c dt (by simpa using q)⟩
  | .tuple ds, _, _, h, r => by
    have h' := h; unfold DV at h'
    obtain ⟨a, xs, rfl, hq, hs⟩ := h'
    cases r
    obtain ⟨its, rv, ⟨o, e, c, n, dt⟩, _⟩ := I.tuple hq
    obtain ⟨as, q⟩ := DVs.reads I ds hs rv
    exact ⟨_, .tuple e c dt (by simpa using q)⟩
  | .dict _, _, _, h, _ => by
    have h' := h; unfold DV at h'; exact h'.elim
theorem DVs.reads (I : Inv X pins σ H s) : ∀ (ds : List PyData) {xs : List V} {us : List Value}, DVs X.K H ds xs → Vals xs us → ∃ as, ReadsAll s.heap us ds as
  | [], _, _, h, r => by
    have h' := h; unfold DVs at h'; subst h'; cases r; exact ⟨_, .nil⟩
  | d :: ds, _, _, h, r => by
    have h' := h; unfold DVs at h'
    obtain ⟨x, q, rfl, h1, h2⟩ := h'
    cases r with
    | cons r1 r2 =>
      obtain ⟨as, e1⟩ := DV.reads I d h1 r1
      obtain ⟨bs, e2⟩ := DVs.reads I ds h2 r2
      exact ⟨_, .cons e1 e2⟩
end
/-- == and != of data -/
def rEqD (K : PySem.W.Frag) : R2 := fun x y H Q => ∃ d e, DV K H d x ∧ DV K H e y ∧ SeqAt.shaped d = true ∧ SeqAt.shaped e = true ∧ Q (.bl (PyData.eqv d e)) H
def rNeD (K : PySem.W.Frag) : R2 := fun x y H Q => ∃ d e, DV K H d x ∧ DV K H e y ∧ SeqAt.shaped d = true ∧ SeqAt.shaped e = true ∧ Q (.bl (!PyData.eqv d e)) H
theorem op_eqD (hu : X.A.units + 64 < cLine) : OpR X (compareOp .Eq) (rEqD X.K) := by
  intro pins s σ H x y v u Q I rx ry h
  obtain ⟨d, e, hd, he, sd, se, q⟩ := h
  obtain ⟨as, r1⟩ := DV.reads I d hd rx
  obtain ⟨bs, r2⟩ := DV.reads I e he ry
  exact eq_dataH r1 r2 sd se hu ⟨.bl _, H, I, rfl, q⟩
theorem op_neD (hu : X.A.units + 64 < cLine) : OpR X (compareOp .NotEq) (rNeD X.K) := by
  intro pins s σ H x y v u Q I rx ry h
  obtain ⟨d, e, hd, he, sd, se, q⟩ := h
  obtain ⟨as, r1⟩ := DV.reads I d hd rx
  obtain ⟨bs, r2⟩ := DV.reads I e he ry
  exact ne_dataH r1 r2 sd se hu ⟨.bl _, H, I, rfl, q⟩
end
/-- a list of texts as data -/
theorem dvs_strs (K : PySem.W.Frag) (H : Hp) : ∀ ws : List Str, DVs K H (ws.map PyData.str) (ws.map V.str)
  | [] => by unfold DVs; rfl
  | w :: ws => by
    show DVs K H (PyData.str w :: ws.map PyData.str) _
    unfold DVs
    exact ⟨_, _, rfl, by unfold DV; rfl, dvs_strs K H ws⟩
theorem dv_strs {K : PySem.W.Frag} {H : Hp} {a : Addr} {ws : List Str} (h : SqL K H a (ws.map V.str)) : DV K H (.list (ws.map PyData.str)) (.ref a) := by
  unfold DV
  exact ⟨a, _, rfl, h, dvs_strs K H ws⟩
theorem eqvAll_strs : ∀ vs ws : List Str, PyData.eqvAll (vs.map PyData.str) (ws.map PyData.str) = decide (vs = ws)
  | [], [] => by simp [PyData.eqvAll]
  | [], _ :: _ => by simp [PyData.eqvAll]
  | _ :: _, [] => by simp [PyData.eqvAll]
  | a :: r, b :: t => by
    simp only [List.map_cons, PyData.eqvAll, PyData.eqv, eqvAll_strs r t]
    by_cases h : a = b <;> by_cases h' : r = t <;> simp [h, h']
theorem canLay_strs : ∀ ws : List Str, (∀ w ∈ ws, PyData.strOk w = true) → PyData.canLayAll0 (ws.map PyData.str) = true
  | [], _ => by simp [PyData.canLayAll0]
  | w :: ws, h => by
    simp only [List.map_cons, PyData.canLayAll0, PyData.canLay0, Bool.and_eq_true]
    exact ⟨h w List.mem_cons_self, canLay_strs ws fun v hv => h v (List.mem_cons_of_mem _ hv)⟩
theorem depth_strs : ∀ ws : List Str, PyData.depthAll (ws.map PyData.str) ≤ 1
  | [] => by simp [PyData.depthAll]
  | w :: ws => by
    have := depth_strs ws
    simp only [List.map_cons, PyData.depthAll, PyData.depth]
    omega
theorem shaped_strs {ws : List Str} (h : ∀ w ∈ ws, PyData.strOk w = true) : SeqAt.shaped (.list (ws.map PyData.str)) = true := by
  have h1 := depth_strs ws
  have h2 : PyData.depth (.list (ws.map PyData.str)) ≤ 64 := by simp only [PyData.depth]; omega
  show (PyData.canLay0 (.list (ws.map PyData.str)) && decide (PyData.depth (.list (ws.map PyData.str)) ≤ 64)) = true
  rw [Bool.and_eq_true]
  exact ⟨by simp only [PyData.canLay0]; exact canLay_strs ws h, decide_eq_true h2⟩

/-! ### join, split -/
theorem strsAre_of : ∀ {ys : List Str} {us : List Value}, Vals (ys.map V.str) us → StrsAre us ys
  | [], _, .nil => .nil
  | y :: ys, _, .cons r t => by
    obtain ⟨tk, rfl⟩ := r
    exact .cons y tk (strsAre_of t)
theorem vals_strValues : ∀ l : List (Str × Tok), Vals ((l.map (·.1)).map V.str) (strValues l)
  | [] => .nil
  | p :: l => .cons ⟨p.2, rfl⟩ (vals_strValues l)
section
variable {X : Cx}
def rJoin (K : PySem.W.Frag) : V → List V → Hp → VK → Prop := fun x vs H Q => ∃ sep a ys, x = .str sep ∧ vs = [.ref a] ∧ SqL K H a (ys.map V.str) ∧ (ys.map (·.length)).sum + ys.length * sep.length ≤ 16777216 ∧ Q (.str (Str.join sep ys)) H
theorem mt_join : MtR X "str.join" (rJoin X.K) := by
  intro pins s σ H x vs v us Q I rx rv h
  obtain ⟨sep, a, ys, rfl, rfl, hq, hz, q⟩ := h
  obtain ⟨t, rfl⟩ := rx
  obtain ⟨u, rfl, ru⟩ := rv.one
  cases ru
  obtain ⟨its, r, pl, _⟩ := I.list hq
  refine join_list pl.isList (strsAre_of (by simpa using r)) hz fun t' k => ?_
  rw [show Txt.join sep ys = Str.join sep ys from StrLaws.glued_eq_join sep ys]
  exact ⟨.str _, H, I.tok _, ⟨_, rfl⟩, q⟩
def rSplit : V → List V → Hp → VK → Prop := fun x vs H Q => ∃ z y, x = .str z ∧ vs = [.str y] ∧ (y.length == 0) = false ∧ z.length + 2 ≤ sizeLine ∧ ∀ p, H p = none → Q (.ref p) (upd H p (.lst ((Txt.split z y).map V.str)))
theorem mt_split : MtR X "str.split" rSplit := by
  intro pins s σ H x vs v us Q I rx rv h
  obtain ⟨x, y, rfl, rfl, hy, hsz, q⟩ := h
  obtain ⟨t, rfl⟩ := rx
  obtain ⟨_, rfl, u, rfl⟩ := rv.one
  have hn : (Builtin.Str.partsBetween x (Builtin.Str.occurrences x y 0 x.length (x.length + 1)) y.length).length ≤ sizeLine := by
    have e1 := StrLaws.occ_length_le x y 0 x.length (x.length + 1)
    rw [length_partsBetween]; omega
  have fin : ∀ (l : List (Str × Tok)) (tk : Nat), l.map (·.1) = Txt.split x y → (Txt.split x y).length ≤ sizeLine →
      EP X pins σ Q (.ref s.heap.objs.size) { s with heap := s.heap.push { cls := .type "list", data := .seq (strValues l).toArray }, toks := tk } := fun l tk e hz => by
    refine ⟨.ref _, _, I.lnew (t' := tk) (ys := (Txt.split x y).map V.str) (by rw [← e]; exact vals_strValues l) (by rw [List.length_map]; exact hz), rfl, q _ I.fresh⟩
  have h1le : 1 ≤ sizeLine := by omega
  cases h1 : (decide (x.length < y.length) || decide (Builtin.Str.strKind x < Builtin.Str.strKind y))
  · cases hf : (Builtin.Str.occurrences x y 0 x.length (x.length + 1)).isEmpty
    · refine call_meets F.slot_str_split (typeIs_str _ _ _) F.entry_str_split (F.args_str_split_2 _ _) (meets_str_split_sep x y t u h1 hy hf (by omega) hn) ?_
      have e : Txt.split x y = Builtin.Str.partsBetween x (Builtin.Str.occurrences x y 0 x.length (x.length + 1)) y.length := (if_neg (ne_true_of_eq_false h1)).trans (if_neg (ne_true_of_eq_false hf))
      show wants (EP X pins σ Q) X.xe _ { s with toks := _, heap := s.heap.push { cls := .type "list", data := .seq (strsFrom s.toks (Builtin.Str.partsBetween x (Builtin.Str.occurrences x y 0 x.length (x.length + 1)) y.length)).toArray } }
      rw [strsFrom_eq]
      exact fin (numbered s.toks _) _ ((numbered_texts _ _).trans e.symm) (by rw [e]; exact hn)
    · have e : Txt.split x y = [x] := (if_neg (ne_true_of_eq_false h1)).trans (if_pos hf)
      exact call_meets F.slot_str_split (typeIs_str _ _ _) F.entry_str_split (F.args_str_split_2 _ _) (meets_str_split_not_found x y t u h1 hy hf)
        (fin [(x, t)] s.toks e.symm (by rw [e]; exact h1le))
  · have e : Txt.split x y = [x] := if_pos h1
    exact call_meets F.slot_str_split (typeIs_str _ _ _) F.entry_str_split (F.args_str_split_2 _ _) (meets_str_split_cannot_occur x y t u h1)
      (fin [(x, t)] s.toks e.symm (by rw [e]; exact h1le))

/-! ### isinstance -/
def clsV : V → Value
  | .ty n => .type n
  | .ref a => .ref a
  | _ => .none
def isC : V → Bool
  | .ty _ => true
  | .ref _ => true
  | _ => false
theorem call_isi : CallR X (.builtin "isinstance") (fun xs H Q => ∃ x c t b, xs = [x, c] ∧ isC c = true ∧ TyOf X.K H x t ∧ PySem.W.kitOne X.K t (clsV c) = some b ∧ Q (.bl b) H) := by
  intro pins s σ H xs us Q I r h
  obtain ⟨x, c, t, b, rfl, hc, ty, e, q⟩ := h
  obtain ⟨u, w', rfl, rx, rc⟩ := vals2 r
  have fin : ∀ tk, EP X pins σ Q (.bool b) { s with toks := tk } := fun tk => ⟨.bl b, H, I.tok _, rfl, q⟩
  cases c with
  | ty n => cases rc; exact isinst_ok I rx ty e fin
  | ref a => cases rc; exact isinst_ok I rx ty e fin
  | _ => exact absurd (show false = true from hc) Bool.false_ne_true
end

/-! ### a list of the script's own, joined to a new one: either may be read only -/
section
variable {X : Cx}
theorem op_catQ : OpR X (binaryOp .Add) (fun x y H Q => ∃ l b xs zs, x = .ref l ∧ y = .ref b ∧ H l = some (.lst xs) ∧ H b = some (.lst zs) ∧ xs.length + zs.length ≤ sizeLine ∧ ∀ p, H p = none → Q (.ref p) (upd H p (.lst (xs ++ zs)))) := op_cat
end

/-! ### words with one sign between: split is what was joined -/
theorem app_toList (a b : Str) : (a ++ b).cps.toList = a.cps.toList ++ b.cps.toList := by
  show (a.cps ++ b.cps).toList = _
  simp
theorem free_cut (c : Nat) : ∀ (a b p q : List Nat), c ∉ a → c ∉ b → a ++ c :: p = b ++ c :: q → a = b ∧ p = q
  | [], [], p, q, _, _, e => by simpa using e
  | [], y :: b, p, q, _, hb, e => by
    have e' : c :: p = y :: (b ++ c :: q) := e
    injection e' with e1 _
    exact absurd (by rw [e1]; exact List.mem_cons_self) hb
  | x :: a, [], p, q, ha, _, e => by
    have e' : x :: (a ++ c :: p) = c :: q := e
    injection e' with e1 _
    exact absurd (by rw [← e1]; exact List.mem_cons_self) ha
  | x :: a, y :: b, p, q, ha, hb, e => by
    have e' : x :: (a ++ c :: p) = y :: (b ++ c :: q) := e
    injection e' with e1 e2
    obtain ⟨h1, h2⟩ := free_cut c a b p q (fun h => ha (List.mem_cons_of_mem _ h)) (fun h => hb (List.mem_cons_of_mem _ h)) e2
    exact ⟨by rw [e1, h1], h2⟩
theorem str_ext {a b : Str} (h : a.cps.toList = b.cps.toList) : a = b := by
  cases a; cases b
  have := Array.toList_inj.mp h
  subst this; rfl
theorem join_cons2 (c : Nat) (x y : Str) (r : List Str) : (Str.join ⟨#[c]⟩ (x :: y :: r)).cps.toList = x.cps.toList ++ c :: (Str.join ⟨#[c]⟩ (y :: r)).cps.toList := by
  show ((x ++ ⟨#[c]⟩) ++ Str.join ⟨#[c]⟩ (y :: r)).cps.toList = _
  rw [app_toList, app_toList]
  simp
theorem join_inj (c : Nat) : ∀ (vs ws : List Str), vs ≠ [] → ws ≠ [] → (∀ v ∈ vs, c ∉ v.cps.toList) → (∀ w ∈ ws, c ∉ w.cps.toList) → Str.join ⟨#[c]⟩ vs = Str.join ⟨#[c]⟩ ws → vs = ws
  | [], _, h, _, _, _, _ => absurd rfl h
  | _, [], _, h, _, _, _ => absurd rfl h
  | [x], [y], _, _, _, _, e => by rw [show x = y from e]
  | [x], y :: z :: r, _, _, hv, _, e => by
    have e1 := congrArg (fun t : Str => t.cps.toList) e
    have e2 : x.cps.toList = y.cps.toList ++ c :: (Str.join ⟨#[c]⟩ (z :: r)).cps.toList := e1.trans (join_cons2 c y z r)
    exact absurd (by rw [e2]; exact List.mem_append_right _ List.mem_cons_self) (hv x List.mem_cons_self)
  | x :: z :: r, [y], _, _, _, hw, e => by
    have e1 := congrArg (fun t : Str => t.cps.toList) e
    have e2 : x.cps.toList ++ c :: (Str.join ⟨#[c]⟩ (z :: r)).cps.toList = y.cps.toList := (join_cons2 c x z r).symm.trans e1
    exact absurd (by rw [← e2]; exact List.mem_append_right _ List.mem_cons_self) (hw y List.mem_cons_self)
  | x :: x2 :: r, y :: y2 :: q, _, _, hv, hw, e => by
    have e1 := congrArg (fun t : Str => t.cps.toList) e
    have e2 := (join_cons2 c x x2 r).symm.trans (e1.trans (join_cons2 c y y2 q))
    obtain ⟨h1, h2⟩ := free_cut c _ _ _ _ (hv x List.mem_cons_self) (hw y List.mem_cons_self) e2
    have h3 := join_inj c (x2 :: r) (y2 :: q) (List.cons_ne_nil _ _) (List.cons_ne_nil _ _) (fun v h => hv v (List.mem_cons_of_mem _ h)) (fun w h => hw w (List.mem_cons_of_mem _ h)) (str_ext h2)
    rw [str_ext h1, h3]
theorem split_ne (x y : Str) : Txt.split x y ≠ [] := by
  unfold Txt.split
  split
  · exact List.cons_ne_nil _ _
  · split
    · exact List.cons_ne_nil _ _
    · rw [StrLaws.partsBetween_eq]
      intro h
      have := congrArg List.length h
      revert this
      cases (Builtin.Str.occurrences x y 0 x.length (x.length + 1)) <;> simp [StrLaws.partsFrom]
theorem split_join {c : Nat} {ws : List Str} (h0 : ws ≠ []) (h : ∀ w ∈ ws, c ∉ w.cps.toList) : Txt.split (Str.join ⟨#[c]⟩ ws) ⟨#[c]⟩ = ws :=
  join_inj c _ _ (split_ne _ _) h0 (StrLaws.split_free _ c) h (StrLaws.join_split _ _)
theorem join_len1 (c : Nat) : ∀ ws : List Str, (Str.join ⟨#[c]⟩ ws).length ≤ (ws.map (·.length)).sum + ws.length
  | [] => Nat.zero_le _
  | [x] => by show x.length ≤ _; simp
  | x :: y :: r => by
    have ih := join_len1 c (y :: r)
    have e : (Str.join ⟨#[c]⟩ (x :: y :: r)).length = x.length + 1 + (Str.join ⟨#[c]⟩ (y :: r)).length := by
      have := congrArg List.length (join_cons2 c x y r)
      rw [List.length_append, List.length_cons] at this
      have l1 : ∀ z : Str, z.cps.toList.length = z.length := fun z => by simp [Str.length]
      rw [l1, l1, l1] at this
      omega
    simp only [List.map_cons, List.sum_cons, List.length_cons] at ih ⊢
    omega
theorem join_ne_empty {c : Nat} : ∀ {ws : List Str}, ws ≠ [] → (∀ w ∈ ws, 1 ≤ w.length) → 1 ≤ (Str.join ⟨#[c]⟩ ws).length
  | [], h, _ => absurd rfl h
  | [x], _, h => h x List.mem_cons_self
  | x :: y :: r, _, h => by
    have h1 := h x List.mem_cons_self
    have := congrArg List.length (join_cons2 c x y r)
    rw [List.length_append] at this
    have l1 : ∀ z : Str, z.cps.toList.length = z.length := fun z => by simp [Str.length]
    rw [l1, l1] at this
    omega
/-! ### small things -/
theorem ite_ne {b : Bool} {A B : Prop} (hb : b = true) (h : B) : if (!b) = true then A else B := by
  subst hb; exact iteF h
theorem ite_t {b : Bool} {A B : Prop} (hb : b = true) (h : A) : if b = true then A else B := by
  subst hb; exact iteT h
theorem ite_f {b : Bool} {A B : Prop} (hb : b = false) (h : B) : if b = true then A else B := by
  subst hb; exact iteF h
theorem same_new {H : Hp} {p : Addr} {o : HO} (h : H p = none) : Same H (upd H p o) := fun b u e => by
  rw [upd_ne (ne_of_none e h)]; exact e
/-- a new object of ours is changed: what stood before stays -/
theorem Same.own {H H' : Hp} {p : Addr} {o : HO} (s : Same H H') (h : H p = none) : Same H (upd H' p o) := fun b u e => by
  rw [upd_ne (ne_of_none e h)]; exact s b u e
theorem Same.new {H H' : Hp} {p : Addr} {o : HO} (s : Same H H') (h : H' p = none) : Same H (upd H' p o) := s.trans (same_new h)
theorem Same.nn {H H' : Hp} (s : Same H H') {p : Addr} {o : HO} (h : H p = none) (e : H' p = some o) {b : Addr} {u : HO} (eb : H b = some u) : b ≠ p := ne_of_none eb h
theorem cut_from (xs : List V) (k : Nat) : cutV xs (some (k : Int)) none = xs.drop k := by
  unfold cutV
  rw [HT.sIx_nat, HT.sIx_none]
  by_cases h : k ≤ xs.length
  · rw [Nat.min_eq_left h]
    exact List.take_of_length_le (by rw [List.length_drop]; exact Nat.le_refl _)
  · have h' : xs.length ≤ k := by omega
    rw [Nat.min_eq_right h', List.drop_of_length_le h', List.drop_of_length_le (Nat.le_refl _)]
    simp
theorem at_ix {α : Type} {xs : List α} {i : Int} {n : Nat} (hn : xs.length = n) (h0 : 0 ≤ i) (h1 : i < n) : ∃ c, atI xs i = some c ∧ c ∈ xs := by
  have hi : i.toNat < xs.length := by omega
  have e : ((i.toNat : Nat) : Int) = i := by omega
  refine ⟨xs[i.toNat], ?_, List.getElem_mem hi⟩
  have q := atI_nat (List.getElem?_eq_getElem hi)
  rw [e] at q
  exact q
end L2

namespace L2
open PySem PySem.Spec PyProof.Rows

/-! ### a list comprehension of one clause without a test -/
def relabelS (scope outer : Scope) : Scope :=
  { scope with names := scope.names.map fun (n, k) => if (k == .free && outer.kind == .function && outer.names.lookup n == some .cell) then (n, .cell) else (n, k) }
/-- M: the outer names N as the block sees them (one that the block's own name hides is no name there) -/
structure CompScope (scope outer : Scope) (x : Str) (N M : List Str) : Prop where
  kind : scope.kind = .function
  okind : outer.kind = .function
  nocell : ∀ y ∈ scope.names, y.2 ≠ .cell
  names : ∀ y ∈ scope.names, y.2 = .local → scope.names.lookup y.1 = some .local
  hx : scope.names.lookup x = some .local
  free : ∀ y ∈ scope.names, y.2 = .free → outer.names.lookup y.1 = some .cell
  nl : ∀ n ∈ M, (relabelS scope outer).names.lookup n ≠ some .local
  ndM : M.Nodup
  nd : N.Nodup
  len : M.length = N.length
  rel : ∀ i : Nat, i < N.length → M[i]? = N[i]? ∨ M[i]? = some Str.empty
  em : (relabelS scope outer).names.lookup Str.empty = none
theorem CompScope.mem {scope outer : Scope} {x : Str} {N M : List Str} (S : CompScope scope outer x N M) {n : Str} {k : NameKind} (h : (relabelS scope outer).names.lookup n = some k) (hk : k = .cell ∨ k = .free) :
    k = .cell ∧ (n, NameKind.free) ∈ scope.names ∧ outer.names.lookup n = some .cell := by
  obtain ⟨⟨n', k'⟩, hm, e⟩ := List.mem_map.mp (PySem.mem_of_lookup h)
  dsimp only at e
  by_cases hc : (k' == NameKind.free && outer.kind == .function && outer.names.lookup n' == some .cell) = true
  · rw [if_pos hc] at e
    injection e with e1 e2
    subst e1 e2
    rw [Bool.and_eq_true, Bool.and_eq_true] at hc
    have hk' : k' = .free := beq_iff_eq.mp hc.1.1
    subst hk'
    exact ⟨rfl, hm, beq_iff_eq.mp hc.2⟩
  · rw [if_neg hc] at e
    injection e with e1 e2
    subst e1 e2
    rcases hk with z | z
    · exact absurd z (S.nocell _ hm)
    · subst z
      exfalso
      refine hc ?_
      rw [S.free _ hm rfl, S.okind]
      rfl
/-- the cells that a block takes along -/
theorem clos_go {env : Env} {f : Str × NameKind → List (Str × Addr) → Sem (ForInStep (List (Str × Addr)))}
    (h1 : ∀ n k r, k ≠ NameKind.free → f (n, k) r = pure (.yield r)) (h2 : ∀ n r c, env.cells.lookup n = some c → f (n, .free) r = pure (.yield ((n, c) :: r))) :
    ∀ (ns : List (Str × NameKind)) (acc : List (Str × Addr)), (∀ y ∈ ns, y.2 = .free → ∃ c, env.cells.lookup y.1 = some c) → (∀ n c, acc.lookup n = some c → env.cells.lookup n = some c) →
      ∃ cl, (forIn ns acc f : Sem (List (Str × Addr))) = pure cl ∧ (∀ n c, cl.lookup n = some c → env.cells.lookup n = some c) ∧ (∀ n c, acc.lookup n = some c → (cl.lookup n).isSome = true) ∧ ∀ y ∈ ns, y.2 = .free → (cl.lookup y.1).isSome = true
  | [], acc, _, ha => ⟨acc, by simp, ha, fun n c e => by rw [e]; rfl, fun y hy => nomatch hy⟩
  | (n, k) :: ns, acc, hn, ha => by
    by_cases hk : k = NameKind.free
    · subst hk
      obtain ⟨c, hc⟩ := hn (n, .free) List.mem_cons_self rfl
      have ha' : ∀ m d, ((n, c) :: acc).lookup m = some d → env.cells.lookup m = some d := fun m d e => by
        rw [List.lookup_cons] at e
        split at e
        · rename_i hb
          have : m = n := beq_iff_eq.mp hb
          subst this
          rw [← Option.some.inj e]; exact hc
        · exact ha m d e
      obtain ⟨cl, e, p1, p2, p3⟩ := clos_go h1 h2 ns ((n, c) :: acc) (fun y hy => hn y (List.mem_cons_of_mem _ hy)) ha'
      have hnn : (cl.lookup n).isSome = true := p2 n c (by simp [List.lookup_cons])
      refine ⟨cl, ?_, p1, fun m d em => ?_, fun y hy hf => ?_⟩
      · rw [List.forIn_cons, h2 n acc c hc, pure_bind]; exact e
      · by_cases hm : m = n
        · subst hm; exact hnn
        · exact p2 m d (by rw [List.lookup_cons, show (m == n) = false from beq_eq_false_iff_ne.mpr hm]; exact em)
      · rcases List.mem_cons.mp hy with rfl | hy
        · exact hnn
        · exact p3 y hy hf
    · obtain ⟨cl, e, p1, p2, p3⟩ := clos_go h1 h2 ns acc (fun y hy => hn y (List.mem_cons_of_mem _ hy)) ha
      refine ⟨cl, ?_, p1, p2, fun y hy hf => ?_⟩
      · rw [List.forIn_cons, h1 n k acc hk, pure_bind]; exact e
      · rcases List.mem_cons.mp hy with rfl | hy
        · exact absurd hf hk
        · exact p3 y hy hf
theorem clos_some {scope : Scope} {env : Env} (h : ∀ y ∈ scope.names, y.2 = .free → ∃ c, env.cells.lookup y.1 = some c) :
    ∃ cl, closureFor scope env = pure cl ∧ (∀ n c, cl.lookup n = some c → env.cells.lookup n = some c) ∧ ∀ y ∈ scope.names, y.2 = .free → (cl.lookup y.1).isSome = true := by
  unfold closureFor
  obtain ⟨cl, e, p1, _, p3⟩ := clos_go (env := env) (f := fun x r => match x with | (name, kind) => if (kind == NameKind.free) = true then do let a ← cellOf env name; pure (.yield ((name, a) :: r)) else pure (.yield r))
    (fun n k r hk => by
      have : (k == NameKind.free) = false := beq_eq_false_iff_ne.mpr hk
      simp only [this, Bool.false_eq_true, if_false])
    (fun n r c hc => by
      simp only [beq_self_eq_true, if_true]
      unfold cellOf
      rw [hc]
      rw [pure_bind])
    scope.names [] h (fun n c e => by simp at e)
  refine ⟨cl, ?_, p1, p3⟩
  have e' := congrArg (fun z : Sem (List (Str × Addr)) => z >>= fun cs => pure cs) e
  simp only [pure_bind] at e'
  exact e'

def compCx (X : Cx) (x : Str) (M : List Str) (scope : Scope) (cl : List (Str × Addr)) (C : Addr) (s : Shared) (H : Hp) (fp : List Addr) : Cx :=
  { X with N := x :: M, s₀ := s, H₀ := H, env := compEnvC scope cl C X.env, outer := X.stack, ex := fp, fn := fun _ => false, pn := [], xe := fun _ _ => False }

/-- D: the new list; W: turn, measure, the items so far, the heap -/
def CompGoal (J : It) (te : TE) (σ : St) (D : Addr) (H1 : Hp) (Q : VK) : Prop := ∃ W : Nat → Nat → List V → Hp → Prop, (∃ m, W 0 m [] (upd H1 D (.lst []))) ∧ ∀ i m ys H2, W i m ys H2 →
  H2 D = some (.lst ys) ∧ ((J.stop i H2 ∧ Q (.ref D) H2) ∨ (J.go i H2 ∧ ys.length < sizeLine ∧ ∀ x H3, J.yld i H2 x H3 → te (some x :: σ) H3 fun y H4 => H4 D = some (.lst ys) ∧ ∃ m', m' < m ∧ W (i + 1) m' (ys ++ [y]) (upd H4 D (.lst (ys ++ [y])))))
def tComp (wi : TI) (te : TE) : TE := fun σ H Q => wi σ H fun J H1 => ∀ D, H1 D = none → CompGoal J te σ D H1 Q

section
variable {X : Cx} {pins : List (Addr × Obj)} {σ : St} {H : Hp} {s : Shared} {elt iter : Expr} {x : Str} {px pos : Pos} {scope : Scope} {wi : TI} {te : TE} {Q : VK} {M : List Str}

theorem comp_ok {cl : List (Str × Addr)} {C : Addr} {fp : List Addr} (S : CompScope scope X.env.scope x X.N M) (I : Inv X pins σ H s) (hC : s.heap.objs.size ≤ C) (p1 : ∀ n c, cl.lookup n = some c → X.env.cells.lookup n = some c)
    (p3 : ∀ y ∈ scope.names, y.2 = .free → (cl.lookup y.1).isSome = true) (f2 : ∀ b ∈ fp, FpOk X pins H b) (fo : ∀ b ∈ fp, b < s.heap.objs.size) : (compCx X x M scope cl C s H fp).Ok where
  mod := I.ok.mod
  kind := S.kind
  glob := I.ok.glob
  blt := I.ok.blt
  above := hC
  inj := fun y z c h1 h2 => I.ok.inj y z c (p1 y c h1) (p1 z c h2)
  has := fun y hy => by
    have hy' : (relabelS scope X.env.scope).names.lookup y = some .cell ∨ (relabelS scope X.env.scope).names.lookup y = some .free := hy
    have hm : (y, NameKind.free) ∈ scope.names := by
      rcases hy' with z | z
      · exact (S.mem z (.inl rfl)).2.1
      · exact (S.mem z (.inr rfl)).2.1
    exact Option.isSome_iff_exists.mp (p3 _ hm rfl)
  cab := fun y c h => absurd h Bool.false_ne_true
  hd := I.ok.hd
  frames := I.ok.frames
  stk := .inl rfl
  exf := fun b hb => ⟨Nat.ne_of_lt (Nat.lt_of_lt_of_le (fo b hb) hC), fun y c e => (f2 b hb).2.2.2.2.1 y c (p1 y c e)⟩
  bs := I.bs
  bsz := Nat.le_trans I.ok.bsz I.sz
  noex := fun b o e hb => by
    rcases (f2 b hb).2.2.2.1 with z | z
    · exact I.ok.noex b o e z
    · exact absurd (Nat.lt_of_lt_of_le (Heap.lt_size (I.ok.bs b o e).1) z) (Nat.lt_irrefl _)
  exfs := fun b hb z => by
    rcases List.mem_cons.mp (I.stkSub b z) with e | e
    · exact (f2 b hb).2.1 e
    · exact (f2 b hb).2.2.1 e
  funs := I.stack
  frf := I.stkFree

theorem comp_inv {cl : List (Str × Addr)} {C D : Addr} {fp : List Addr} {h₁ : Heap} {tk : Nat} {m : Str → Option Value} (S : CompScope scope X.env.scope x X.N M) (I : Inv X pins σ H s) (hC : s.heap.objs.size ≤ C) (hD : s.heap.objs.size ≤ D) (hDC : D ≠ C)
    (p1 : ∀ n c, cl.lookup n = some c → X.env.cells.lookup n = some c)
    (p3 : ∀ y ∈ scope.names, y.2 = .free → (cl.lookup y.1).isSome = true) (f2 : ∀ b ∈ fp, FpOk X pins H b) (fo : ∀ b ∈ fp, b < s.heap.objs.size)
    (old : ∀ b o, s.heap.get? b = some o → h₁.get? b = some o) (hn : h₁.Ns C m) (hl : h₁.get? D = some { cls := .type "list", data := .seq ([] : List Value).toArray }) :
    Inv (compCx X x M scope cl C s H fp) [] (none :: σ) (upd H D (.lst [])) { s with heap := h₁, toks := tk } := by
  have cellK : ∀ c v, s.heap.IsCell c v → h₁.IsCell c v := fun c v ⟨o, e, d⟩ => ⟨o, old c o e, d⟩
  refine ⟨comp_ok S I hC p1 p3 f2 fo, rfl, I.bare, Un.laid old hD (I.hok.fresh hD), ⟨m, hn, fun i n v h1 h2 h3 => ?_⟩, fun y c e => ?_, ?_, fun y c e => ?_, fun p hp => absurd (show p ∈ ([] : List (Addr × Obj)) from hp) (by simp), I.hok.laid old hD ⟨Nat.zero_le _, [], 0, .nil, hl⟩, ?_⟩
  · cases i with
    | zero =>
      have h2' : (none : Option V) = some v := by simpa using h2
      cases h2'
    | succ i =>
      have h0' : M[i]? = some n := by simpa [compCx] using h1
      have h2' : σ[i]? = some (some v) := by simpa using h2
      have h3' : (relabelS scope X.env.scope).names.lookup n = some .local ∨ (relabelS scope X.env.scope).names.lookup n = some .cell ∨ (relabelS scope X.env.scope).names.lookup n = some .free := h3
      have hcell : (relabelS scope X.env.scope).names.lookup n = some .cell ∧ (n, NameKind.free) ∈ scope.names ∧ X.env.scope.names.lookup n = some .cell := by
        rcases h3' with z | z | z
        · exact absurd z (S.nl n (List.mem_of_getElem? h0'))
        · exact ⟨z, (S.mem z (.inl rfl)).2⟩
        · exact absurd (S.mem z (.inr rfl)).1 (by decide)
      have h1' : X.N[i]? = some n := by
        have hi : i < X.N.length := by rw [← S.len]; exact (List.getElem?_eq_some_iff.mp h0').1
        rcases S.rel i hi with z | z
        · rw [← z]; exact h0'
        · rw [h0'] at z
          have e : n = Str.empty := Option.some.inj z
          rw [e, S.em] at hcell
          cases hcell.1
      obtain ⟨m0, hn0, hl0⟩ := I.loc
      obtain ⟨u, r, l⟩ := hl0 i n v h1' h2' (.inr (.inl hcell.2.2))
      refine ⟨u, r, .inr ⟨.inl hcell.1, ?_⟩⟩
      obtain ⟨c, hc⟩ := Option.isSome_iff_exists.mp (p3 _ hcell.2.1 rfl)
      refine ⟨c, hc, ?_⟩
      rcases l with ⟨k, _⟩ | ⟨_, c', hc', z⟩
      · have k' : X.env.scope.names.lookup n = some .local := k
        rw [hcell.2.2] at k'; cases k'
      · rw [p1 n c hc] at hc'
        cases hc'
        exact cellK c _ z
  · obtain ⟨v, z⟩ := I.cell y c (p1 y c e)
    exact ⟨v, cellK c v z⟩
  · show (upd H D (.lst [])) C = none
    rw [upd_ne (Ne.symm hDC)]
    exact I.hok.fresh hC
  · obtain ⟨v, z⟩ := I.cell y c (p1 y c e)
    rw [upd_ne (Nat.ne_of_lt (Nat.lt_of_lt_of_le z.lt hD))]
    exact I.freeC y c (p1 y c e)
  · show (none :: σ).length = (x :: M).length
    rw [List.length_cons, List.length_cons, I.len, S.len]

theorem comp_core {cl : List (Str × Addr)} {RR : Value → Addr → Result → Shared → Prop} (S : CompScope scope X.env.scope x X.N M) (hc : X.calm = true) (hi : PI X (.Name x px) iter wi)
    (he : ∀ cl C s H fp, PE (compCx X x M scope cl C s H fp) elt te) (I : Inv X pins σ H s) (h : tComp wi te σ H Q)
    (p1 : ∀ n c, cl.lookup n = some c → X.env.cells.lookup n = some c) (p3 : ∀ y ∈ scope.names, y.2 = .free → (cl.lookup y.1).isSome = true)
    (hRR : ∀ D C H' s' o m, Inv X (pins ++ [(C, o)]) σ H' s' → s'.heap.get? C = some o → s'.heap.Ns C m → X.s₀.heap.objs.size ≤ C → (∀ y c, X.env.cells.lookup y = some c → c ≠ C) → (∀ p ∈ X.pn ++ pins, p.1 ≠ C) → Q (.ref D) H' → RR (.ref D) C (.ok .next) s') :
    wpAny (model X.prog X.w) X.A (eval iter X.env) (fun xv s₁ => wpAny (model X.prog X.w) X.A (pyIter xv) (fun it s₂ => wpAny (model X.prog X.w) X.A (newList []) (fun acc s₃ =>
      wpAny (model X.prog X.w) X.A (newFunctionEnv scope X.env.globals cl [] X.env.qual none .none (some X.env)) (fun cenv s₄ =>
        codeAny (model X.prog X.w) X.A (.compStart (.ListComp elt [⟨.Name x px, iter, [], 0⟩] scope pos) 0 it acc { cenv with scope := relabel scope X.env }) (RR acc cenv.locals) s₄) X.xe s₃) X.xe s₂) X.xe s₁) X.xe s := by
  refine thn (hi pins s σ H _ I h) fun v s1 h1 => thn h1 fun itv s2 h2 => ?_
  obtain ⟨it, fp, tn, J, H2, rfl, I2, T, st2, f2, q⟩ := h2
  refine wpAny_newObj_type (wpAny_newFunctionEnv S.nocell (by intro y hy; simp at hy) (fun h₁ hns₁ hsb₁ => ?_) S.kind)
  dsimp only at hns₁ hsb₁ ⊢
  generalize hHH : s2.heap.push { cls := .type "list", dict := none, data := .seq ([] : List Value).toArray } = HH at hns₁ hsb₁ ⊢
  have hCs : HH.objs.size = s2.heap.objs.size + 1 := by rw [← hHH, Heap.size_push]
  have hDC : s2.heap.objs.size ≠ HH.objs.size := by rw [hCs]; exact Nat.ne_of_lt (Nat.lt_succ_self _)
  have hCle : s2.heap.objs.size ≤ HH.objs.size := by rw [hCs]; exact Nat.le_succ _
  have below : ∀ b, b < s2.heap.objs.size → b ≠ HH.objs.size := fun b hb => by rw [hCs]; exact Nat.ne_of_lt (Nat.lt_succ_of_lt hb)
  have old : ∀ b o, s2.heap.get? b = some o → h₁.get? b = some o := fun b o e => hsb₁.extBut b o (below b (Heap.lt_size e)) (Heap.get?_push_of_some _ (hHH ▸ Heap.get?_push_of_some _ e))
  have hacc : h₁.get? s2.heap.objs.size = some { cls := .type "list", data := .seq ([] : List Value).toArray } := hsb₁.extBut _ _ hDC (Heap.get?_push_of_some _ (hHH ▸ Heap.get?_push_size _ rfl))
  have fo : ∀ b ∈ fp, b < s2.heap.objs.size := fun b hb => by
    obtain ⟨o, e, _⟩ := T.obj _ _ st2 b hb
    exact Heap.lt_size e
  have IY := comp_inv (tk := s2.toks + ([] : List (Str × Value)).length) S I2 hCle (Nat.le_refl _) hDC p1 p3 f2 fo old hns₁ hacc
  have st1 : tn 0 h₁ := T.keep _ _ _ st2 fun b _ o e => old b o e
  obtain ⟨W, ⟨m0, w0⟩, turn⟩ := q _ (I2.hok.fresh (Nat.le_refl _))
  generalize hC : HH.objs.size = C at *
  generalize hDD : s2.heap.objs.size = D at *
  have ndY : (compCx X x M scope cl C s2 H2 fp).N.Nodup := by
    refine List.nodup_cons.mpr ⟨fun hm => S.nl x hm (lookup_relabel_local S.hx), S.ndM⟩
  have stat : ∀ {H' : Hp}, (∀ b ∈ fp, H' b = none) → ∀ b ∈ fp, FpOk (compCx X x M scope cl C s2 H2 fp) [] H' b := fun hn b hb =>
    ⟨hn b hb, below b (fo b hb), IY.ok.exfs b hb, .inl hb, fun y c e => (f2 b hb).2.2.2.2.1 y c (p1 y c e), fun p hp => absurd (show p ∈ ([] : List (Addr × Obj)) from hp) (by simp)⟩
  have loop : codeAny (model X.prog X.w) X.A (.compLoop (.ListComp elt [⟨.Name x px, iter, [], 0⟩] scope pos) 0 (.ref it) (.ref D) (compEnvC scope cl C X.env)) (RR (.ref D) C) { s2 with heap := h₁, toks := s2.toks + ([] : List (Str × Value)).length } := by
    refine codeAny_compLoop_tests (fun n s' => ∃ i v0 ys H', Inv (compCx X x M scope cl C s2 H2 fp) [] (v0 :: σ) H' s' ∧ tn i s'.heap ∧ (∀ b ∈ fp, H' b = none) ∧ W i n ys H') ?_ m0 ⟨0, none, [], _, IY, st1, fun b hb => ?_, w0⟩
    · rintro n s3 ⟨i, v0, ys, H3, I3, st3, fr3, w3⟩
      obtain ⟨hDl, hw⟩ := turn i n ys H3 w3
      rcases hw with ⟨stop, qn⟩ | ⟨go, hsz, step⟩
      · refine thn (T.done (compCx X x M scope cl C s2 H2 fp) rfl rfl rfl hc i [] s3 _ H3 _ I3 (stat fr3) st3 stop) fun r s4 ⟨hr, I4⟩ => ?_
        subst hr
        obtain ⟨m4, hn4, _⟩ := I4.loc
        obtain ⟨oC, es4, ep4, e4, r4⟩ := id hn4
        have hCs2 : s2.heap.objs.size ≤ C := by rw [hDD]; exact hCle
        have IX : Inv X pins σ H3 s4 := I2.call' (ch := fp) I4.os I4.base I4.hok I4.bare fun b hb => ⟨(f2 b hb).2.2.2.1, (f2 b hb).2.1, (f2 b hb).2.2.2.2.1, (f2 b hb).2.2.2.2.2⟩
        have fC := I2.fpOk (H' := H3) hCs2 I4.free
        have IX2 : Inv X (pins ++ [(C, oC)]) σ H3 s4 := IX.pins_of fun p hp => (List.mem_append.mp hp).elim (fun z => IX.pin p (List.mem_append_right _ z)) fun z => by
          have e : p = (C, oC) := by simpa using z
          subst e
          exact ⟨e4, fC.1, fC.2.1, fC.2.2.1, fun v z => by rw [r4.1] at z; cases z⟩
        exact hRR D C H3 s4 oC m4 IX2 e4 hn4 (Nat.le_trans I2.sz hCs2) fC.2.2.2.2.1 fC.2.2.2.2.2 qn
      · refine thn (T.item (compCx X x M scope cl C s2 H2 fp) rfl rfl rfl hc i [] s3 _ H3 _ I3 (stat fr3) st3 go) fun r s4 ⟨u, hr, h4⟩ => ?_
        subst hr
        have e0 : ∀ k : Sem Unit, (letOwnedTupleGo (.Name x px) (.ref it) u >>= fun _ => k) = k := fun k => by
          rw [show letOwnedTupleGo (.Name x px) (.ref it) u = pure () from rfl, pure_bind]
        show wpAny _ _ (assign (.Name x px) (compEnvC scope cl C X.env) u) _ _ s4
        rw [← e0 (assign (.Name x px) (compEnvC scope cl C X.env) u)]
        refine wpAny_bind (thn h4 fun _ s5 ⟨xv, H5, I5, r5, y5, st5, fr5⟩ => ?_)
        have I5' := I5.pinned (stat fr5) (T.obj _ _ st5)
        have hxl : (compCx X x M scope cl C s2 H2 fp).env.scope.names.lookup x = some .local := lookup_relabel_local S.hx
        refine wpAny_assign_Name (store_ok (X := compCx X x M scope cl C s2 H2 fp) (i := 0) I5' ndY rfl (Or.inl hxl) r5 (fun s6 I6 => ?_) (.inr hxl))
        refine wpAny_tests_nil ?_
        rw [if_pos rfl]
        refine wpAny_mono (he cl C s2 H2 fp _ s6 _ H5 _ I6 (step xv H5 y5)) (fun y s7 ⟨yv, H7, I7, r7, hD7, m', hm', w7⟩ => ?_) (fun _ _ f => f.elim)
        refine wpAny_mono (mt_append (X := compCx X x M scope cl C s2 H2 fp) _ s7 _ H7 (.ref D) [yv] (.ref D) [y] (fun _ H8 => H8 = upd H7 D (.lst (ys ++ [yv]))) I7 rfl (.cons r7 .nil) ⟨D, ys, yv, rfl, rfl, hD7, hsz, rfl⟩)
          (fun _ s8 ⟨_, H8, I8, _, e8⟩ => ?_) (fun _ _ f => f.elim)
        subst e8
        refine ⟨m', hm', i + 1, some xv, ys ++ [yv], _, I8.unpinned, T.keep _ _ _ st5 fun b hb o e => (I8.pin (b, o) (List.mem_append_right _ (List.mem_append_right _ (mem_pinsAt hb e)))).1, fun b hb => ?_, w7⟩
        obtain ⟨o, e, d⟩ := T.obj _ _ st5 b hb
        exact (I8.pin (b, o) (List.mem_append_right _ (List.mem_append_right _ (mem_pinsAt hb e)))).2.1
    · show (upd H2 D (.lst [])) b = none
      rw [upd_ne (Nat.ne_of_lt (fo b hb))]
      exact (f2 b hb).1
  exact codeAny_compStart_list loop (T.self _ 0 _ _ _ st1 loop)
theorem pe_comp (S : CompScope scope X.env.scope x X.N M) (hc : X.calm = true) (hi : PI X (.Name x px) iter wi) (he : ∀ cl C s H fp, PE (compCx X x M scope cl C s H fp) elt te)
    (hs : ∀ x, foldedSetIterable iter X.env x = pure x := by intro _; rfl) : PE X (.ListComp elt [⟨.Name x px, iter, [], 0⟩] scope pos) (tComp wi te) := by
  intro pins s σ H Q I h
  obtain ⟨cl, hclos, p1, p3⟩ := clos_some (scope := scope) (env := X.env) (fun y hy hf => I.ok.has y.1 (.inl (S.free y hy hf)))
  rw [eval_ListComp]
  refine wpAny_comprehension_free (use := none) rfl hs hclos S.kind S.names (comp_core (RR := fun acc C => compPost (model X.prog X.w) X.A X.xe none (EP X pins σ Q) acc C) S hc hi he I h p1 p3 ?_)
  intro D C H' s' o m I' e hn h0 h1 h2 q
  refine ⟨m, hn, fun h' hs' => ?_⟩
  have pC := I'.pin (C, o) (List.mem_append_right _ (List.mem_append_right _ (by simp)))
  have IX : Inv X pins σ H' s' := I'.unpinned
  exact ⟨.ref D, H', IX.turned (t' := s'.toks) (fun b ob hb e => (hs'.2 b hb).trans e) pC.2.1 pC.2.2.1 (.inr h0) h1 h2, rfl, q⟩
theorem ps_setComp {i : Nat} {y : Str} {py spos : Pos} (S : CompScope scope X.env.scope x X.N M) (hc : X.calm = true) (hj : X.N[i]? = some y) (hy : Loc X.env.scope y) (hi : PI X (.Name x px) iter wi) (he : ∀ cl C s H fp, PE (compCx X x M scope cl C s H fp) elt te)
    (hsw : swapsWith (.ListComp elt [⟨.Name x px, iter, [], 0⟩] scope pos) (some (.Name y py)) spos.line X.env = pure true := by rfl)
    (hf : X.fn y = true ∨ X.env.scope.names.lookup y = some .local := by first | exact .inl rfl | exact .inr rfl | assumption)
    (hs : ∀ x, foldedSetIterable iter X.env x = pure x := by intro _; rfl) : PS X (.Assign [.Name y py] (.ListComp elt [⟨.Name x px, iter, [], 0⟩] scope pos) spos) (tAsg (tComp wi te) (gName i)) := by
  intro pins s σ H D I h
  obtain ⟨cl, hclos, p1, p3⟩ := clos_some (scope := scope) (env := X.env) (fun y hy hf => I.ok.has y.1 (.inl (S.free y hy hf)))
  rw [exec_Assign_Name_used _ _ _ _ hsw]
  refine wpAny_bind (wpAny_standAt (wpAny_bind ?_))
  show wpAny _ _ (do let _ ← comprehension (.ListComp elt [⟨.Name x px, iter, [], 0⟩] scope pos) scope X.env _ (newList []) false (eval iter X.env) (some (assign (.Name y py) X.env))) _ _ s
  refine wpAny_bind (wpAny_mono (wpAny_comprehension_free (use := some (assign (.Name y py) X.env)) (Q := fun _ s' => SP X pins D .next s') rfl hs hclos S.kind S.names
    (comp_core (RR := fun acc C => compPost (model X.prog X.w) X.A X.xe (some (assign (.Name y py) X.env)) (fun _ s' => SP X pins D .next s') acc C) S hc hi he I h p1 p3 ?_)) (fun _ s' hq => wpAny_pure (wpAny_pure hq)) fun _ _ e => e)
  intro Dd C H' s' o m I' e hn h0 h1 h2 q
  show wpAny _ _ (assign (.Name y py) X.env (.ref Dd)) _ _ s'
  refine wpAny_assign_Name (store_ok I' S.nd hj hy (v := .ref Dd) rfl (fun s'' I'' => ?_) hf)
  have pC := I''.pin (C, o) (List.mem_append_right _ (List.mem_append_right _ (by simp)))
  obtain ⟨o', es, ep, e0, r⟩ := hn
  rw [e] at e0
  cases e0
  have IX : Inv X pins _ H' s'' := I''.unpinned
  refine ⟨m, ⟨o, es, ep, pC.1, r⟩, fun h' hs' => ?_⟩
  exact ⟨_, H', IX.turned (t' := s''.toks) (fun b ob hb e => (hs'.2 b hb).trans e) pC.2.1 pC.2.2.1 (.inr h0) h1 h2, q⟩
/-- what a turn of a comprehension is to reach -/
def CompNext (D : Addr) (n : Nat) (Pv : Nat → List V → Hp → Prop) (i : Nat) (ys : List V) : VK := fun y H4 => H4 D = some (.lst ys) ∧ ∃ m', m' < n - i ∧ m' = n - (i + 1) ∧ i + 1 ≤ n ∧ Pv (i + 1) (ys ++ [y]) (upd H4 D (.lst (ys ++ [y])))
theorem CompNext.mk {D : Addr} {n : Nat} {Pv : Nat → List V → Hp → Prop} {i : Nat} {ys : List V} {y : V} {H4 : Hp} (hi : i < n) (h1 : H4 D = some (.lst ys)) (h2 : Pv (i + 1) (ys ++ [y]) (upd H4 D (.lst (ys ++ [y])))) : CompNext D n Pv i ys y H4 :=
  ⟨h1, n - (i + 1), by omega, rfl, hi, h2⟩
/-- over a list that stays -/
theorem comp_list {K : PySem.W.Frag} {a D : Addr} {xs : List V} {te : TE} {Q : VK} {σ : St} {H1 : Hp} (Pv : Nat → List V → Hp → Prop) (h0 : Pv 0 [] (upd H1 D (.lst []))) (hz : xs.length ≤ sizeLine)
    (hl : ∀ i ys H2, i ≤ xs.length → Pv i ys H2 → SqL K H2 a xs ∧ H2 D = some (.lst ys) ∧ ys.length = i)
    (hs : ∀ i x ys H2, xs[i]? = some x → Pv i ys H2 → te (some x :: σ) H2 (CompNext D xs.length Pv i ys)) (hd : ∀ ys H2, Pv xs.length ys H2 → Q (.ref D) H2) :
    CompGoal (Itl K a) te σ D H1 Q := by
  refine ⟨fun i m ys H => m = xs.length - i ∧ i ≤ xs.length ∧ Pv i ys H, ⟨xs.length, by simp, Nat.zero_le _, h0⟩, ?_⟩
  rintro i m ys H2 ⟨rfl, hi, p⟩
  obtain ⟨q, q2, q3⟩ := hl i ys H2 hi p
  refine ⟨q2, ?_⟩
  by_cases hlt : i < xs.length
  · refine .inr ⟨⟨xs, xs[i], q, by simp [hlt]⟩, by omega, fun x H3 y => ?_⟩
    obtain ⟨e, y⟩ := y
    subst e
    exact hs i x ys _ (y xs q) p
  · have e : i = xs.length := by omega
    subst e
    exact .inl ⟨⟨xs, q, Nat.le_refl _⟩, hd ys H2 p⟩
/-- over a range -/
theorem comp_range {lo : Int} {n : Nat} {D : Addr} {te : TE} {Q : VK} {σ : St} {H1 : Hp} (Pv : Nat → List V → Hp → Prop) (h0 : Pv 0 [] (upd H1 D (.lst []))) (hz : n ≤ sizeLine)
    (hl : ∀ i ys H2, i ≤ n → Pv i ys H2 → H2 D = some (.lst ys) ∧ ys.length = i)
    (hs : ∀ i ys H2, i < n → Pv i ys H2 → te (some (.int (lo + i)) :: σ) H2 (CompNext D n Pv i ys)) (hd : ∀ ys H2, Pv n ys H2 → Q (.ref D) H2) :
    CompGoal (Itr lo n) te σ D H1 Q := by
  refine ⟨fun i m ys H => m = n - i ∧ i ≤ n ∧ Pv i ys H, ⟨n, by simp, Nat.zero_le _, h0⟩, ?_⟩
  rintro i m ys H2 ⟨rfl, hi, p⟩
  obtain ⟨q2, q3⟩ := hl i ys H2 hi p
  refine ⟨q2, ?_⟩
  by_cases hlt : i < n
  · refine .inr ⟨hlt, by omega, fun x H3 y => ?_⟩
    obtain ⟨e, y⟩ := y
    subst e y
    exact hs i ys _ hlt p
  · have e : i = n := by omega
    subst e
    exact .inl ⟨Nat.le_refl _, hd ys H2 p⟩
end
end L2

namespace L2
open PySem PySem.Spec PyProof.Rows

/-! ### C() of a class without an __init__ of its own -/
structure MkN (K : PySem.W.Frag) (C : Addr) : Prop where
  makes : PySem.W.makesIn K C = true
  init : PySem.W.findIn K (.ref C) "__init__" = some (some (.builtin "object.__init__"))
  kp : PySem.W.keepIn K (.ref C) = true
def tMakeN (C : Addr) : TE := fun _ H Q => ∀ x dx, H x = none → H dx = none → dx ≠ x → Q (.ref x) (upd (upd H dx (.own x)) x (.ins C dx []))
section
variable {X : Cx} {C : Addr} {x : Str} {p pos : Pos}
theorem pe_makeN (M : MkN X.K C) (hg : Gl X x) (hm : X.mg x = some (.ref C)) (hdb : (x == ("__debug__" : Str)) = false := by decide) : PE X (.Call (.Name x p) [] [] pos) (tMakeN C) := by
  intro pins s σ H Q I h
  refine wpAny_Call_Name_kw (ld_glob I hg hm ?_ hdb)
  refine PySem.W.callWith_K0 I.kIn M.kp (wpAny_call ?_)
  have I2 := Inv.made (C := C) I
  have q := h (s.heap.objs.size + 1) s.heap.objs.size (I.hok.fresh (Nat.le_succ _)) (I.hok.fresh (Nat.le_refl _)) (Nat.ne_of_lt (Nat.lt_succ_self _))
  have fin : EP X pins σ Q (.ref (s.heap.objs.size + 1)) { s with heap := (s.heap.push PySem.W.emptyDict).push (PySem.W.instObj C s.heap.objs.size) } := ⟨.ref _, _, I2, rfl, q⟩
  have X1 := I.kIn
  have e2 : ((s.heap.push PySem.W.emptyDict).push (PySem.W.instObj C s.heap.objs.size)).get? (s.heap.objs.size + 1) = some (PySem.W.instObj C s.heap.objs.size) := by
    have := Heap.get?_push_size (s.heap.push PySem.W.emptyDict) (o := PySem.W.instObj C s.heap.objs.size) rfl
    rwa [Heap.size_push] at this
  clear I2 q h I
  obtain ⟨hh, g, d, t, os⟩ := s
  have Y := PySem.W.makes_of (M := model X.prog X.w) X1 M.makes
  refine PySem.W.make_core Y (PySem.W.looks_findIn X1 M.init) (fun self => PySem.W.Looks.of_pure (PySem.W.oi_bind self)) (.inr ⟨rfl, rfl⟩) ?_
  have t1 : PySem.W.Looks (model X.prog X.w) ((hh.push PySem.W.emptyDict).push (PySem.W.instObj C hh.objs.size)) (typeOf (.ref (hh.objs.size + 1))) (.ref C) := (PySem.W.Looks.ld e2).andThen .now
  have t2 : PySem.W.Looks (model X.prog X.w) ((hh.push PySem.W.emptyDict).push (PySem.W.instObj C hh.objs.size)) (isInstance (.ref (hh.objs.size + 1)) (.type "object")) true := t1.andThen (Y.top.keeps fun b o e => Heap.get?_push_of_some _ (Heap.get?_push_of_some _ e))
  refine codeAny_call_builtin PySem.W.oi_plain PySem.W.entry_oi (@PySem.W.check_slot (model X.prog X.w) _ _ _ "object.__init__" "object" "__init__" (.ref (hh.objs.size + 1)) [] [] _ PySem.W.oi_kind PySem.W.oi_split t2 (PySem.W.oi_args (.ref (hh.objs.size + 1))) ?_)
  show wpAny _ _ (Builtin.«object.__init__» ⟨[.ref (hh.objs.size + 1)], []⟩) _ _ _
  rw [PySem.W.oi_run]
  exact wpAny_pure (And.intro rfl fin)
end

/-! ### an item of a module's dict with texts as keys -/
structure TabK (P : Params) (K : PySem.W.Frag) (a : Addr) : Prop where
  ex : ∃ es n, K.lookup a = some ⟨.type "dict", none, .dict es n, #[]⟩ ∧ PySem.W.KeysLit P es.toList
section
variable {X : Cx}
theorem ix_tab : IxR X (fun x y H Q => ∃ a z v u, x = .ref a ∧ y = .str z ∧ TabK X.w.params X.K a ∧ PySem.W.nsIn X.K a z = some (some u) ∧ RelV v u ∧ Q v H) := by
  intro value slice pins s σ H x y v u Q I rx ry h hs
  obtain ⟨a, z, w', u', rfl, rfl, ⟨es, n, hl, hk⟩, e, r, q⟩ := h
  cases rx
  obtain ⟨t, rfl⟩ := ry
  have hm := PySem.W.mapOf_K (prog := X.prog) I.kIn hl hk
  exact tail_any hm.typeIs slot_dict_getitem.lookup (wpAny_getItem_of (strKind_is X.prog X.w z t) hm (PySem.W.find_K hl e) ⟨w', H, I.tok _, r, q⟩) hs
end

/-! ### range(a, b, c), c positive -/
def Itr3 (lo c : Int) (n : Nat) : It := ⟨fun i _ => i < n, fun i H x H' => H' = H ∧ x = .int (lo + i * c), fun i _ => n ≤ i⟩
theorem turn_range3 {P : Program} {w : World} {K : PySem.W.Frag} {tg : Expr} (it : Addr) (lo c : Int) (n : Nat) : Turn P w K tg (Itr3 lo c n) [it] it (fun i h => IsRangeIter h it (lo + (i : Nat) * c) ((n : Int) - (i : Nat)) c) where
  mem := by simp
  obj := fun i h st b hb => by
    have e : b = it := by simpa using hb
    subst e
    exact ⟨_, st, fun v z => by
      have z' : Data.fields _ = Data.cell v := z
      cases z'⟩
  keep := fun i h h' st k => k it (by simp) _ st
  item := by
    intro X hP hw hK hc i pins s σ H E I hf st hg
    subst hP hw hK
    obtain ⟨f0, f1, f2, f3, f4, f5⟩ := hf it (by simp)
    have W := Walks.range (prog := X.prog) (w := X.w) (I.ok.hd hc) it lo c n
    refine W.item i s _ _ hg st fun v h' tk hv st' kk => ?_
    obtain ⟨t, rfl⟩ := hv
    have I1 : Inv X pins σ H { s with heap := h', toks := tk } := I.turned (fun b o hb e => kk b o (by simpa using hb) e) f0 f1 f3 f4 f5
    exact ⟨_, rfl, go_of (s := { s with heap := h', toks := tk }) (n := "range_iterator") st' rfl rfl (by decide) ⟨.int (lo + i * c), H, I1, ⟨t, rfl⟩, ⟨rfl, rfl⟩, st', fun b hb => (hf b hb).1⟩⟩
  done := by
    intro X hP hw hK hc i pins s σ H E I hf st hg
    subst hP hw hK
    obtain ⟨f0, f1, f2, f3, f4, f5⟩ := hf it (by simp)
    exact wpAny_pyNext_range_end (I.ok.hd hc) st (by have : n ≤ i := hg; omega) fun h' eb => ⟨rfl, I.turned (t' := s.toks) (fun b o hb e => eb b o hb e) f0 f1 f3 f4 f5⟩
  self := fun _ _ _ _ _ st h => wpAny_pyIter_rangeiter st h
section
variable {X : Cx} {tg : Expr}
theorem range3_it {pins : List (Addr × Obj)} {σ : St} {H : Hp} {s : Shared} {R : It → Hp → Prop} {E : Value → Shared → Prop} {lo hi c : Int} {t u v : Tok} {tk : Nat} (I : Inv X pins σ H s) (hs : Builtin.Range.small lo hi c = true) (h0 : 0 ≤ Builtin.Range.rangeSize lo hi c)
    (q : R (Itr3 lo c (Builtin.Range.rangeSize lo hi c).toNat) H) : wpAny (model X.prog X.w) X.A (pyIter (.ref s.heap.objs.size)) (PIE X pins σ tg R) E { s with heap := s.heap.push { cls := .type "range", data := .fields #[.int lo t, .int hi u, .int c v] }, toks := tk } := by
  refine wpAny_pyIter_range (IsRange.new ..) hs ?_
  have I1 : Inv X pins σ H { s with heap := s.heap.push { cls := .type "range", data := .fields #[.int lo t, .int hi u, .int c v] }, toks := tk } := I.kept fun b o e => Heap.get?_push_of_some _ e
  refine ⟨(s.heap.push { cls := .type "range", data := .fields #[.int lo t, .int hi u, .int c v] }).objs.size, [(s.heap.push { cls := .type "range", data := .fields #[.int lo t, .int hi u, .int c v] }).objs.size], _, _, H, rfl,
    I1.kept (t' := tk) fun b o e => Heap.get?_push_of_some _ e, turn_range3 _ lo c (Builtin.Range.rangeSize lo hi c).toNat, ?_, fun b hb => ?_, q⟩
  · have e1 : lo + ((0 : Nat) : Int) * c = lo := by simp
    have e2 : (((Builtin.Range.rangeSize lo hi c).toNat : Nat) : Int) - ((0 : Nat) : Int) = Builtin.Range.rangeSize lo hi c := by omega
    show IsRangeIter _ _ (lo + ((0 : Nat) : Int) * c) ((((Builtin.Range.rangeSize lo hi c).toNat : Nat) : Int) - ((0 : Nat) : Int)) c
    rw [e1, e2]
    exact Heap.get?_push_size _ rfl
  · have e : b = (s.heap.push { cls := .type "range", data := .fields #[.int lo t, .int hi u, .int c v] }).objs.size := by simpa using hb
    subst e
    exact I1.fpOk (Nat.le_refl _) (I1.hok.fresh (Nat.le_refl _))
def iRng3 (ta : TA) : TI := fun σ H R => ta σ H fun vs H1 => ∃ i j c : Int, vs = [.int i, .int j, .int c] ∧ (c ≠ 0 ∧ c.natAbs < 1073741824) ∧ Builtin.Range.small i j c = true ∧ 0 ≤ Builtin.Range.rangeSize i j c ∧ R (Itr3 i c (Builtin.Range.rangeSize i j c).toNat) H1
theorem pi_range3 {a b d : Expr} {ta : TA} {p pos : Pos} (hg : Gl X "range") (hm : X.mg "range" = none) (ha : PA X [a, b, d] ta) (hs : starEach [a, b, d] X.env = (false, eval a X.env) :: starEach [b, d] X.env := by rfl) (hpl : (backTo pos (starEach [b, d] X.env)).any (·.1) = false := by rfl) :
    PI X tg (.Call (.Name "range" p) [a, b, d] [] pos) (iRng3 ta) := by
  intro pins s σ H R I h
  refine Call_ (ld_blt I hg hm bt_range (PyProof.Rows.callWith_type1 (thn (ha pos pins s σ H _ I h) fun us s1 ⟨vs, H1, I1, r1, q1⟩ => ?_) hs hpl))
  obtain ⟨i, j, c, e, ⟨c1, c2⟩, q2, q3, q⟩ := q1
  subst e
  cases r1 with
  | cons r rr =>
    cases rr with
    | cons r' rr =>
      cases rr with
      | cons r'' rr =>
        cases rr
        obtain ⟨t, rfl⟩ := r
        obtain ⟨t', rfl⟩ := r'
        obtain ⟨t'', rfl⟩ := r''
        exact call_range_3 c1 (range3_it I1 q2 q3 q) (Or.inl (PyProof.noPylong_small c2))
theorem for_range3 {lo c : Int} {n : Nat} {g : TG} {tb : TS} {D : Ends} {σ : St} {H : Hp} (Pv : Nat → St → Hp → Prop) (h0 : Pv 0 σ H)
    (hs : ∀ i σ H, i < n → Pv i σ H → g (.int (lo + i * c)) σ H fun σ2 H2 => tb { D with nx := Pv (i + 1), ct := Pv (i + 1), bk := D.nx } σ2 H2) (hd : ∀ σ H, Pv n σ H → D.nx σ H) :
    ∃ W : Nat → Nat → St → Hp → Prop, (∃ m, W 0 m σ H) ∧ ∀ i m σ H, W i m σ H →
      ((Itr3 lo c n).stop i H ∧ D.nx σ H) ∨ ((Itr3 lo c n).go i H ∧ ∃ N : St → Hp → Prop, (∀ σ' H', N σ' H' → ∃ m', m' < m ∧ W (i + 1) m' σ' H') ∧ ∀ x H', (Itr3 lo c n).yld i H x H' → g x σ H' fun σ2 H2 => tb { D with nx := N, ct := N, bk := D.nx } σ2 H2) := by
  refine ⟨fun i m σ H => m = n - i ∧ i ≤ n ∧ Pv i σ H, ⟨n, by simp, Nat.zero_le _, h0⟩, ?_⟩
  rintro i m σ H ⟨rfl, hi, p⟩
  by_cases hlt : i < n
  · refine .inr ⟨hlt, Pv (i + 1), fun σ' H' p' => ⟨n - (i + 1), by omega, rfl, hlt, p'⟩, fun x H' y => ?_⟩
    obtain ⟨e, y⟩ := y
    subst e y
    exact hs i σ _ hlt p
  · have e : i = n := by omega
    subst e
    exact .inl ⟨Nat.le_refl _, hd σ H p⟩
end

/-! ### a list of truths as data -/
theorem dvs_bls (K : PySem.W.Frag) (H : Hp) : ∀ bs : List Bool, DVs K H (bs.map PyData.bool) (bs.map V.bl)
  | [] => by unfold DVs; rfl
  | b :: bs => by
    show DVs K H (PyData.bool b :: bs.map PyData.bool) _
    unfold DVs
    exact ⟨_, _, rfl, by unfold DV; rfl, dvs_bls K H bs⟩
theorem dv_bls {K : PySem.W.Frag} {H : Hp} {a : Addr} {bs : List Bool} (h : SqL K H a (bs.map V.bl)) : DV K H (.list (bs.map PyData.bool)) (.ref a) := by
  unfold DV
  exact ⟨a, _, rfl, h, dvs_bls K H bs⟩
theorem eqvAll_bls : ∀ vs ws : List Bool, PyData.eqvAll (vs.map PyData.bool) (ws.map PyData.bool) = decide (vs = ws)
  | [], [] => by simp [PyData.eqvAll]
  | [], _ :: _ => by simp [PyData.eqvAll]
  | _ :: _, [] => by simp [PyData.eqvAll]
  | a :: r, b :: t => by
    simp only [List.map_cons, PyData.eqvAll, PyData.eqv, eqvAll_bls r t]
    by_cases h : a = b <;> by_cases h' : r = t <;> simp [h, h']
theorem canLay_bls : ∀ ws : List Bool, PyData.canLayAll0 (ws.map PyData.bool) = true
  | [] => by simp [PyData.canLayAll0]
  | w :: ws => by
    simp only [List.map_cons, PyData.canLayAll0, PyData.canLay0, Bool.and_eq_true]
    exact ⟨trivial, canLay_bls ws⟩
theorem depth_bls : ∀ ws : List Bool, PyData.depthAll (ws.map PyData.bool) ≤ 1
  | [] => by simp [PyData.depthAll]
  | w :: ws => by
    have := depth_bls ws
    simp only [List.map_cons, PyData.depthAll, PyData.depth]
    omega
theorem shaped_bls (ws : List Bool) : SeqAt.shaped (.list (ws.map PyData.bool)) = true := by
  have h1 := depth_bls ws
  have h2 : PyData.depth (.list (ws.map PyData.bool)) ≤ 64 := by simp only [PyData.depth]; omega
  show (PyData.canLay0 (.list (ws.map PyData.bool)) && decide (PyData.depth (.list (ws.map PyData.bool)) ≤ 64)) = true
  rw [Bool.and_eq_true]
  exact ⟨by simp only [PyData.canLay0]; exact canLay_bls ws, decide_eq_true h2⟩
theorem eqv_bls (ws : List Bool) : PyData.eqv (.list (ws.map PyData.bool)) (.list (ws.map PyData.bool)) = true := by
  show PyData.eqvAll _ _ = true
  rw [eqvAll_bls]; exact decide_eq_true rfl
theorem eqv_strs (ws : List Str) : PyData.eqv (.list (ws.map PyData.str)) (.list (ws.map PyData.str)) = true := by
  show PyData.eqvAll _ _ = true
  rw [eqvAll_strs]; exact decide_eq_true rfl
end L2

namespace L2
open PySem PySem.Spec PyProof.Rows

/-! ### any, all of a list of truths -/
theorem any_get (bs : List Bool) : (List.range bs.length).any (fun i => bs.getD i false) = bs.any id := by
  have e : (List.range bs.length).map (fun i => bs.getD i false) = bs := by
    apply List.ext_getElem
    · simp
    · intro i h1 h2; simp [h2]
  calc _ = ((List.range bs.length).map (fun i => bs.getD i false)).any id := by rw [List.any_map]; rfl
    _ = _ := by rw [e]
theorem all_get (bs : List Bool) : (List.range bs.length).all (fun i => bs.getD i false) = bs.all id := by
  have e : (List.range bs.length).map (fun i => bs.getD i false) = bs := by
    apply List.ext_getElem
    · simp
    · intro i h1 h2; simp [h2]
  calc _ = ((List.range bs.length).map (fun i => bs.getD i false)).all id := by rw [List.all_map]; rfl
    _ = _ := by rw [e]
theorem vals_bls : ∀ {bs : List Bool} {us : List Value}, Vals (bs.map V.bl) us → us = bs.map Value.bool
  | [], _, .nil => rfl
  | b :: bs, _, .cons r t => by
    cases r
    rw [vals_bls t]; rfl
section
variable {X : Cx}
theorem call_any (hc : X.calm = true) : CallR X (.builtin "any") (fun xs H Q => ∃ (p : Addr) (bs : List Bool), xs = [.ref p] ∧ SqL X.K H p (bs.map V.bl) ∧ Q (.bl (bs.any id)) H) := by
  intro pins s σ H xs us Q I r h
  obtain ⟨p, bs, rfl, hq, q⟩ := h
  obtain ⟨u, rfl, rx⟩ := vals1 r
  cases rx
  obtain ⟨its, rv, pl, hz⟩ := I.list hq
  obtain rfl := vals_bls rv
  refine call_any_walk (wpAny_pyIter_list pl.isList ?_)
  obtain ⟨o, n, e, _⟩ := id pl
  have hlt : p < s.heap.objs.size := Heap.lt_size e
  refine ⟨s.heap.objs.size, _, _, _, _, _, fun i => bs.getD i false, rfl, Walks.list (A := X.A.in1) (show X.A.in1.handled = none from I.ok.hd hc) s.heap.objs.size p (Nat.ne_of_lt hlt) (bs.map Value.bool).toArray, ⟨⟨_, Heap.get?_push_size _ rfl, rfl, rfl⟩, pl.isList.at fun o e => Heap.get?_push_of_some _ e⟩, ?_, fun h' tk kk => ?_⟩
  · intro i v s' Q' E' hv q'
    have hv' : v = Value.bool (bs.getD i false) := by
      have h2 : (bs.map Value.bool)[i]? = some v := by simpa using hv
      rw [List.getElem?_map] at h2
      cases hb : bs[i]? with
      | none => rw [hb] at h2; cases h2
      | some b =>
        rw [hb] at h2
        rw [List.getD_eq_getElem?_getD, hb]
        exact (Option.some.inj h2).symm
    rw [hv']
    exact wpAny_truthy_bool q'
  · have I1 : Inv X pins σ H { s with heap := h', toks := tk } := I.kept fun b o e => kk b o (by simp; exact Nat.ne_of_lt (Heap.lt_size e)) (Heap.get?_push_of_some _ e)
    refine ⟨.bl _, H, I1, rfl, ?_⟩
    have e1 : (bs.map Value.bool).toArray.size = bs.length := by simp
    rw [e1, any_get]
    exact q
theorem call_all (hc : X.calm = true) : CallR X (.builtin "all") (fun xs H Q => ∃ (p : Addr) (bs : List Bool), xs = [.ref p] ∧ SqL X.K H p (bs.map V.bl) ∧ Q (.bl (bs.all id)) H) := by
  intro pins s σ H xs us Q I r h
  obtain ⟨p, bs, rfl, hq, q⟩ := h
  obtain ⟨u, rfl, rx⟩ := vals1 r
  cases rx
  obtain ⟨its, rv, pl, hz⟩ := I.list hq
  obtain rfl := vals_bls rv
  refine call_all_walk (wpAny_pyIter_list pl.isList ?_)
  obtain ⟨o, n, e, _⟩ := id pl
  have hlt : p < s.heap.objs.size := Heap.lt_size e
  refine ⟨s.heap.objs.size, _, _, _, _, _, fun i => bs.getD i false, rfl, Walks.list (A := X.A.in1) (show X.A.in1.handled = none from I.ok.hd hc) s.heap.objs.size p (Nat.ne_of_lt hlt) (bs.map Value.bool).toArray, ⟨⟨_, Heap.get?_push_size _ rfl, rfl, rfl⟩, pl.isList.at fun o e => Heap.get?_push_of_some _ e⟩, ?_, fun h' tk kk => ?_⟩
  · intro i v s' Q' E' hv q'
    have hv' : v = Value.bool (bs.getD i false) := by
      have h2 : (bs.map Value.bool)[i]? = some v := by simpa using hv
      rw [List.getElem?_map] at h2
      cases hb : bs[i]? with
      | none => rw [hb] at h2; cases h2
      | some b =>
        rw [hb] at h2
        rw [List.getD_eq_getElem?_getD, hb]
        exact (Option.some.inj h2).symm
    rw [hv']
    exact wpAny_truthy_bool q'
  · have I1 : Inv X pins σ H { s with heap := h', toks := tk } := I.kept fun b o e => kk b o (by simp; exact Nat.ne_of_lt (Heap.lt_size e)) (Heap.get?_push_of_some _ e)
    refine ⟨.bl _, H, I1, rfl, ?_⟩
    have e1 : (bs.map Value.bool).toArray.size = bs.length := by simp
    rw [e1, all_get]
    exact q
end

/-! ### isinstance, at a named table of kinds (within a comprehension the context is bound) -/
theorem call_isiK {X : Cx} {K : PySem.W.Frag} (e : X.K = K) : CallR X (.builtin "isinstance") (fun xs H Q => ∃ x c t b, xs = [x, c] ∧ isC c = true ∧ TyOf K H x t ∧ PySem.W.kitOne K t (clsV c) = some b ∧ Q (.bl b) H) := by
  subst e
  exact call_isi
end L2

namespace L2
open PySem PySem.Spec PyProof.Rows

/-! ### an exception that flies: its object, its newest entry of the way it came -/
def XMark (X : Cx) (pins : List (Addr × Obj)) (H : Hp) (h : Heap) (e : Addr) (vs : Array Value) : Option Value → Prop
  | none => vs[1]? = some .none
  | some m => ∃ (T : Addr) (oT : Obj) (ts : Array Value), vs[1]? = some (.ref T) ∧ T ≠ e ∧ FpOk X pins H T ∧ h.get? T = some oT ∧ oT.data = .fields ts ∧ ts[3]? = some m
/-- at e: an exception of the class cls, its own dict at xd (if any), marked m -/
structure XAt (X : Cx) (pins : List (Addr × Obj)) (H : Hp) (h : Heap) (e : Addr) (cls : Value) (xd : Option Addr) (m : Option Value) : Prop where
  ok : FpOk X pins H e
  ex : ∃ (sl : Array (Option Value)) (vs : Array Value), h.get? e = some ⟨cls, xd, .fields vs, sl⟩ ∧ 1 < vs.size ∧ XMark X pins H h e vs m
def MOk (_ : Cx) (m : Option Value) : Prop := m = none ∨ m = some .none ∨ ∃ v, m = some v
/-- an exception has left an expression: the names are as they were -/
def XP (X : Cx) (pins : List (Addr × Obj)) (σ : St) (E : XK) (e : Value) (s' : Shared) : Prop :=
  ∃ (ea : Addr) (cls : Value) (xd : Option Addr) (m : Option Value) (H' : Hp), e = .ref ea ∧ Inv X pins σ H' s' ∧ XAt X pins H' s'.heap ea cls xd m ∧ MOk X m ∧ E cls xd H'
abbrev SXK := St → XK
/-- .. a statement: some names may have been stored -/
def XPS (X : Cx) (pins : List (Addr × Obj)) (E : SXK) (e : Value) (s' : Shared) : Prop := ∃ σ', XP X pins σ' (E σ') e s'
/-- the frame of a def's body -/
structure Fr1 (X : Cx) : Prop where
  stk : X.stack = X.env :: X.outer
  fr : X.env.frame = some X.env.locals

section
variable {X : Cx} {pins : List (Addr × Obj)} {σ : St} {H H' : Hp} {s : Shared} {e : Addr} {cls : Value} {xd : Option Addr} {m : Option Value}
theorem FpOk.nstk {b : Addr} (I : Inv X pins σ H s) (f : FpOk X pins H' b) : b ∉ frs X.stack := fun z => by
  rcases List.mem_cons.mp (I.stkSub b z) with q | q
  · exact f.2.1 q
  · exact f.2.2.1 q
theorem FpOk.drop {pl : List (Addr × Obj)} {b : Addr} (f : FpOk X (pins ++ pl) H b) : FpOk X pins H b :=
  ⟨f.1, f.2.1, f.2.2.1, f.2.2.2.1, f.2.2.2.2.1, fun p hp => f.2.2.2.2.2 p ((List.mem_append.mp hp).elim (fun z => List.mem_append_left _ z) fun z => List.mem_append_right _ (List.mem_append_left _ z))⟩
theorem FpOk.clear {b : Addr} (f : FpOk X pins H b) : FpOk X [] H b :=
  ⟨f.1, f.2.1, f.2.2.1, f.2.2.2.1, f.2.2.2.2.1, fun p hp => f.2.2.2.2.2 p ((List.mem_append.mp hp).elim (fun z => List.mem_append_left _ z) fun z => nomatch z)⟩
theorem XAt.drop {pl : List (Addr × Obj)} {h : Heap} (x : XAt X (pins ++ pl) H h e cls xd m) : XAt X pins H h e cls xd m := by
  obtain ⟨ok, sl, vs, he, hz, hm⟩ := x
  refine ⟨ok.drop, sl, vs, he, hz, ?_⟩
  cases m with
  | none => exact hm
  | some m => obtain ⟨T, oT, ts, a, b, c, d⟩ := hm; exact ⟨T, oT, ts, a, b, c.drop, d⟩
theorem XAt.clear {h : Heap} (x : XAt X pins H h e cls xd m) : XAt X [] H h e cls xd m := by
  obtain ⟨ok, sl, vs, he, hz, hm⟩ := x
  refine ⟨ok.clear, sl, vs, he, hz, ?_⟩
  cases m with
  | none => exact hm
  | some m => obtain ⟨T, oT, ts, a, b, c, d⟩ := hm; exact ⟨T, oT, ts, a, b, c.clear, d⟩
theorem XP.drop {pl : List (Addr × Obj)} {E : XK} {v : Value} (x : XP X (pins ++ pl) σ E v s) : XP X pins σ E v s := by
  obtain ⟨ea, cls, xd, m, H', rfl, I, hx, hm, q⟩ := x
  exact ⟨ea, cls, xd, m, H', rfl, I.unpinned, hx.drop, hm, q⟩
theorem Inv.nopins (I : Inv X pins σ H s) : Inv X [] σ H s := I.pins_of fun p hp => nomatch hp

/-- what is tracked is kept where only the frames' slots, one record and new objects differ -/
theorem rec_un {h' : Heap} (I : Inv X pins σ H s) (he : FpOk X pins H e) (k1 : ∀ b o, b ∉ frs X.stack → b ≠ e → s.heap.get? b = some o → h'.get? b = some o)
    (k2 : ∀ b o, b ≠ e → s.heap.get? b = some o → ∃ sl, h'.get? b = some { o with slots := sl }) : Un (frs X.stack) [e] H H s.heap h' ∧ HOk X.prog X.w H h' := by
  refine ⟨⟨fun b o q _ hb hx => k1 b o hb (by simpa using hx) q, fun b o q _ _ hx => k2 b o (by simpa using hx) q, fun b o _ n _ => n, fun b o q hx => ?_, fun _ _ q => q, fun _ _ _ q => q, fun _ ps q => ⟨#[], by rw [q]; simp⟩⟩, fun a o q => ?_⟩
  · obtain ⟨sl, z⟩ := k2 b o (by simpa using hx) q
    exact ⟨_, z⟩
  · refine (I.hok a o q).stay (fun b u hb r => k1 b u (fun z => ?_) (fun z => ?_) r) (fun _ z => z) (fun _ _ z => z)
    · have n := I.stkFree b z
      rcases hb with rfl | hb
      · rw [q] at n; cases n
      · rw [hb] at n; cases n
    · have n := he.1
      rw [← z] at n
      rcases hb with rfl | hb
      · rw [q] at n; cases n
      · rw [hb] at n; cases n
theorem rec_inv {h' : Heap} (I : Inv X pins σ H s) (he : FpOk X pins H e) (k1 : ∀ b o, b ∉ frs X.stack → b ≠ e → s.heap.get? b = some o → h'.get? b = some o)
    (k2 : ∀ b o, b ≠ e → s.heap.get? b = some o → ∃ sl, h'.get? b = some { o with slots := sl }) : Inv X pins σ H { s with heap := h' } := by
  obtain ⟨u, ok⟩ := rec_un I he k1 k2
  refine I.call (g' := s.gens) (t' := s.toks) (d' := s.drawn) u ok I.bare fun b hb => ?_
  obtain rfl : b = e := by simpa using hb
  exact ⟨he.2.2.2.1, he.2.1, he.2.2.2.2.1, he.2.2.2.2.2⟩

/-- the entry of this frame is written -/
theorem entry_x {M : Model} {A : Around} {E : Value → Shared → Prop} {head : Value} {hadNext : Bool} {sl : Array (Option Value)} {vs : Array Value} {Q : Unit → Shared → Prop} (F : Fr1 X) (hA : A.frames = some X.stack) (I : Inv X pins σ H s) (ok : FpOk X pins H e)
    (he : s.heap.get? e = some ⟨cls, xd, .fields vs, sl⟩) (hz : 1 < vs.size) (h : ∀ s', Inv X pins σ H s' → XAt X pins H s'.heap e cls xd (some (rawInt X.env.locals)) → Q () s') :
    wpAny M A (do let a ← frameOf X.env; let pl ← entryPlaceOf X.env.locals hadNext; let b ← EntryCells.newEntry head a .none (rawInt X.env.locals) .none pl; setField (.ref e) 1 b) Q E s := by
  have nE : e ∉ frs X.stack := ok.nstk I
  have fs := I.stack
  rw [F.stk] at hA fs nE
  refine wpAny_bind (wpAny_frameOf_fun hA fs F.fr fun h₁ so => ?_)
  refine wpAny_bind (wpAny_entryPlaceOf fun pl hpl => ?_)
  unfold EntryCells.newEntry newFields
  refine wpAny_bind (wpAny_newObj_type ?_ (hpl.sizeOk5 _ _ _ _ _))
  generalize ht : ([head, .ref X.env.locals, .none, rawInt X.env.locals, .none] ++ (if pl.isEmpty then List.replicate 6 Value.none else pl)).toArray = ts
  have t3 : ts[3]? = some (rawInt X.env.locals) := by rw [← ht]; simp
  have e1 : h₁.get? e = some ⟨cls, xd, .fields vs, sl⟩ := (so.2.1 e nE).trans he
  have e2 := Heap.get?_push_of_some (h := h₁) { cls := .type "traceback", dict := none, data := .fields ts } e1
  refine wpAny_setField e2 rfl hz ?_
  have sz : h₁.objs.size = s.heap.objs.size := so.1
  have nT : h₁.objs.size ≠ e := Nat.ne_of_gt (Heap.lt_size e1)
  have k0 : ∀ b o, b ≠ e → h₁.get? b = some o → ((h₁.push { cls := .type "traceback", dict := none, data := .fields ts }).update e (Obj.mapFields (·.setIfInBounds 1 (Value.ref h₁.objs.size)))).get? b = some o := fun b o hb q =>
    (Heap.get?_update_other _ _ (Ne.symm hb)).trans (Heap.get?_push_of_some _ q)
  have I' := rec_inv (h' := (h₁.push { cls := .type "traceback", dict := none, data := .fields ts }).update e (Obj.mapFields (·.setIfInBounds 1 (Value.ref h₁.objs.size)))) I ok
    (fun b o hb hbe q => k0 b o hbe ((so.2.1 b (by rw [← F.stk]; exact hb)).trans q)) (fun b o hbe q => by obtain ⟨sl, z⟩ := so.2.2 b o q; exact ⟨sl, k0 b _ hbe z⟩)
  have fT : FpOk X pins H h₁.objs.size := I.fpOk (by rw [sz]; exact Nat.le_refl _) (by rw [sz]; exact I.fresh)
  have gE : ((h₁.push { cls := .type "traceback", dict := none, data := .fields ts }).update e (Obj.mapFields (·.setIfInBounds 1 (Value.ref h₁.objs.size)))).get? e = some ⟨cls, xd, .fields (vs.setIfInBounds 1 (Value.ref h₁.objs.size)), sl⟩ :=
    Heap.get?_update_self (Obj.mapFields (·.setIfInBounds 1 (Value.ref h₁.objs.size))) e2 rfl
  have gT : ((h₁.push { cls := .type "traceback", dict := none, data := .fields ts }).update e (Obj.mapFields (·.setIfInBounds 1 (Value.ref h₁.objs.size)))).get? h₁.objs.size = some { cls := .type "traceback", dict := none, data := .fields ts } :=
    (Heap.get?_update_other _ _ (Ne.symm nT)).trans (Heap.get?_push_size h₁ rfl)
  exact h _ I' ⟨ok, sl, _, gE, by simpa using hz, h₁.objs.size, _, ts, by simp [hz], nT, fT, gT, rfl, t3⟩
/-- the mark of the newest entry is set -/
theorem flight_x {M : Model} {A : Around} {E : Value → Shared → Prop} {f : Option Addr} {mv : Value} {Q : Unit → Shared → Prop} (I : Inv X pins σ H s) (x : XAt X pins H s.heap e cls xd (some mv))
    (h : ∀ s', Inv X pins σ H s' → XAt X pins H s'.heap e cls xd (some (f.elim .none fun b => rawInt b)) → Q () s') : wpAny M A (setFlight (.ref e) f) Q E s := by
  obtain ⟨ok, sl, vs, he, hz, T, oT, ts, h1, nT, fT, hT, hd, h3⟩ := x
  unfold setFlight
  refine wpAny_bind (wpAny_field he rfl h1 ?_)
  rw [if_pos (show (Value.ref T != Value.none) = true by simp)]
  have z3 : 3 < ts.size := (Array.getElem?_eq_some_iff.mp h3).1
  refine wpAny_setField hT hd z3 ?_
  have other : ∀ b, b ≠ T → (s.heap.update T (Obj.mapFields (·.setIfInBounds 3 (f.elim Value.none fun b => rawInt b)))).get? b = s.heap.get? b := fun b hb => Heap.get?_update_other _ _ (Ne.symm hb)
  have I' := I.turned (t' := s.toks) (h' := s.heap.update T (Obj.mapFields (·.setIfInBounds 3 (f.elim Value.none fun b => rawInt b)))) (fun b o hb q => (other b hb).trans q) fT.1 fT.2.1 fT.2.2.2.1 fT.2.2.2.2.1 fT.2.2.2.2.2
  exact h _ I' ⟨ok, sl, vs, (other e (Ne.symm nT)).trans he, hz, T, _, _, h1, nT, fT, Heap.get?_update_self _ hT (Obj.isFreed_of_fields (Obj.data_mapFields hd _)), Obj.data_mapFields hd _, by simp [z3]⟩
/-- this frame is noted -/
theorem note_x {M : Model} {A : Around} {E : Value → Shared → Prop} {Q : Unit → Shared → Prop} (F : Fr1 X) (hA : A.frames = some X.stack) (I : Inv X pins σ H s) (x : XAt X pins H s.heap e cls xd m) (hm : MOk X m)
    (h : ∀ s', Inv X pins σ H s' → XAt X pins H s'.heap e cls xd (some (rawInt X.env.locals)) → Q () s') : wpAny M A (noteFrame (.ref e) X.env) Q E s := by
  obtain ⟨ok, sl, vs, he, hz, hv⟩ := x
  unfold noteFrame
  simp only [F.fr]
  cases m with
  | none =>
    refine wpAny_bind (wpAny_field he rfl hv ?_)
    rw [if_neg (by decide)]
    exact entry_x F hA I ok he hz h
  | some mv =>
    obtain ⟨T, oT, ts, h1, nT, fT, hT, hd, h3⟩ := hv
    refine wpAny_bind (wpAny_field he rfl h1 ?_)
    rw [if_pos (show (Value.ref T != Value.none) = true by simp)]
    refine wpAny_bind (wpAny_field hT hd h3 ?_)
    by_cases hmv : mv = rawInt X.env.locals
    · subst hmv
      rw [if_pos (show (rawInt X.env.locals == rawInt X.env.locals) = true by simp)]
      exact wpAny_pure (h s I ⟨ok, sl, vs, he, hz, T, oT, ts, h1, nT, fT, hT, hd, h3⟩)
    · rw [if_neg (show ¬ (mv == rawInt X.env.locals) = true from fun z => hmv (beq_iff_eq.mp z))]
      have z3 : 3 < ts.size := (Array.getElem?_eq_some_iff.mp h3).1
      refine wpAny_bind (wpAny_setField hT hd z3 ?_)
      have other : ∀ b, b ≠ T → (s.heap.update T (Obj.mapFields (·.setIfInBounds 3 Value.none))).get? b = s.heap.get? b := fun b hb => Heap.get?_update_other _ _ (Ne.symm hb)
      have I' := I.turned (t' := s.toks) (h' := s.heap.update T (Obj.mapFields (·.setIfInBounds 3 Value.none))) (fun b o hb q => (other b hb).trans q) fT.1 fT.2.1 fT.2.2.2.1 fT.2.2.2.2.1 fT.2.2.2.2.2
      exact entry_x F hA I' ok ((other e (Ne.symm nT)).trans he) hz h
/-- an exception passes a loop of its own frame -/
theorem passes_x {E : SXK} (F : Fr1 X) (fr : X.A.frames = some X.stack) : PassesOwn (model X.prog X.w) X.A X.env (XPS X pins E) := by
  rintro v s' ⟨σ', ea, cls, xd, m, H', rfl, I, hx, hm, q⟩
  refine note_x F fr I hx hm fun s1 I1 x1 => ?_
  unfold cameBackBy
  obtain ⟨ok, sl, vs, he, hz, T, oT, ts, h1, r⟩ := id x1
  refine wpAny_bind (wpAny_field he rfl h1 ?_)
  rw [if_neg (show ¬ ((Value.ref T == Value.none) = true) by simp)]
  have step : wpAny (model X.prog X.w) X.A (setFlight (.ref ea) X.env.frame) (fun _ s'' => XPS X pins E (.ref ea) s'') (XPS X pins E) s1 :=
    flight_x I1 x1 fun s2 I2 x2 => ⟨σ', ea, cls, xd, _, H', rfl, I2, x2, by rw [F.fr]; exact .inr (.inr ⟨_, rfl⟩), q⟩
  first
    | exact step
    | exact wpAny_bind (wpAny_pure step)
end

/-! ### how an exception lies behind a call -/
abbrev CXX (P : Program) (w : World) : CXT := fun outer H s E e s' => ∃ (ea T : Addr) (cls : Value) (xd : Option Addr) (H' : Hp), e = .ref ea ∧ s'.os = s.os ∧ AllBare s'.gens ∧ Un (frs outer) [] H H' s.heap s'.heap ∧ HOk P w H' s'.heap ∧
  (H' ea = none ∧ s.heap.objs.size ≤ ea) ∧ (H' T = none ∧ s.heap.objs.size ≤ T) ∧ T ≠ ea ∧
  (∃ (sl : Array (Option Value)) (vs : Array Value) (oT : Obj) (ts : Array Value), s'.heap.get? ea = some ⟨cls, xd, .fields vs, sl⟩ ∧ 1 < vs.size ∧ vs[1]? = some (.ref T) ∧ s'.heap.get? T = some oT ∧ oT.data = .fields ts ∧ ts[3]? = some .none) ∧ E cls xd H'
section
variable {X : Cx} {pins : List (Addr × Obj)} {σ : St} {H : Hp} {s s' : Shared}
theorem cxx_xp {E : XK} {e : Value} (I : Inv X pins σ H s) (h : CXX X.prog X.w X.stack H s E e s') : XP X pins σ E e s' := by
  obtain ⟨ea, T, cls, xd, H', rfl, os, bare, un, hok, ⟨e1, e2⟩, ⟨t1, t2⟩, ne, ⟨sl, vs, oT, ts, g1, g2, g3, g4, g5, g6⟩, q⟩ := h
  have I' : Inv X pins σ H' s' := I.call' (ch := []) os un hok bare fun b z => absurd z (by simp)
  exact ⟨ea, cls, xd, some .none, H', rfl, I', ⟨I.fpOk e2 e1, sl, vs, g1, g2, T, oT, ts, g3, ne, I.fpOk t2 t1, g4, g5, g6⟩, .inr (.inl rfl), q⟩
theorem passX0 : Passes (CXX X.prog X.w) X E0 := fun _ _ _ _ _ _ _ ⟨_, _, _, _, _, _, _, _, _, _, _, _, _, _, z⟩ => z.elim
end
section
variable {P : Program} {w : World} {K : PySem.W.Frag} {mg : Str → Option Value} {base : Heap} {k : Nat} {f : Addr} {fd : FuncData} {ps : List Str} {sp : Sp}
/-- a def that lets no exception out -/
theorem FnOk.calm (F : FnOk P w K mg base (CXX P w) k f fd ps sp) (h : ∀ vs H Q E, sp vs H Q E → sp vs H Q E0) : FnOk P w K mg base CX0 k f fd ps sp := by
  refine ⟨F.len, fun A outer s H args us vs Q E hr he hb hv hs => codeAny_mono (F.run A outer s H args us vs Q E0 hr he hb hv (h _ _ _ _ hs)) fun r s' q => ?_⟩
  cases r with
  | error e => obtain ⟨_, _, _, _, _, _, _, _, _, _, _, _, _, _, z⟩ := q; exact z.elim
  | ok fl => cases fl <;> exact q
theorem FnOk.wild (F : FnOk P w K mg base CX0 k f fd ps sp) : FnOk P w K mg base (CXX P w) k f fd ps sp := by
  refine ⟨F.len, fun A outer s H args us vs Q E hr he hb hv hs => codeAny_mono (F.run A outer s H args us vs Q E hr he hb hv hs) fun r s' q => ?_⟩
  cases r with
  | error e => exact q.elim
  | ok fl => cases fl <;> exact q
/-- an exception leaves a def's body -/
theorem leave_x {N : List Str} {qual : Str} {scope : Scope} {cd : Value} {A : Around} {outer : List Env} {s s' : Shared} {H : Hp} {E : XK} {e : Value} {pins : List (Addr × Obj)}
    (h : XPS (cxOf (CXX P w) P w K mg base N qual scope f cd A outer s H E) pins (fun _ => E) e s') : (cxOf (CXX P w) P w K mg base N qual scope f cd A outer s H E).xe e s' := by
  obtain ⟨σ', ea, cls, xd, m, H', rfl, I, hx, hm, q⟩ := h
  have fr : (cxOf (CXX P w) P w K mg base N qual scope f cd A outer s H E).A.frames = some (cxOf (CXX P w) P w K mg base N qual scope f cd A outer s H E).stack := I.ok.frames
  have F1 : Fr1 (cxOf (CXX P w) P w K mg base N qual scope f cd A outer s H E) := ⟨rfl, rfl⟩
  show wpAny _ _ (leaving (cxOf (CXX P w) P w K mg base N qual scope f cd A outer s H E).env (.ref ea)) _ _ s'
  unfold leaving
  refine wpAny_bind (note_x F1 fr I hx hm fun s1 I1 x1 => flight_x I1 x1 fun s2 I2 x2 => ?_)
  obtain ⟨ok, sl, vs, he, hz, T, oT, ts, h1, nT, fT, hT, hd, h3⟩ := x2
  have old : ∀ {b : Addr}, FpOk (cxOf (CXX P w) P w K mg base N qual scope f cd A outer s H E) pins H' b → s.heap.objs.size ≤ b := fun {b} z => by
    rcases z.2.2.2.1 with y | y
    · exact absurd (show b ∈ ([] : List Addr) from y) (by simp)
    · exact y
  exact ⟨ea, T, cls, xd, H', rfl, I2.os, I2.bare, I2.base, I2.hok, ⟨ok.1, old ok⟩, ⟨fT.1, old fT⟩, nT, ⟨sl, vs, oT, ts, he, hz, h1, hT, hd, h3⟩, q⟩
end

/-! ### the judgements with a wish about exceptions -/
abbrev TEX := St → Hp → VK → XK → Prop
abbrev TAX := St → Hp → (List V → Hp → Prop) → XK → Prop
abbrev TSX := Ends → SXK → St → Hp → Prop
def PEX (X : Cx) (e : Expr) (t : TEX) : Prop :=
  ∀ (pins : List (Addr × Obj)) (s : Shared) (σ : St) (H : Hp) (Q : VK) (E : XK), Inv X pins σ H s → t σ H Q E → wpAny (model X.prog X.w) X.A (eval e X.env) (EP X pins σ Q) (XP X pins σ E) s
def PAX (X : Cx) (es : List Expr) (t : TAX) : Prop :=
  ∀ (pos : Pos) (pins : List (Addr × Obj)) (s : Shared) (σ : St) (H : Hp) (Q : List V → Hp → Prop) (E : XK), Inv X pins σ H s → t σ H Q E → wpAny (model X.prog X.w) X.A (spliced (backTo pos (starEach es X.env))) (AP X pins σ Q) (XP X pins σ E) s
def PSX (X : Cx) (st : Stmt) (t : TSX) : Prop :=
  ∀ (pins : List (Addr × Obj)) (s : Shared) (σ : St) (H : Hp) (D : Ends) (E : SXK), Inv X pins σ H s → t D E σ H → wpAny (model X.prog X.w) X.A (exec st X.env) (SP X pins D) (XPS X pins E) s
def PSXs (X : Cx) (st : List Stmt) (t : TSX) : Prop :=
  ∀ (pins : List (Addr × Obj)) (s : Shared) (σ : St) (H : Hp) (D : Ends) (E : SXK), Inv X pins σ H s → t D E σ H → wpAny (model X.prog X.w) X.A (execs st X.env) (SP X pins D) (XPS X pins E) s
section
variable {X : Cx} {e : Expr} {es : List Expr} {st : Stmt} {sts : List Stmt} {te : TE} {ta : TA} {ts : TS} {pos : Pos}
theorem EP.unwish {pins : List (Addr × Obj)} {σ : St} {Q : VK} {u : Value} {s' : Shared} {W : Value → Shared → Prop} (h : EP (X.wish W) pins σ Q u s') : EP X pins σ Q u s' := by
  obtain ⟨v, H', I, r, q⟩ := h; exact ⟨v, H', I.unwish, r, q⟩
/-- what raises nothing -/
theorem px (h : PE X.nox e te) : PEX X e (fun σ H Q _ => te σ H Q) := fun pins s σ H Q _ I hw =>
  wpAny_mono (h pins s σ H Q (I.wish _) hw) (fun _ _ q => q.unwish) fun _ _ z => False.elim z
theorem pax (h : PA X.nox es ta) : PAX X es (fun σ H Q _ => ta σ H Q) := fun pos pins s σ H Q _ I hw =>
  wpAny_mono (h pos pins s σ H Q (I.wish _) hw) (fun _ _ ⟨vs, H', I', r, q⟩ => ⟨vs, H', I'.unwish, r, q⟩) fun _ _ z => False.elim z
theorem psx (h : PS X.nox st ts) : PSX X st (fun D _ σ H => ts D σ H) := fun pins s σ H D _ I hw =>
  wpAny_mono (h pins s σ H D (I.wish _) hw) (fun _ _ q => q.unwish) fun _ _ z => False.elim z
theorem psxs (h : PSs X.nox sts ts) : PSXs X sts (fun D _ σ H => ts D σ H) := fun pins s σ H D _ I hw =>
  wpAny_mono (h pins s σ H D (I.wish _) hw) (fun _ _ q => q.unwish) fun _ _ z => False.elim z
theorem pax_nil : PAX X [] (fun _ H Q _ => Q [] H) := fun _ _ _ _ H Q _ I h => Calls.spliced_nil ⟨[], H, I, .nil, h⟩
theorem pax_cons {t1 : TEX} {t2 : TAX} (ha : PEX X e t1) (hr : PAX X es t2) (hs : starEach (e :: es) X.env = (false, eval e X.env) :: starEach es X.env := by rfl) :
    PAX X (e :: es) (fun σ H Q E => t1 σ H (fun x H1 => t2 σ H1 (fun xs H2 => Q (x :: xs) H2) E) E) := by
  intro pos pins s σ H Q E I h
  rw [hs]
  refine Calls.spliced_cons (wpAny_mono (ha pins s σ H _ E I h) (fun u s1 ⟨x, H1, I1, r1, q1⟩ => ?_) fun _ _ z => z)
  exact wpAny_mono (hr pos pins s1 σ H1 _ E I1 q1) (fun us s2 ⟨xs, H2, I2, r2, q2⟩ => ⟨x :: xs, H2, I2, .cons r1 r2, q2⟩) fun _ _ z => z
/-! blocks -/
theorem psxs_nil : PSXs X [] (fun D _ σ H => D.nx σ H) := fun _ _ σ H _ _ I h => wpAny_execs_nil ⟨σ, H, I, h⟩
theorem psxs_cons {t1 t2 : TSX} (h1 : PSX X st t1) (h2 : PSXs X sts t2) : PSXs X (st :: sts) (fun D E σ H => t1 { D with nx := t2 D E } E σ H) := by
  intro pins s σ H D E I h
  refine wpAny_execs_cons (thn (h1 pins s σ H { D with nx := t2 D E } E I h) fun f s1 q => ?_)
  cases f with
  | next =>
    obtain ⟨σ', H', I', q⟩ := q
    exact h2 pins s1 σ' H' D E I' q
  | ret v => exact q
  | brk => exact q
  | cont => exact q
theorem psxs_one {t1 : TSX} (h1 : PSX X st t1) : PSXs X [st] t1 := by
  intro pins s σ H D E I h
  refine wpAny_execs_cons (thn (h1 pins s σ H D E I h) fun f s1 q => ?_)
  cases f with
  | next => exact wpAny_execs_nil q
  | ret v => exact q
  | brk => exact q
  | cont => exact q
theorem psx_if {c : Expr} {a b : List Stmt} {tc : TT} {t1 t2 : TSX} (hc : PT X.nox c tc) (ha : PSXs X a t1) (hb : PSXs X b t2) : PSX X (.If c a b pos) (fun D E σ H => tc σ H fun d H1 => if d = true then t1 D E σ H1 else t2 D E σ H1) := by
  intro pins s σ H D E I h
  refine wpAny_If (wpAny_mono (hc pins s σ H _ (I.wish _) h) (fun d s1 ⟨H1, I1, q1⟩ => ?_) fun _ _ z => False.elim z)
  cases d with
  | true => exact ha pins s1 σ H1 D E I1.unwish q1
  | false => exact hb pins s1 σ H1 D E I1.unwish q1
theorem psx_expr {t : TEX} (he : PEX X e t) (hs : swapsWith e none pos.line X.env = pure false := by rfl) : PSX X (.Expr e pos) (fun D E σ H => t σ H (fun _ H1 => D.nx σ H1) (E σ)) := by
  intro pins s σ H D E I h
  exact wpAny_Expr_any (wpAny_mono (he pins s σ H _ _ I h) (fun v s1 ⟨x, H1, I1, r1, q1⟩ => ⟨σ, H1, I1, q1⟩) fun _ _ z => ⟨σ, z⟩) I.quiet hs
theorem psx_ret {t : TEX} (he : PEX X e t) : PSX X (.Return (some e) pos) (fun D E σ H => t σ H D.rt (E σ)) := by
  intro pins s σ H D E I h
  exact wpAny_Return_some (wpAny_mono (he pins s σ H _ _ I h) (fun v s1 ⟨x, H1, I1, r1, q1⟩ => ⟨x, σ, H1, I1, r1, q1⟩) fun _ _ z => ⟨σ, z⟩)
theorem psx_set {i : Nat} {x : Str} {t : TEX} {pos' : Pos} (hN : X.N.Nodup) (hi : X.N[i]? = some x) (hx : Loc X.env.scope x) (he : PEX X e t) (hs : swapsWith e (some (.Name x pos')) pos.line X.env = pure false := by rfl) (hf : X.fn x = true ∨ X.env.scope.names.lookup x = some .local := by first | exact .inl rfl | exact .inr rfl | assumption) :
    PSX X (.Assign [.Name x pos'] e pos) (fun D E σ H => t σ H (fun v H1 => D.nx (σ.set i (some v)) H1) (E σ)) := by
  intro pins s σ H D E I h
  refine wpAny_Assign_Name (wpAny_mono (he pins s σ H _ _ I h) (fun v s1 ⟨y, H1, I1, r1, q1⟩ => ?_) fun _ _ z => ⟨σ, z⟩) hs
  exact store_ok I1 hN hi hx r1 (fun s2 I2 => ⟨_, H1, I2, q1⟩) hf
theorem psx_asg {tg : Expr} {t : TEX} {g : TG} (he : PEX X e t) (hg : PG X.nox tg g) (hs : swapsWithSole [tg] e pos.line X.env = pure false := by rfl) (hw : swappedStores [tg] e X.env = pure none := by rfl)
    (h1 : (assignEach [tg] X.env).map (·.2) = [assign tg X.env] := by rfl) : PSX X (.Assign [tg] e pos) (fun D E σ H => t σ H (fun v H1 => g v σ H1 D.nx) (E σ)) := by
  intro pins s σ H D E I h
  refine wpAny_Assign_stores (wpAny_mono (he pins s σ H _ _ I h) (fun v s1 ⟨x, H1, I1, r1, q1⟩ => ?_) fun _ _ z => ⟨σ, z⟩) hs hw
  rw [h1]
  exact wpAny_mono (hg pins s1 σ H1 x v _ (I1.wish _) r1 q1) (fun _ s2 ⟨σ', H', I', q⟩ => ⟨σ', H', I'.unwish, q⟩) fun _ _ z => False.elim z
end
/-! calls -/
section
variable {X : Cx} {k : Nat} {f C : Addr} {fd : FuncData} {ps : List Str} {sp : Sp} {x m : Str} {p pos apos : Pos} {e o : Expr} {es : List Expr} {t : TAX}
theorem run_fnX {pins : List (Addr × Obj)} {σ : St} {H : Hp} {s : Shared} {Q : VK} {E : XK} {us : List Value} {vs : List V} (F : FnOk X.prog X.w X.K X.mg X.base (CXX X.prog X.w) k f fd ps sp) (hr : Room k X.A) (hb : Binds X.K fd ps [])
    (I : Inv X pins σ H s) (r : Vals vs us) (h : sp vs H Q E) : wpAny (model X.prog X.w) X.A (call (.ref f) us) (EP X pins σ Q) (XP X pins σ E) s := by
  have hl : (us ++ []).length = ps.length := by rw [List.append_nil, ← r.length]; exact F.len _ _ _ _ h
  have b := hb s us I.kIn hl
  rw [List.append_nil] at b
  refine wpAny_call (codeAny_mono (F.run X.A X.stack s H ⟨us, []⟩ us vs Q E hr I.env0 b r h) fun r s' hq => ?_)
  cases r with
  | error e => exact cxx_xp I hq
  | ok fl =>
    cases fl with
    | ret u => exact I.after hq
    | next => exact False.elim hq
    | brk => exact False.elim hq
    | cont => exact False.elim hq
theorem pe_callX (F : FnOk X.prog X.w X.K X.mg X.base (CXX X.prog X.w) k f fd ps sp) (hr : Room k X.A) (hg : Gl X x) (hm : X.mg x = some (.ref f)) (hk : PySem.W.keepIn X.K (.ref f) = true) (hb : Binds X.K fd ps []) (ha : PAX X (e :: es) t)
    (hdb : (x == ("__debug__" : Str)) = false := by decide) (he : starEach (e :: es) X.env = (false, eval e X.env) :: starEach es X.env := by rfl) (hpl : (backTo pos (starEach es X.env)).any (·.1) = false := by rfl) :
    PEX X (.Call (.Name x p) (e :: es) [] pos) (fun σ H Q E => t σ H (fun vs H1 => sp vs H1 Q E) E) := by
  intro pins s σ H Q E I h
  refine wpAny_Call_Name_kw (ld_glob I hg hm ?_ hdb)
  exact PySem.W.callWith_K (h₀ := X.base) I.ok.mod.kin hk (thn (ha pos pins s σ H _ E I h) fun us s1 ⟨vs, H1, I1, r, q⟩ => ⟨I1.kIn, run_fnX F hr hb I1 r q⟩) he hpl
theorem pe_call0X (F : FnOk X.prog X.w X.K X.mg X.base (CXX X.prog X.w) k f fd ps sp) (hr : Room k X.A) (hg : Gl X x) (hm : X.mg x = some (.ref f)) (hk : PySem.W.keepIn X.K (.ref f) = true) (hb : Binds X.K fd ps [])
    (hdb : (x == ("__debug__" : Str)) = false := by decide) : PEX X (.Call (.Name x p) [] [] pos) (fun _ H Q E => sp [] H Q E) := by
  intro pins s σ H Q E I h
  refine wpAny_Call_Name_kw (ld_glob I hg hm ?_ hdb)
  exact PySem.W.callWith_K0 I.kIn hk (run_fnX F hr hb I .nil h)
theorem pe_methX {pl : Sem Bool} {ta : TEX} (he : PEX X o ta) (c : Cls X.K C) (hm : Meth X.K C m f) (F : FnOk X.prog X.w X.K X.mg X.base (CXX X.prog X.w) k f fd ps sp) (hr : Room k X.A) (hb : Binds X.K fd ps []) (ha : PAX X (e :: es) t)
    (hst : starEach (e :: es) X.env = (false, eval e X.env) :: starEach es X.env := by rfl) (hpl : (backTo pos (starEach es X.env)).any (·.1) = false := by rfl)
    (ht : eval (.Call (.Attribute o m apos) (e :: es) [] pos) X.env = (do
      let ov ← eval o X.env
      standAt apos.atName
      let (f, first) ← holding [ov] (getMethod ov m pl)
      callWith pos f first (backTo pos (starEach (e :: es) X.env)) (backToKw pos (keywordEach [] X.env))) := by rfl) :
    PEX X (.Call (.Attribute o m apos) (e :: es) [] pos) (fun σ H Q E => ta σ H (fun x H1 => ∃ a dx fs, x = .ref a ∧ H1 a = some (.ins C dx fs) ∧ fs.lookup m = none ∧ t σ H1 (fun vs H2 => sp (x :: vs) H2 Q E) E) E) := by
  intro pins s σ H Q E I h
  refine PySem.W.methodCall_KW (pl := pl) (thn (he pins s σ H _ E I h) fun u s1 ⟨x, H1, I1, rx, a, dx, fs, ex, ea, l, q⟩ => ?_) ht
  subst ex
  obtain rfl : u = Value.ref a := rx
  refine getmeth_ok I1 ea c hm l ?_
  exact PySem.W.callWith_K (first := [.ref a]) (h₀ := X.base) I.ok.mod.kin hm.kp (thn (ha pos pins s1 σ H1 _ E I1 q) fun us s2 ⟨vs, H2, I2, r, q2⟩ => ⟨I2.kIn, run_fnX (us := .ref a :: us) (vs := .ref a :: vs) F hr hb I2 (.cons rfl r) q2⟩) hst hpl
theorem pe_meth0X {pl : Sem Bool} {ta : TEX} (he : PEX X o ta) (c : Cls X.K C) (hm : Meth X.K C m f) (F : FnOk X.prog X.w X.K X.mg X.base (CXX X.prog X.w) k f fd ps sp) (hr : Room k X.A) (hb : Binds X.K fd ps [])
    (ht : eval (.Call (.Attribute o m apos) [] [] pos) X.env = (do
      let ov ← eval o X.env
      standAt apos.atName
      let (f, first) ← holding [ov] (getMethod ov m pl)
      callWith pos f first (backTo pos (starEach [] X.env)) (backToKw pos (keywordEach [] X.env))) := by rfl) :
    PEX X (.Call (.Attribute o m apos) [] [] pos) (fun σ H Q E => ta σ H (fun x H1 => ∃ a dx fs, x = .ref a ∧ H1 a = some (.ins C dx fs) ∧ fs.lookup m = none ∧ sp [x] H1 Q E) E) := by
  intro pins s σ H Q E I h
  refine PySem.W.methodCall_KW (pl := pl) (thn (he pins s σ H _ E I h) fun u s1 ⟨x, H1, I1, rx, a, dx, fs, ex, ea, l, q⟩ => ?_) ht
  subst ex
  obtain rfl : u = Value.ref a := rx
  refine getmeth_ok I1 ea c hm l ?_
  exact PySem.W.callWith_K0 (first := [.ref a]) I1.kIn hm.kp (run_fnX (us := [.ref a]) (vs := [.ref a]) F hr hb I1 (.cons rfl .nil) q)
end
/-! a def by its body -/
section
variable {P : Program} {w : World} {K : PySem.W.Frag} {mg : Str → Option Value} {base : Heap}
theorem Fun.okX {x qual : Str} {st : Stmt} {f : Addr} {fd : FuncData} {N ps : List Str} {k : Nat} {sp : Sp} (F : Fun K x qual st f fd) (S : FnScope N ps (defScope st)) (len : ∀ vs H Q E, sp vs H Q E → vs.length = ps.length)
    (hbody : ∀ (cdv : Value) (A : Around) (outer : List Env) (s : Shared) (H : Hp) (vs : List V) (Q : VK) (E : XK), Room k (A.deeper (envOfC qual (defScope st) s.heap.objs.size f cdv)) → sp vs H Q E →
      ∃ t, PSXs (cxOf (CXX P w) P w K mg base N qual (defScope st) f cdv A outer s H E) (defBody st) t ∧ t { nx := fun _ H' => Q .non H', rt := Q } (fun _ => E) (start N vs) H) : FnOk P w K mg base (CXX P w) (k + 1) f fd ps sp := by
  obtain ⟨oc, od, kV, doc, pm, an, cdv, ct, osl, rfl, lk, hcd⟩ := F.ex
  refine fn_of lk hcd S len fun A outer s H vs Q E hr hsp => ?_
  obtain ⟨t, h, q⟩ := hbody cdv A outer s H vs Q E hr hsp
  exact ⟨fun D σ H => t D (fun _ => E) σ H, fun pins s1 σ H1 D I hw => wpAny_mono (h pins s1 σ H1 D _ I hw) (fun _ _ z => z) fun _ _ z => leave_x z, q⟩
end
end L2

namespace L2
open PySem PySem.Spec PyProof.Rows

/-! ### a caught exception as a tracked thing -/
def xo (a : Addr) (cls : Value) (xd : Option Addr) : HO := .ext fun h => ∃ (sl : Array (Option Value)) (vs : Array Value), h.get? a = some ⟨cls, xd, .fields vs, sl⟩
/-- within an except suite -/
abbrev hcx (X : Cx) (e : Addr) : Cx := { X with A := X.A.mark (some (.ref e)), calm := false, xe := fun _ _ => False }
section
variable {X : Cx} {pins : List (Addr × Obj)} {σ : St} {H : Hp} {s : Shared} {e : Addr} {cls : Value} {xd : Option Addr} {m : Option Value}
theorem hcx_in (I : Inv X pins σ H s) (e : Addr) : Inv (hcx X e) pins σ H s :=
  ⟨⟨I.ok.mod, I.ok.kind, I.ok.glob, I.ok.blt, I.ok.above, I.ok.inj, I.ok.has, I.ok.cab, fun z => absurd (show false = true from z) Bool.false_ne_true, I.ok.frames, I.ok.stk, I.ok.exf, I.ok.bs, I.ok.bsz, I.ok.noex, I.ok.exfs, I.ok.funs, I.ok.frf⟩, I.os, I.bare, I.base, I.loc, I.cell, I.free, I.freeC, I.pin, I.hok, I.len⟩
theorem hcx_out (ok : X.Ok) (I : Inv (hcx X e) pins σ H s) : Inv X pins σ H s := ⟨ok, I.os, I.bare, I.base, I.loc, I.cell, I.free, I.freeC, I.pin, I.hok, I.len⟩
theorem track_x (I : Inv X pins σ H s) (x : XAt X pins H s.heap e cls xd m) : Inv X pins σ (upd H e (xo e cls xd)) s := by
  obtain ⟨ok, sl, vs, he, hz, _⟩ := x
  have nb : ∀ b u, H b = some u → b ≠ e := fun b u q z => by rw [z, ok.1] at q; cases q
  have hk : HOk X.prog X.w (upd H e (xo e cls xd)) s.heap := fun b u q => by
    by_cases hb : b = e
    · subst hb
      rw [upd_same] at q
      cases q
      exact ⟨⟨sl, vs, he⟩, ⟨_, he⟩, fun h1 h2 ⟨sl', vs', z⟩ k => ⟨sl', vs', k _ z⟩⟩
    · rw [upd_ne hb] at q
      exact (I.hok b u q).stay (fun c v _ r => r) (fun c r => by rw [upd_ne (nb c _ r)]; exact r) fun c xs r => by rw [upd_ne (nb c _ r)]; exact r
  exact I.step (g' := s.gens) (t' := s.toks) (d' := s.drawn) (h' := s.heap) (ch := [e]) (fun b hb => by
      obtain rfl : b = e := by simpa using hb
      exact ⟨ok.2.2.2.1, ok.2.1, ok.2.2.2.2.1, ok.2.2.2.2.2⟩)
    (fun _ _ _ _ _ q _ => q) (fun b o _ _ _ q _ => ⟨o.slots, q⟩) (fun b o hb _ n => by rw [upd_ne (by simpa using hb)]; exact n) (fun b o _ q => ⟨o, q⟩)
    (fun b xs q => by rw [upd_ne (nb b _ q)]; exact q) (fun b o u q => by rw [upd_ne (nb b _ q)]; exact q) (fun b ps q => ⟨#[], by rw [upd_ne (nb b _ q), q]; simp⟩) (fun _ q => q) hk I.bare
/-- a local name is set to None and goes -/
theorem goes_x {M : Model} {A : Around} {E : Value → Shared → Prop} {n : Str} {i : Nat} {pos : Pos} {Q : Unit → Shared → Prop} (I : Inv X pins σ H s) (hN : X.N.Nodup) (hi : X.N[i]? = some n) (hl : X.env.kindOf n = some .local)
    (h : ∀ s', Inv X pins (σ.set i none) H s' → Q () s') : wpAny M A (do bindName X.env n .none; unbindBehindTheSuite X.env n pos) Q E s := by
  obtain ⟨mm, hn, hloc⟩ := I.loc
  refine wpAny_nameGoes_keeps hl hn (by rw [I.ok.kind]; rfl) fun h' v hn' sb => h _ ?_
  have ol : ∃ o, s.heap.get? X.env.locals = some o ∧ H X.env.locals = none := by obtain ⟨o, _, _, ho, _⟩ := hn; exact ⟨o, ho, I.free⟩
  have keep : ∀ b o, b ≠ X.env.locals → s.heap.get? b = some o → h'.get? b = some o := fun b o hb q => (sb.2 b hb).trans q
  have below : ∀ {b : Addr} {o : Obj}, X.s₀.heap.get? b = some o → b ≠ X.env.locals := fun {b o} q => Nat.ne_of_lt (Nat.lt_of_lt_of_le (Heap.lt_size q) I.ok.above)
  refine ⟨I.ok, I.os, I.bare, ⟨fun b o q nn hb hx => keep b o (below q) (I.base.keep b o q nn hb hx), fun b o q nn hb hx => ?_, I.base.free, fun b o q hx => ?_, I.base.tups, I.base.frzs, I.base.tbls⟩, ⟨_, hn', fun j y w e1 e2 e3 => ?_⟩, fun y c ec => ?_, I.free, I.freeC, fun p hp => ?_, fun b u q => ?_, by rw [List.length_set]; exact I.len⟩
  · obtain ⟨sl, z⟩ := I.base.slot b o q nn hb hx
    exact ⟨sl, keep b _ (below q) z⟩
  · obtain ⟨o', z⟩ := I.base.there b o q hx
    exact ⟨o', keep b _ (below q) z⟩
  · have hj : j ≠ i := fun z => by
      subst z
      by_cases hlt : j < σ.length
      · rw [List.getElem?_set_self hlt] at e2; cases e2
      · rw [List.getElem?_eq_none_iff.mpr (by rw [List.length_set]; omega)] at e2; cases e2
    rw [List.getElem?_set_ne (Ne.symm hj)] at e2
    obtain ⟨u, r, q⟩ := hloc j y w e1 e2 e3
    refine ⟨u, r, ?_⟩
    rcases q with ⟨k, z⟩ | ⟨k, c, z, hc⟩
    · have : y ≠ n := fun z => hj (nodup_ix hN e1 (z ▸ hi))
      exact .inl ⟨k, by simp only [this, if_false]; exact z⟩
    · obtain ⟨o, ho, hd⟩ := hc
      exact .inr ⟨k, c, z, o, keep c o (I.cne y c z) ho, hd⟩
  · obtain ⟨v', o, ho, hd⟩ := I.cell y c ec
    exact ⟨v', o, keep c o (I.cne y c ec) ho, hd⟩
  · obtain ⟨a1, a2, a3, a4, a5⟩ := I.pin p hp
    exact ⟨keep p.1 p.2 a3 a1, a2, a3, a4, a5⟩
  · refine (I.hok b u q).stay (fun c v hc r => keep c v (fun z => ?_) r) (fun _ z => z) fun _ _ z => z
    have fr := I.free
    rw [← z] at fr
    rcases hc with rfl | hc
    · rw [q] at fr; cases fr
    · rw [hc] at fr; cases fr
end

/-! ### handlers -/
abbrev THX := Ends → SXK → St → XK
def PHX (X : Cx) (hs : List ExceptHandler) (t : THX) : Prop :=
  ∀ (pins : List (Addr × Obj)) (s : Shared) (σ : St) (H : Hp) (D : Ends) (E : SXK) (ea : Addr) (cls : Value) (xd : Option Addr), Inv X pins σ H s → XAt X pins H s.heap ea cls xd (some .none) → t D E σ cls xd H →
    wpAny (model X.prog X.w) X.A (handleBy (.ref ea) X.env hs) (SP X pins D) (XPS X pins E) s
section
variable {X : Cx} {x n : Str} {C : Addr} {np pos : Pos} {b₀ : Stmt} {suite : List Stmt} {rest : List ExceptHandler} {ts : TS} {tr : THX}
theorem phx_nil (F : Fr1 X) : PHX X [] (fun _ E σ cls xd H => E σ cls xd H) := by
  intro pins s σ H D E ea cls xd I hx h
  refine wpAny_handleBy_nil ?_
  unfold PySem.passOn
  obtain ⟨ok, sl, vs, he, hz, T, oT, ts, h1, r⟩ := id hx
  refine wpAny_bind (wpAny_field he rfl h1 ?_)
  rw [if_neg (show ¬ ((Value.ref T == Value.none) = true) by simp)]
  have step : wpAny (model X.prog X.w) X.A (do setFlight (.ref ea) X.env.frame; throw (.ref ea) : Sem Flow) (SP X pins D) (XPS X pins E) s :=
    wpAny_bind (flight_x I hx fun s2 I2 x2 => wpAny_throw ⟨σ, ea, cls, xd, _, H, rfl, I2, x2, by rw [F.fr]; exact .inr (.inr ⟨_, rfl⟩), h⟩)
  first
    | exact step
    | exact wpAny_bind (wpAny_pure step)
theorem hit_x {pins : List (Addr × Obj)} {s : Shared} {σ : St} {H : Hp} {ea : Addr} {cls : Value} {xd : Option Addr} {b : Bool} {E : Value → Shared → Prop} {R : Bool → Shared → Prop} (I : Inv X pins σ H s) (hx : XAt X pins H s.heap ea cls xd (some .none))
    (hg : Gl X x) (hm : X.mg x = some (.ref C)) (eb : PySem.W.exmOne X.K cls (.ref C) = some b) (h : R b s) (hd : (x == ("__debug__" : Str)) = false := by decide) :
    wpAny (model X.prog X.w) (X.A.mark (some (.ref ea))) (eval (.Name x np) X.env) (fun c s₁ => wpAny (model X.prog X.w) (X.A.mark (some (.ref ea))) (excMatches (.ref ea) c) R E s₁) E s := by
  obtain ⟨_, sl, vs, he, _⟩ := hx
  refine ld_glob (hcx_in I ea) hg hm ?_ hd
  have lt : PySem.W.Looks (model X.prog X.w) s.heap (typeOf (.ref ea)) cls := (PySem.W.Looks.ld he).andThen .now
  exact PySem.W.exm_one I.kIn lt eb _ _ _ s (fun _ _ q => q) h
/-- except C: -/
theorem phx_bare (hg : Gl X x) (hm : X.mg x = some (.ref C)) (hs : ∀ e, PSs (hcx X e) (b₀ :: suite) ts) (hr : PHX X rest tr) (hd : (x == ("__debug__" : Str)) = false := by decide) :
    PHX X (.ExceptHandler (some (.Name x np)) none (b₀ :: suite) pos :: rest) (fun D E σ cls xd H => ∃ b, PySem.W.exmOne X.K cls (.ref C) = some b ∧ if b = true then ts D σ H else tr D E σ cls xd H) := by
  intro pins s σ H D E ea cls xd I hx h
  obtain ⟨b, eb, h⟩ := h
  refine wpAny_handleBy_cons (codeAny_handlers_test (hit_x I hx hg hm eb ?_ hd)) (by intro q; cases q)
  cases b with
  | true =>
    refine codeAny_handlers_suite (flight_x I hx fun s1 I1 x1 => ?_)
    refine wpAny_mono (hs ea pins s1 σ H D (hcx_in I1 ea) h) (fun f s2 q => ?_) fun _ _ z => False.elim z
    cases f with
    | next => obtain ⟨σ', H', I', q⟩ := q; exact ⟨σ', H', hcx_out I.ok I', q⟩
    | brk => obtain ⟨σ', H', I', q⟩ := q; exact ⟨σ', H', hcx_out I.ok I', q⟩
    | cont => obtain ⟨σ', H', I', q⟩ := q; exact ⟨σ', H', hcx_out I.ok I', q⟩
    | ret u => obtain ⟨v, σ', H', I', r, q⟩ := q; exact ⟨v, σ', H', hcx_out I.ok I', r, q⟩
  | false => exact hr pins s σ H D E ea cls xd I hx h
/-- except C as n: -/
def goEnds (D : Ends) (i : Nat) : Ends := { nx := fun σ H => D.nx (σ.set i none) H, rt := D.rt, bk := fun σ H => D.bk (σ.set i none) H, ct := fun σ H => D.ct (σ.set i none) H }
theorem phx_as {i : Nat} (hN : X.N.Nodup) (hi : X.N[i]? = some n) (hl : X.env.scope.names.lookup n = some .local) (hg : Gl X x) (hm : X.mg x = some (.ref C)) (hs : ∀ e, PSs (hcx X e) (b₀ :: suite) ts) (hr : PHX X rest tr) (hd : (x == ("__debug__" : Str)) = false := by decide) :
    PHX X (.ExceptHandler (some (.Name x np)) (some n) (b₀ :: suite) pos :: rest) (fun D E σ cls xd H => ∃ b, PySem.W.exmOne X.K cls (.ref C) = some b ∧ if b = true then ∀ ea, H ea = none → ts (goEnds D i) (σ.set i (some (.ref ea))) (upd H ea (xo ea cls xd)) else tr D E σ cls xd H) := by
  intro pins s σ H D E ea cls xd I hx h
  obtain ⟨b, eb, h⟩ := h
  refine wpAny_handleBy_cons (codeAny_handlers_test (hit_x I hx hg hm eb ?_ hd)) (by intro q; cases q)
  cases b with
  | true =>
    refine codeAny_handlers_suite_as (flight_x I hx fun s1 I1 x1 => ?_)
    refine store_ok (X := hcx X ea) (v := .ref ea) (hcx_in (track_x I1 x1) ea) hN hi (.inl hl) rfl (fun s2 I2 => ?_) (.inr hl)
    refine wpAny_mono (hs ea pins s2 _ _ (goEnds D i) I2 (h ea hx.ok.1)) (fun f s3 q => ?_) fun _ _ z => False.elim z
    show wpAny _ _ _ _ _ _
    cases f with
    | next => obtain ⟨σ', H', I', q⟩ := q; exact goes_x (hcx_out I.ok I') hN hi hl fun s4 I4 => ⟨_, H', I4, q⟩
    | brk => obtain ⟨σ', H', I', q⟩ := q; exact goes_x (hcx_out I.ok I') hN hi hl fun s4 I4 => ⟨_, H', I4, q⟩
    | cont => obtain ⟨σ', H', I', q⟩ := q; exact goes_x (hcx_out I.ok I') hN hi hl fun s4 I4 => ⟨_, H', I4, q⟩
    | ret u => obtain ⟨v, σ', H', I', r, q⟩ := q; exact goes_x (hcx_out I.ok I') hN hi hl fun s4 I4 => ⟨v, _, H', I4, r, q⟩
  | false => exact hr pins s σ H D E ea cls xd I hx h
/-- try: body, handlers, no else -/
theorem psx_try {body : List Stmt} {h₀ : ExceptHandler} {hs : List ExceptHandler} {tb : TSX} {th : THX} (F : Fr1 X) (hb : PSXs X body tb) (hh : PHX X (h₀ :: hs) th) :
    PSX X (.Try body (h₀ :: hs) [] [] pos) (fun D E σ H => tb D (fun σ' cls xd H' => th D E σ' cls xd H') σ H) := by
  intro pins s σ H D E I h
  refine wpAny_Try_except (wpAny_mono (hb pins s σ H D _ I h) (fun f s1 q => ?_) (fun v s1 q => ?_))
  · cases f with
    | next => exact wpAny_execs_nil q
    | ret v => exact q
    | brk => exact q
    | cont => exact q
  · obtain ⟨σ', ea, cls, xd, m, H', rfl, I1, hx, hm, q⟩ := q
    exact note_x F I1.ok.frames I1 hx hm fun s2 I2 x2 => flight_x I2 x2 fun s3 I3 x3 => hh pins s3 σ' H' D E ea cls xd I3 x3 q
end

/-! ### for, its body may raise -/
def fixE (tb : TSX) (E : SXK) : TS := fun D σ H => tb D E σ H
section
variable {X : Cx} {tg : Expr}
theorem psx_for {iter : Expr} {body : List Stmt} {wi : TI} {g : TG} {tb : TSX} {pos : Pos} (F : Fr1 X) (hc : X.calm = true) (hi : PI X.nox tg iter wi) (hg : PG X.nox tg g) (hb : PSXs X body tb)
    (hs : ∀ x, foldedSetIterable iter X.env x = pure x := by intro _; rfl) : PSX X (.For tg iter body [] pos) (fun D E σ H => tFor wi g (fixE tb E) D σ H) := by
  intro pins s σ H D E I h
  refine wpAny_For (wpAny_mono (hi pins s σ H _ (I.wish _) h) (fun v s1 h1 => wpAny_mono h1 (fun itv s2 h2 => ?_) fun _ _ z => False.elim z) fun _ _ z => False.elim z) hs
  obtain ⟨it, fp, tn, J, H2, e, I2, T, st2, f2, W, ⟨m0, w0⟩, turn⟩ := h2
  subst e
  have hp : PassesOwn (model X.prog X.w) X.A X.env (XPS X pins E) := passes_x F I.ok.frames
  have stat : ∀ {H' : Hp}, (∀ b ∈ fp, H' b = none) → ∀ b ∈ fp, FpOk X pins H' b := fun hn b hb => ⟨hn b hb, (f2 b hb).2⟩
  refine codeAny_forLoop_any (fun n s' => ∃ i σ' H', Inv X pins σ' H' s' ∧ tn i s'.heap ∧ (∀ b ∈ fp, H' b = none) ∧ W i n σ' H') ?_ m0 ⟨0, σ, H2, I2.unwish, st2, fun b hb => (f2 b hb).1, w0⟩
  rintro n s3 ⟨i, σ3, H3, I3, st3, fr3, w3⟩
  rcases turn i n σ3 H3 w3 with ⟨stop, qn⟩ | ⟨go, N, hN, step⟩
  · refine wpAny_passesOwn hp (thn (T.done X rfl rfl rfl hc i pins s3 σ3 H3 (XPS X pins E) I3 (stat fr3) st3 stop) fun r s4 ⟨hr, I4⟩ => ?_)
    subst hr
    exact wpAny_execs_nil ⟨σ3, H3, I4, qn⟩
  · refine wpAny_passesOwn hp (thn (T.item X rfl rfl rfl hc i pins s3 σ3 H3 (XPS X pins E) I3 (stat fr3) st3 go) fun r s4 ⟨u, hr, h4⟩ => ?_)
    subst hr
    refine wpAny_passesOwn hp (thn h4 fun _ s5 ⟨x, H5, I5, r5, y5, st5, fr5⟩ => ?_)
    have I5' := I5.pinned (stat fr5) (T.obj _ _ st5)
    refine wpAny_passesOwn hp (wpAny_mono (hg _ s5 σ3 H5 x u _ (I5'.wish _) r5 (step x H5 y5)) (fun _ s6 ⟨σ6, H6, I6, q6⟩ => ?_) fun _ _ z => False.elim z)
    refine wpAny_passesOwn hp (wpAny_mono (hb _ s6 σ6 H6 _ E I6.unwish q6) (fun f s7 q7 => ?_) fun _ _ ⟨σ', z⟩ => ⟨σ', z.drop⟩)
    have again : ∀ {σ7 : St} {H7 : Hp}, Inv X (pins ++ pinsAt fp s5.heap) σ7 H7 s7 → N σ7 H7 → ∃ m, m < n ∧ ∃ i σ' H', Inv X pins σ' H' s7 ∧ tn i s7.heap ∧ (∀ b ∈ fp, H' b = none) ∧ W i m σ' H' := fun {σ7 H7} I7 n7 => by
      obtain ⟨m', hm, w7⟩ := hN σ7 H7 n7
      refine ⟨m', hm, i + 1, σ7, H7, I7.unpinned, T.keep _ _ _ st5 fun b hb o e => (I7.pin (b, o) (List.mem_append_right _ (List.mem_append_right _ (mem_pinsAt hb e)))).1, fun b hb => ?_, w7⟩
      obtain ⟨o, e, d⟩ := T.obj _ _ st5 b hb
      exact (I7.pin (b, o) (List.mem_append_right _ (List.mem_append_right _ (mem_pinsAt hb e)))).2.1
    cases f with
    | next => obtain ⟨σ7, H7, I7, n7⟩ := q7; exact again I7 n7
    | cont => obtain ⟨σ7, H7, I7, n7⟩ := q7; exact again I7 n7
    | brk => obtain ⟨σ7, H7, I7, q7⟩ := q7; exact ⟨σ7, H7, I7.unpinned, q7⟩
    | ret v => obtain ⟨x7, σ7, H7, I7, r7, q7⟩ := q7; exact ⟨x7, σ7, H7, I7.unpinned, r7, q7⟩
end

/-! ### an attribute read from an exception of an own class: BaseException.__getattribute__ -/
structure GaX (K : PySem.W.Frag) (C : Addr) : Prop where
  ga : PySem.W.findIn K (.ref C) "__getattribute__" = some (some (.builtin "BaseException.__getattribute__"))
  hk : PySem.W.findIn K (.ref C) "__getattr__" = some none
  mb : PySem.W.mroIn K C (.type "BaseException") = some true
theorem slot_bga : Slot "ValueError" "__getattribute__" "BaseException.__getattribute__" := F.attr_ValueError.ga
section
variable {prog : Program} {w : World} {A : Around} {E : Value → Shared → Prop} {s : Shared} {K : PySem.W.Frag} {x C : Addr} {ox : Obj} {od : Option Obj} {name : Str}
theorem gx_check {M : Model} {nameV : Value} {Q : Unit → Shared → Prop} (X : K.In s.heap) (I : PySem.W.InstAt s.heap x ox C od) (t : GaX K C) (hq : Q () s) :
    wpAny M A (checkBuiltinCall "BaseException.__getattribute__" ⟨[.ref x, nameV], []⟩) Q E s := by
  have hk : builtinKind "BaseException.__getattribute__" = some .slot := by decide +kernel
  have hsplit : splitId "BaseException.__getattribute__" = some ("BaseException", "__getattribute__") := by decide +kernel
  have L0 := I.type (M := M)
  have L1 := PySem.W.looks_mroIn (M := M) X t.mb
  have ha := F.args_bexc_ga (.ref x) nameV
  obtain ⟨hh, g, d, tt, os⟩ := s
  simp only [checkBuiltinCall, hk, hsplit]
  refine wpAny_bind ?_
  unfold isInstance
  refine wpAny_bind (L0.at (L1.at ?_))
  repeat (any_goals (first | assumption | wp_step))
/-- object.__getattribute__ in its name -/
def GaEnd (v : Value) (Q : Value → Shared → Prop) : Fin → Shared → Prop := fun fin s' => match fin with | .done (.ret u) => u = v ∧ Q u s' | _ => False
theorem gx_entry {tk : Tok} {v : Value} {Q : Fin → Shared → Prop} (X : K.In s.heap) (I : PySem.W.InstAt s.heap x ox C od) (hf : PySem.W.findObj K C od name = some (.value v)) (hq : Q (.done (.ret v)) s) :
    wpAny (model prog w) A (Builtin.«object.__getattribute__» ⟨[.ref x, .str name tk], []⟩) Q E s := by
  obtain ⟨hh, g, d, tt, os⟩ := s
  have L0 := I.type (M := model prog w)
  have L1 := PySem.W.looks_find (M := model prog w) X I hf
  unfold Builtin.«object.__getattribute__»
  refine wpAny_bind (wpAny_pure (wpAny_bind (wpAny_pure (wpAny_bind (L0.at (wpAny_bind (L1.at ?_)))))))
  exact wpAny_pure hq
theorem gx_entryB {tk : Tok} {g a : Value} {P : Value → Shared → Prop} (X : K.In s.heap) (I : PySem.W.InstAt s.heap x ox C od) (hf : PySem.W.findObj K C od name = some (.bind g a)) (h : wpAny (model prog w) A (call g [a, .ref x, .ref C]) P E s) :
    wpAny (model prog w) A (Builtin.«object.__getattribute__» ⟨[.ref x, .str name tk], []⟩) (fun fin s' => match fin with | .done (.ret v) => P v s' | _ => False) E s := by
  obtain ⟨hh, gg, d, tt, os⟩ := s
  have L0 := I.type (M := model prog w)
  have L1 := PySem.W.looks_find (M := model prog w) X I hf
  unfold Builtin.«object.__getattribute__»
  refine wpAny_bind (wpAny_pure (wpAny_bind (wpAny_pure (wpAny_bind (L0.at (wpAny_bind (L1.at ?_)))))))
  show wpAny _ _ (holding [a] (call g [a, .ref x, .ref C]) >>= ret) _ _ _
  exact wpAny_bind (wpAny_holding (wpAny_mono h (fun v s' z => wpAny_pure z) fun _ _ z => z))
/-- getAttrBy, the entry given -/
theorem gx_by {tk : Tok} {fill ex : Bool} {Q : Value → Shared → Prop} (X : K.In s.heap) (I : PySem.W.InstAt s.heap x ox C od) (t : GaX K C)
    (h : wpAny (model prog w) A.in1 (Builtin.«object.__getattribute__» ⟨[.ref x, .str name tk], []⟩) (fun fin s' => match fin with | .done (.ret v) => PySem.W.handedIn v = true ∧ Q v s' | _ => False) (fun _ _ => False) s) :
    wpAny (model prog w) A (getAttrBy (.ref x) (.str name tk) fill ex) Q E s := by
  obtain ⟨hh, g, d, tt, os⟩ := s
  have L0 := I.type (M := model prog w)
  have L1 := PySem.W.looks_findIn (M := model prog w) X t.ga
  have L2 := PySem.W.looks_findIn (M := model prog w) X t.hk
  unfold getAttrBy
  refine wpAny_holding (wpAny_bind (L0.at (wpAny_bind (L1.at ?_))))
  show wpAny _ _ (if (onTheHeap (Value.ref C) && Value.builtin "BaseException.__getattribute__" == Value.builtin "object.__getattribute__") = true then _ else getAttrByItsOwn _ _ _ _ _ _) _ _ _
  rw [if_neg (by rw [show (Value.builtin "BaseException.__getattribute__" == Value.builtin "object.__getattribute__") = false from by decide +kernel]; exact fun z => Bool.noConfusion z)]
  unfold getAttrByItsOwn hookBefore callGetattribute boundAndCalled
  refine wpAny_bind ?_
  show wpAny _ _ (typeLookup (.ref C) "__getattr__") _ _ _
  refine L2.at ?_
  refine wpAny_bind (wpAny_attempt (wpAny_holding ?_))
  rw [if_neg (by cases ex <;> decide)]
  refine wpAny_bind (wpAny_of_eq (slot_bga.bind _) ?_)
  show wpAny _ _ (call (.builtin "BaseException.__getattribute__") [.ref x, .str name tk]) _ _ _
  refine wpAny_call (codeAny_call_builtin slot_bga.plain F.entry_bexc_ga (gx_check X I t (wpAny_mono h (fun fin s' z => ?_) fun _ _ z => z.elim)))
  rcases fin with (_ | _ | _ | _) | _ <;> first | exact PySem.W.handed_on z.1 z.2 | exact z.elim
end

/-! ### isinstance of a caught exception -/
structure ExcTy (K : PySem.W.Frag) (C : Addr) : Prop where
  ga : GaX K C
  cd : (PySem.W.clsIn K C).isSome = true
  ha : PySem.W.findIn K (.ref C) "__class__" = some (some (.builtin "object.__class__"))
  hn : PySem.W.specialIn K (.builtin "object.__class__") "__get__" = some (some (.builtin "getset_descriptor.__get__"))
  htk : PySem.W.takesIn K (.builtin "object.__class__") = some true
  hm : PySem.W.mroIn K C (.type "object") = some true
theorem find_cls {K : PySem.W.Frag} {C : Addr} (t : ExcTy K C) (od : Option Obj) : PySem.W.findObj K C od "__class__" = some (.bind (.builtin "getset_descriptor.__get__") (.builtin "object.__class__")) := by
  obtain ⟨cd, hc⟩ := Option.isSome_iff_exists.mp t.cd
  unfold PySem.W.findObj
  rw [hc, Option.bind_some, t.ha, Option.bind_some]
  simp [t.hn, t.htk]
theorem kit_exc {K : PySem.W.Frag} {C x : Addr} {ox : Obj} {od : Option Obj} (t : ExcTy K C) : PySem.W.KitX K (.ref x) (.ref C) (fun h => PySem.W.InstAt h x ox C od) where
  ty := fun _ _ _ I => I.type
  it := fun _ _ X _ => by
    obtain ⟨cd, hc⟩ := Option.isSome_iff_exists.mp t.cd
    unfold PySem.W.clsIn at hc
    split at hc
    · rename_i ho
      exact fun A' Q' E' s' k q => by
        unfold isType loadHead
        exact wpAny_bind (wpAny_loadPart (k _ _ (X _ _ ho)) (wpAny_pure q))
    · cases hc
  ne := fun h tp dd its n sl X htp => by
    obtain ⟨cd, hc⟩ := Option.isSome_iff_exists.mp t.cd
    refine Bool.eq_false_iff.mpr fun q => ?_
    obtain rfl : C = tp := Value.ref.inj (beq_iff_eq.mp q)
    unfold PySem.W.clsIn at hc
    split at hc
    · rename_i ho
      cases (X _ _ ho).symm.trans htp
    · cases hc
  ca := fun {prog w A E Q s} X I k => by
    unfold getAttr? getAttrBy?
    refine wpAny_bind (wpAny_mkText (wpAny_bind (wpAny_attempt (gx_by (s := { s with toks := s.toks + 1 }) X I t.ga (wpAny_mono (gx_entryB (s := { s with toks := s.toks + 1 }) X I (find_cls t _) (P := fun v s' => v = .ref C ∧ s' = { s with toks := s.toks + 1 }) (E := fun _ _ => False)
      (wpAny_call (PySem.W.class_get (s := { s with toks := s.toks + 1 }) (ox := ox) X I t.hm ⟨rfl, rfl⟩))) (fun fin s' z => ?_) fun _ _ z => z)))))
    rcases fin with (_ | _ | _ | _) | _ <;> first | (obtain ⟨rfl, rfl⟩ := z; exact ⟨rfl, wpAny_pure k⟩) | exact z.elim
section
variable {X : Cx} {pins : List (Addr × Obj)} {σ : St} {H : Hp} {s : Shared}
theorem xo_inst {ea C : Addr} (I : Inv X pins σ H s) (h : H ea = some (xo ea (.ref C) none)) : ∃ ox, PySem.W.InstAt s.heap ea ox C none := by
  obtain ⟨⟨sl, vs, e⟩, _⟩ := (show ObjOk X.prog X.w H s.heap ea (xo ea (.ref C) none) from I.hok _ _ h)
  exact ⟨_, e, rfl, rfl, trivial⟩
/-- isinstance(e, c), e a caught exception without values of its own -/
theorem call_isiX : CallR X (.builtin "isinstance") (fun xs H Q => ∃ ea c C b, xs = [.ref ea, c] ∧ isC c = true ∧ H ea = some (xo ea (.ref C) none) ∧ ExcTy X.K C ∧ PySem.W.kitOne X.K (.ref C) (clsV c) = some b ∧ Q (.bl b) H) := by
  intro pins s σ H xs us Q I r h
  obtain ⟨ea, c, C, b, rfl, hc, hx, ty, e, q⟩ := h
  obtain ⟨u, w', rfl, rx, rc⟩ := vals2 r
  cases rx
  obtain ⟨ox, J⟩ := xo_inst I hx
  have fin : ∀ tk, EP X pins σ Q (.bool b) { s with toks := tk } := fun tk => ⟨.bl b, H, I.tok _, rfl, q⟩
  cases c with
  | ty n => cases rc; exact PySem.W.kia_one (kit_exc ty) I.kIn J e (fun z => nomatch z) fin
  | ref a => cases rc; exact PySem.W.kia_one (kit_exc ty) I.kIn J e (fun z => nomatch z) fin
  | _ => exact absurd (show false = true from hc) Bool.false_ne_true
theorem vals_cls : ∀ {cs : List V} {us : List Value}, Vals cs us → (∀ c ∈ cs, isC c = true) → us = cs.map clsV
  | [], _, .nil, _ => rfl
  | c :: cs, _, .cons r t, h => by
    have h1 := h c List.mem_cons_self
    rw [List.map_cons, vals_cls t fun c' hm => h c' (List.mem_cons_of_mem _ hm)]
    cases c with
    | ty n => cases r; rfl
    | ref a => cases r; rfl
    | _ => exact absurd (show false = true from h1) Bool.false_ne_true
/-- isinstance(e, (C1, .. )), the tuple made on the spot -/
theorem call_isiXT : CallR X (.builtin "isinstance") (fun xs H Q => ∃ ea tp C b, ∃ cs : List V, xs = [.ref ea, .ref tp] ∧ H tp = some (.tup cs) ∧ (∀ c ∈ cs, isC c = true) ∧ H ea = some (xo ea (.ref C) none) ∧ ExcTy X.K C ∧ PySem.W.kitAny X.K (.ref C) (cs.map clsV) = some b ∧ Q (.bl b) H) := by
  intro pins s σ H xs us Q I r h
  obtain ⟨ea, tp, C, b, cs, rfl, ht, hc, hx, ty, e, q⟩ := h
  obtain ⟨u, w', rfl, rx, rc⟩ := vals2 r
  cases rx
  cases rc
  obtain ⟨ox, J⟩ := xo_inst I hx
  obtain ⟨_, its, rv, ob, ho, hcl, n, hd⟩ := (show ObjOk X.prog X.w H s.heap tp (.tup cs) from I.hok _ _ ht)
  have hv : its = cs.map clsV := vals_cls rv hc
  rw [← hv] at e
  obtain ⟨c0, d0, dt0, sl0⟩ := ob
  obtain rfl : c0 = .type "tuple" := hcl
  obtain rfl : dt0 = .seq its.toArray n := hd
  exact PySem.W.kia_tup (kit_exc ty) I.kIn J ho e (fun z => nomatch z) fun tk => ⟨.bl b, H, I.tok _, rfl, q⟩
end
end L2

namespace L2
open PySem PySem.Spec PyProof.Rows

/-! ### making an exception of an own class that has no __init__ -/
section
variable {prog : Program} {w : World} {A : Around} {E : Value → Shared → Prop} {h : Heap} {g : Array GenState} {d : Drawn} {t : Nat} {os : OsState}
variable {nm q : Str} {C N : Addr} {bs bm bmB : List Value} {hdct : Bool} {sn : List Str} {sub : List Value} {ab : Bool} {col : Option Bool} {dd : Option Addr} {k0 k1 k2 k3 k5 : Option Value} {B nid iid : String}
/-- the tuple of its arguments, then itself -/
abbrev madeX (h : Heap) (C : Addr) (us : List Value) : Heap := (h.push { cls := .type "tuple", data := .seq us.toArray }).push ⟨.ref C, none, .fields #[.ref h.objs.size, .none, .none, .none, .bool false, .none], #[]⟩
theorem madeX_old {us : List Value} {b : Addr} {o : Obj} (e : h.get? b = some o) : (madeX h C us).get? b = some o := Heap.get?_push_of_some _ (Heap.get?_push_of_some _ e)
theorem madeX_at {us : List Value} : (madeX h C us).get? (h.objs.size + 1) = some ⟨.ref C, none, .fields #[.ref h.objs.size, .none, .none, .none, .bool false, .none], #[]⟩ := by
  have := Heap.get?_push_size (h.push { cls := .type "tuple", data := .seq us.toArray }) (o := ⟨.ref C, none, .fields #[.ref h.objs.size, .none, .none, .none, .bool false, .none], #[]⟩) rfl
  rwa [Heap.size_push] at this
theorem exc_plain0 (F : ExcBaseFacts B nid iid bmB) (T : OwnTail h bmB bm) {mN : Str → Option Value} {us : List Value} {Q : Fin → Shared → Prop}
    (kC : h.get? C = some (excClassObj nm q C N bs bm hdct sn sub ab col dd k0 k1 k2 k3 k5 nid)) (kN : h.Ns N mN) (kI : mN "__init__" = none) (hz : us.length ≤ sizeLine)
    (hq : ∀ h', (∀ b o, h.get? b = some o → h'.get? b = some o) → (∃ tp, h'.get? (h.objs.size + 1) = some ⟨.ref C, none, .fields #[.ref tp, .none, .none, .none, .bool false, .none], #[]⟩) → Q (.done (.ret (.ref (h.objs.size + 1)))) ⟨h', g, d, t, os⟩) :
    wpAny (model prog w) A (Builtin.«type.__call__» ⟨.ref C :: us, []⟩) Q E ⟨h, g, d, t, os⟩ := by
  repeat (first | with_reducible refine wpAny_loadPart_at kC ?_ | with_reducible refine wpAny_madeBy_exc kC ?_ | wp_step)
  refine codeAny_call_builtin_code (Code.quiet_builtin _ F.quiet) (wpAny_check_new_subT F T kC (codeAny_exc_new_subT F T kC ?_ hz))
  show wpAny _ _ _ _ _ _
  have kC1 : (madeX h C us).get? C = _ := madeX_old kC
  have kN1 : (madeX h C us).Ns N mN := kN.keeps fun b o e => madeX_old e
  have T1 : OwnTail (madeX h C us) bmB bm := T.keeps fun b o e => madeX_old e
  have kE := madeX_at (h := h) (C := C) (us := us)
  have self : (Value.ref C :: bm).contains (.ref C) = true := by simp
  unfold isInstance
  repeat (first | with_reducible refine wpAny_loadPart_at kE ?_ | (with_reducible refine wpAny_isSubtype_exc kC1 ?_; rw [self]) | wp_step)
  show wpAny _ _ (typeLookup (.ref C) _) _ _ _
  refine wpAny_typeLookup_tail kC1 kN1 T1 F.mroIs F.init.lookup ?_
  rw [kI]
  refine wpAny_holding (wpAny_bind (wpAny_of_eq (F.init.bind _) ?_))
  refine wpAny_bind (wpAny_call (codeAny_call_builtin F.init.plain F.initEntry (wpAny_check_init_subT F T1 kC1 kE rfl ?_)))
  wp_walk
  refine hq _ (fun b o e => ?_) ⟨h.objs.size + 2, ?_⟩
  · rw [Heap.get?_update_other _ _ (Nat.ne_of_gt (Nat.lt_succ_of_lt (Heap.lt_size e)))]
    exact Heap.get?_push_of_some _ (madeX_old e)
  · refine (Heap.get?_update_self _ (Heap.get?_push_of_some _ kE) rfl).trans ?_
    simp only [Heap.size_push]
    rfl
theorem exc_plain (F : ExcBaseFacts B nid iid bmB) (T : OwnTail h bmB bm) {mN : Str → Option Value} {us : List Value} {Q : Value → Shared → Prop}
    (kC : h.get? C = some (excClassObj nm q C N bs bm hdct sn sub ab col dd k0 k1 k2 k3 k5 nid)) (kN : h.Ns N mN) (kI : mN "__init__" = none) (hz : us.length ≤ sizeLine)
    (hq : ∀ h', (∀ b o, h.get? b = some o → h'.get? b = some o) → (∃ tp, h'.get? (h.objs.size + 1) = some ⟨.ref C, none, .fields #[.ref tp, .none, .none, .none, .bool false, .none], #[]⟩) → Q (.ref (h.objs.size + 1)) ⟨h', g, d, t, os⟩) :
    wpAny (model prog w) A (call (.ref C) us) Q E ⟨h, g, d, t, os⟩ := by
  have l1 := tc_lookup
  have l2 := tc_bind (.ref C)
  have ty : (⟨h, g, d, t, os⟩ : Shared).TypeIs (.ref C) "type" := ⟨_, kC, rfl⟩
  refine wpAny_call (codeAny_of_tree ?_)
  show wpAny _ _ (callAny (.ref C) _) _ _ _
  repeat (any_goals (first | assumption | with_reducible refine wpAny_loadPart_at kC ?_ | wp_step))
  refine ⟨rfl, codeAny_call_builtin_at (Code.quiet_builtin _ (by decide +kernel)) entry_typeCall (wpAny_check_type_call_sub kC (exc_plain0 F T kC kN kI hz fun h' k e => ?_))⟩
  exact hq h' k e
/-- raise of an exception object that flies nowhere yet -/
theorem raise_obj {M : Model} {env : Env} {s : Shared} {x : Sem Value} {Q : Flow → Shared → Prop} (hbase : bm.contains (.type "BaseException") = true) (hh : A.handled = none)
    (hx : wpAny M A x (fun v s₁ => ∃ (e : Addr) (xd : Option Addr) (a0 : Value) (sl : Array (Option Value)), v = .ref e ∧ s₁.heap.get? C = some (excClassObj nm q C N bs bm hdct sn sub ab col dd k0 k1 k2 k3 k5 nid) ∧
      s₁.heap.get? e = some ⟨.ref C, xd, .fields #[a0, .none, .none, .none, .bool false, .none], sl⟩ ∧ E (.ref e) s₁) E s) : wpAny M A (raiseStmt env (some x) none) Q E s := by
  have top : (Value.ref C :: bm).contains (.type "BaseException") = true := by rw [List.contains_cons, hbase, Bool.or_true]
  unfold raiseStmt
  refine wpAny_bind (wpAny_mono hx (fun v s₁ h₁ => ?_) fun _ _ z => z)
  obtain ⟨e, xd, a0, sl, rfl, kC, kE, fin⟩ := h₁
  obtain ⟨hp, g', d', tk, os'⟩ := s₁
  repeat (first | with_reducible refine wpAny_loadPart_at kE ?_ | with_reducible refine wpAny_loadPart_at kC ?_ | (with_reducible refine wpAny_isSubtype_exc kC ?_; rw [top]) | wp_step)
  exact wpAny_raiseNew_none hh fin
end

/-! ### of the text: a class under ValueError, through own ones -/
abbrev veMro : List Value := [.type "ValueError", .type "Exception", .type "BaseException", .type "object"]
def strKeys (es : Array DictEntry) : Bool := es.toList.all fun e => match e.key with | .str _ _ => true | _ => false
/-- a class's own names are texts; it has no __init__ -/
structure NoInit (K : PySem.W.Frag) (N : Addr) : Prop where
  ex : ∃ (c : Value) (dd : Option Addr) (es : Array DictEntry) (n : Nat) (sl : Array (Option Value)), K.lookup N = some ⟨c, dd, .dict es n, sl⟩ ∧ strKeys es = true
  no : PySem.W.nsIn K N "__init__" = some none
theorem NoInit.ns {K : PySem.W.Frag} {N : Addr} (x : NoInit K N) {h : Heap} (X : K.In h) : ∃ mN, h.Ns N mN ∧ mN "__init__" = none := by
  obtain ⟨⟨c, dd, es, n, sl, l, sk⟩, no⟩ := x
  have ns : h.Ns N (nsFind es) := ⟨_, es, n, X _ _ l, rfl, fun e he => by
    have z := List.all_eq_true.mp sk e (Array.mem_toList_iff.mpr he)
    cases hk : e.key with
    | str y t => exact ⟨y, t, rfl⟩
    | _ => rw [hk] at z; exact absurd z Bool.false_ne_true, fun _ => rfl⟩
  refine ⟨_, ns, ?_⟩
  unfold PySem.W.nsIn at no
  rw [l] at no
  dsimp only at no
  unfold nsFind findBy
  rw [← Array.find?_toList]
  cases hf : es.toList.find? (fun e => e.key.isStr "__init__") with
  | none => rfl
  | some e => rw [hf] at no; cases no
inductive OwnT (K : PySem.W.Frag) : List Value → Prop
  | base : OwnT K veMro
  | own {D : Addr} {c0 : Value} {dd : Option Addr} {cd : ClassData} {sl : Array (Option Value)} {tl : List Value} : K.lookup D = some ⟨c0, dd, .cls cd, sl⟩ → NoInit K cd.ns → OwnT K tl → OwnT K (.ref D :: tl)
theorem OwnT.tail {K : PySem.W.Frag} {bm : List Value} (x : OwnT K bm) {h : Heap} (X : K.In h) : OwnTail h veMro bm := by
  induction x with
  | base => exact .base
  | own l n _ ih =>
    obtain ⟨mA, a, b⟩ := n.ns X
    exact .own (X _ _ l) a b ih
/-- an own exception class without __init__ -/
structure ExcK (K : PySem.W.Frag) (C : Addr) : Prop where
  ex : ∃ (nm q : Str) (N : Addr) (bs bm : List Value) (hdct : Bool) (sn : List Str) (sub : List Value) (ab : Bool) (col : Option Bool) (dd : Option Addr) (k0 k1 k2 k3 k5 : Option Value),
    K.lookup C = some (excClassObj nm q C N bs bm hdct sn sub ab col dd k0 k1 k2 k3 k5 "ValueError.__new__") ∧ NoInit K N ∧ OwnT K bm
section
variable {X : Cx} {x : Str} {C : Addr} {np cpos pos : Pos} {e₀ : Expr} {rest : List Expr} {ta : TA}
/-- raise C(e, ..) -/
theorem psx_raise (ek : ExcK X.K C) (hc : X.calm = true) (hg : Gl X x) (hm : X.mg x = some (.ref C)) (ha : PA X.nox (e₀ :: rest) ta) (hdb : (x == ("__debug__" : Str)) = false := by decide)
    (he : starEach (e₀ :: rest) X.env = (false, eval e₀ X.env) :: starEach rest X.env := by rfl) (hpl : (backTo cpos (starEach rest X.env)).any (·.1) = false := by rfl) :
    PSX X (.Raise (some (.Call (.Name x np) (e₀ :: rest) [] cpos)) none pos) (fun _ E σ H => ta σ H fun vs H1 => vs.length ≤ sizeLine ∧ E σ (.ref C) none H1) := by
  intro pins s σ H D E I h
  obtain ⟨nm, q, N, bs, bm, hdct, sn, sub, ab, col, dd, k0, k1, k2, k3, k5, l, n, T⟩ := ek.ex
  have go : wpAny (model X.prog X.w) X.A (eval (.Call (.Name x np) (e₀ :: rest) [] cpos) X.env) (fun v s₁ => ∃ (e : Addr) (xd : Option Addr) (a0 : Value) (sl : Array (Option Value)), v = .ref e ∧ s₁.heap.get? C = some (excClassObj nm q C N bs bm hdct sn sub ab col dd k0 k1 k2 k3 k5 "ValueError.__new__") ∧
      s₁.heap.get? e = some ⟨.ref C, xd, .fields #[a0, .none, .none, .none, .bool false, .none], sl⟩ ∧ XPS X pins E (.ref e) s₁) (XPS X pins E) s := by
    refine wpAny_Call_Name_kw (ld_glob I hg hm ?_ hdb)
    unfold callWith
    rw [he]
    refine wpAny_bind (wpAny_holding (Calls.evalArgs_plain ?_))
    have ha' := ha cpos pins s σ H _ (I.wish _) h
    rw [show X.nox.env = X.env from rfl, he] at ha'
    refine wpAny_mono ha' (fun us s₁ ⟨vs, H1, I1, r, hz, q1⟩ => wpAny_bind (wpAny_standAt ?_)) fun _ _ z => False.elim z
    have I1' := I1.unwish
    have kC := I1'.kIn _ _ l
    obtain ⟨mN, kN, kI⟩ := n.ns I1'.kIn
    have T1 := T.tail I1'.kIn
    have pl : (backTo cpos ((false, eval e₀ X.env) :: starEach rest X.env)).any (·.1) = false := by
      show (false || (backTo cpos (starEach rest X.env)).any (·.1)) = false
      rw [hpl]; rfl
    obtain ⟨hp, g', d', tk, os'⟩ := s₁
    simp only [pl]
    refine wpAny_bind (wpAny_keeperOf_exc kC ?_)
    refine wpAny_bind (exc_plain (F := PySem.F.excBase_ValueError) T1 kC kN kI (by rw [List.nil_append, ← r.length]; exact hz) fun h' k ⟨tp, ke⟩ => wpAny_bind (wpAny_holding (wpAny_point (wpAny_pure ?_))))
    have I2 : Inv X pins σ H1 ⟨h', g', d', tk, os'⟩ := I1'.kept (t' := tk) k
    refine ⟨_, none, _, #[], rfl, k _ _ kC, ke, σ, _, _, none, none, H1, rfl, I2, ⟨I1'.fpOk (Nat.le_succ _) (I1'.hok.fresh (Nat.le_succ _)), _, _, ke, (by show 1 < 6; decide), rfl⟩, .inl rfl, q1⟩
  rw [arm_exec_Raise]
  have hb : bm.contains (.type "BaseException") = true := (T.tail I.kIn).hasType (b := true) (by decide +kernel)
  first
    | exact wpAny_bind (wpAny_standAt (raise_obj (C := C) (nm := nm) (q := q) (N := N) (bs := bs) (bm := bm) (hdct := hdct) (sn := sn) (sub := sub) (ab := ab) (col := col) (dd := dd) (k0 := k0) (k1 := k1) (k2 := k2) (k3 := k3) (k5 := k5) hb (I.ok.hd hc) (wpAny_bind (wpAny_mono go (fun v s₃ h₃ => wpAny_bind (wpAny_standAt (wpAny_pure h₃))) fun _ _ z => z))))
    | (simp only [evalOpt, Option.map]; exact wpAny_bind (wpAny_standAt (raise_obj (C := C) (nm := nm) (q := q) (N := N) (bs := bs) (bm := bm) (hdct := hdct) (sn := sn) (sub := sub) (ab := ab) (col := col) (dd := dd) (k0 := k0) (k1 := k1) (k2 := k2) (k3 := k3) (k5 := k5) hb (I.ok.hd hc) (wpAny_bind (wpAny_mono go (fun v s₃ h₃ => wpAny_bind (wpAny_standAt (wpAny_pure h₃))) fun _ _ z => z)))))
end
end L2

namespace L2
open PySem PySem.Spec PyProof.Rows

theorem map_erase {α β : Type} (f : α → β) : ∀ (xs : List α) (n : Nat), (xs.eraseIdx n).map f = (xs.map f).eraseIdx n
  | [], _ => rfl
  | _ :: _, 0 => rfl
  | x :: xs, n + 1 => by
    show f x :: (xs.eraseIdx n).map f = f x :: (xs.map f).eraseIdx n
    rw [map_erase f xs n]
/-! ### (a, b, ..) = a list of that length -/
section
variable {X : Cx} {pos : Pos}
def gLst (K : PySem.W.Frag) (n : Nat) (t : TGs) : TG := fun v σ H Q => ∃ a xs, v = .ref a ∧ SqL K H a xs ∧ xs.length = n ∧ t xs σ H Q
theorem pg_lst {es : List Expr} {k : Nat} {t : TGs} {n : Nat} (hc : X.calm = true) (h : PGs X es t)
    (hn : (assignEach es X.env).length = n := by rfl) (hst : (assignEach es X.env).findIdx? (·.1) = none := by rfl) : PG X (.Tuple es k pos) (gLst X.K n t) := by
  intro pins s σ H v u Q I r hw
  obtain ⟨a, xs, e1, hq, hl, hw⟩ := hw
  subst e1
  cases r
  obtain ⟨its, rv, ht, hz⟩ := I.list hq
  rw [assign_Tuple]
  refine wpAny_bind (wpAny_standAt ?_)
  unfold unpack
  have e : (assignEach es X.env).length = its.toArray.size := by simp [hn, ← hl, rv.length]
  rw [hst, e]
  refine wpAny_bind (wpAny_holding (PySem.W.kun_itemsOf (I.ok.hd hc) ht.isList fun h' hx => ?_))
  have I1 : Inv X pins σ H { s with heap := h' } := I.kept (t' := s.toks) fun b o e => hx b o (Nat.ne_of_lt (Heap.lt_size e)) e
  exact h pins _ σ H xs _ Q I1 (by simpa using rv) hw

/-! ### xs.insert(i, y), 0 ≤ i ≤ len(xs) -/
theorem Vals.insert {xs : List V} {us : List Value} (r : Vals xs us) {y : V} {u : Value} (ry : RelV y u) (k : Nat) : Vals (xs.take k ++ y :: xs.drop k) (us.take k ++ u :: us.drop k) := (r.take k).append (.cons ry (r.drop k))
def rInsert : V → List V → Hp → VK → Prop := fun x vs H Q => ∃ (l : Addr) (xs : List V) (i : Int) (k : Nat) (y : V), x = .ref l ∧ vs = [.int i, y] ∧ i = (k : Int) ∧ H l = some (.lst xs) ∧ k ≤ xs.length ∧ xs.length < sizeLine ∧ Q .non (upd H l (.lst (xs.take k ++ y :: xs.drop k)))
theorem mt_insert : MtM X "list.insert" rInsert := by
  intro pins s σ H x vs v us Q I rx rv h
  obtain ⟨l, xs, i, k, y, rfl, rfl, hi, hH, hk, hz, q⟩ := h
  cases rx
  obtain ⟨u1, u2, rfl, r1, r2⟩ := rv.two
  obtain ⟨t, rfl⟩ := r1
  obtain ⟨z, its, n, r, hl, e⟩ := I.lstM hH
  have lim : sizeLine = 16777216 := by decide
  have a2 : its.toArray.size ≤ sizeLine := by rw [List.size_toArray]; omega
  have b : Builtin.List.listFitsIndex i = true := fitsIndex_both (by omega) (by omega)
  have nb : ¬ (!Builtin.List.listFitsIndex i) = true := by rw [b]; decide
  refine call_meets F.slot_list_insert ⟨_, e, rfl⟩ F.entry_list_insert (F.args_list_insert_3 _ _ _) (AutoSeq1.list_insert_list_int_val_1 l its.toArray n i t u2 nb a2) ⟨e, ?_⟩
  refine ⟨.non, _, I.lset (its' := its.take k ++ u2 :: its.drop k) hH e ?_ (r.insert r2 k) ?_, rfl, q⟩
  · show (its.toArray.extract 0 (if i < 0 then (i + (its.toArray.size : Int)).toNat else min i.toNat its.toArray.size)).push u2 ++ its.toArray.extract (if i < 0 then (i + (its.toArray.size : Int)).toNat else min i.toNat its.toArray.size) = _
    have e1 : (if i < 0 then (i + (its.toArray.size : Int)).toNat else min i.toNat its.toArray.size) = k := by
      rw [List.size_toArray, if_neg (by omega)]
      omega
    rw [e1]
    apply Array.toList_inj.mp
    simp
    exact List.take_of_length_le (by rw [List.length_drop]; omega)
  · rw [List.length_append, List.length_cons, List.length_take, List.length_drop]
    omega
end

/-! ### f'{e!r} text' of data; f'text {i}' of an int -/
section
variable {X : Cx} {e : Expr} {te : TE} {y : Str} {j : Nat} {p1 p2 pos : Pos}
def tFR (K : PySem.W.Frag) (te : TE) (y : Str) : TE := fun σ H Q => te σ H fun x H1 => ∃ (a : Addr) (d : PyData), x = .ref a ∧ DV K H1 d x ∧ d.showable = true ∧ d.hasDict = false ∧ d.depth ≤ 60 ∧ d.shown.length + y.length ≤ sizeLine ∧ ∀ z : Str, Q (.str z) H1
theorem len_app (a b : Str) : (a ++ b).length = a.length + b.length := by
  show (a.cps ++ b.cps).size = _
  simp [Str.length]
theorem pe_fR (hg : X.A.guards = some []) (hu : X.A.units + 64 < cLine) (he : PE X e te) : PE X (.JoinedStr [.FormattedValue e 114 none p1, .Constant (.str y) j p2] pos) (tFR X.K te y) := by
  intro pins s σ H Q I h
  refine wpAny_JoinedStr ?_
  show Joins _ _ _ [eval (.FormattedValue e 114 none p1) X.env, eval (.Constant (.str y) j p2) X.env] _ _ _
  refine wpAny_FormattedValue_repr (thn (he pins s σ H _ I h) fun v s1 ⟨x, H1, I1, r1, a, d, e1, hd, sh, nd, dp, sz, q⟩ => ?_)
  subst e1
  obtain rfl : v = Value.ref a := r1
  obtain ⟨as, rd⟩ := DV.reads I1 d hd rfl
  refine pyReprObj_of_reads (h₀ := s1.heap) rd sh (fun z => absurd z (by rw [nd]; decide)) hg (by omega) (fun _ _ z => z) (fun h' u tk hk => ?_) (by omega)
  have I2 : Inv X pins σ H1 { s1 with heap := h', toks := tk } := I1.kept hk
  have emp : (Str.empty ++ d.shown : Str) = d.shown := by
    apply str_ext
    rw [app_toList]
    rfl
  have go : ∀ (t : Tok) (s2 : Shared), Inv X pins σ H1 s2 → ∃ z t', Value.str d.shown t = .str z t' ∧ (Str.empty ++ z).length ≤ sizeLine ∧ Joins (model X.prog X.w) X.A X.xe [eval (.Constant (.str y) j p2) X.env] (Str.empty ++ z) (fun out s₁ => out.length ≤ sizeLine ∧ EP X pins σ Q (.str out s₁.toks) { s₁ with toks := s₁.toks + 1 }) s2 := fun t s2 I3 => by
    refine ⟨_, _, rfl, by rw [emp]; omega, Calls.Constant_str ⟨y, _, rfl, ?_, ?_⟩⟩
    · rw [emp, len_app]; omega
    · refine ⟨by rw [emp, len_app]; omega, .str _, H1, (I3.tok _).tok _, ⟨_, rfl⟩, q _⟩
  exact wpAny_formatField_str (go _ _ I2) (go _ _ (I2.tok _)) (by omega)
end

/-! ### a comprehension over a tuple -/
theorem comp_tup {K : PySem.W.Frag} {a D : Addr} {xs : List V} {te : TE} {Q : VK} {σ : St} {H1 : Hp} (Pv : Nat → List V → Hp → Prop) (h0 : Pv 0 [] (upd H1 D (.lst []))) (hz : xs.length ≤ sizeLine)
    (hl : ∀ i ys H2, i ≤ xs.length → Pv i ys H2 → SqT K H2 a xs ∧ H2 D = some (.lst ys) ∧ ys.length = i)
    (hs : ∀ i x ys H2, xs[i]? = some x → Pv i ys H2 → te (some x :: σ) H2 (CompNext D xs.length Pv i ys)) (hd : ∀ ys H2, Pv xs.length ys H2 → Q (.ref D) H2) :
    CompGoal (Itt K a) te σ D H1 Q := by
  refine ⟨fun i m ys H => m = xs.length - i ∧ i ≤ xs.length ∧ Pv i ys H, ⟨xs.length, by simp, Nat.zero_le _, h0⟩, ?_⟩
  rintro i m ys H2 ⟨rfl, hi, p⟩
  obtain ⟨q, q2, q3⟩ := hl i ys H2 hi p
  refine ⟨q2, ?_⟩
  by_cases hlt : i < xs.length
  · refine .inr ⟨⟨xs, xs[i], q, by simp [hlt]⟩, by omega, fun x H3 y => ?_⟩
    obtain ⟨e, y⟩ := y
    subst e
    exact hs i x ys _ (y xs q) p
  · have e : i = xs.length := by omega
    subst e
    exact .inl ⟨⟨xs, q, Nat.le_refl _⟩, hd ys H2 p⟩
/-! ### methods within a comprehension: the fragment is told -/
theorem mt_joinK {X : Cx} {K : PySem.W.Frag} (ek : X.K = K) : MtR X "str.join" (rJoin K) := by
  subst ek; exact mt_join
theorem pe_bmK {X : Cx} {K : PySem.W.Frag} {T : String} {name : Str} {id : String} {r : V → List V → Hp → VK → Prop} {o e : Expr} {es : List Expr} {to : TE} {t : TA} {apos cpos : Pos} (ek : X.K = K) (pa : PlainAttrs T) (slot : Slot T name id) (hty : typeOf (.builtin id) = pure (.type "method_descriptor")) (hm : MtR X id r) (ho : PE X o to) (ha : PA X (e :: es) t)
    (hbase : attributeBase o name X.env (eval o X.env) = eval o X.env := by rfl)
    (hfew : ((backTo cpos (starEach (e :: es) X.env)).all (fun x => !x.1) && (backToKw cpos (keywordEach [] X.env)).all (fun x => x.1.isSome)
      && decide ((e :: es).length + ([] : List Keyword).length + (if ([] : List Keyword).isEmpty then 0 else 1) < 30)) = true := by rfl)
    (hline : (apos.endLine == cpos.line) = true := by rfl) (hs : starEach (e :: es) X.env = (false, eval e X.env) :: starEach es X.env := by rfl) (hplain : (backTo cpos (starEach es X.env)).any (·.1) = false := by rfl) :
    PE X (.Call (.Attribute o name apos) (e :: es) [] cpos) (tBM K T r to t) := by
  subst ek; exact pe_bm pa slot hty hm ho ha hbase hfew hline hs hplain
/-! ### data is like itself -/
mutual
theorem eqv_self : ∀ d : PyData, d.canLay0 = true → PyData.eqv d d = true
  | .none, _ => by simp [PyData.eqv]
  | .bool _, _ => by simp [PyData.eqv]
  | .int _, _ => by simp [PyData.eqv]
  | .str _, _ => by simp [PyData.eqv]
  | .list xs, h => by simp only [PyData.eqv]; exact eqvAll_self xs (by simpa [PyData.canLay0] using h)
  | .tuple xs, h => by simp only [PyData.eqv]; exact eqvAll_self xs (by simpa [PyData.canLay0] using h)
  | .dict _, h => by simp [PyData.canLay0] at h
theorem eqvAll_self : ∀ xs : List PyData, PyData.canLayAll0 xs = true → PyData.eqvAll xs xs = true
  | [], _ => by simp [PyData.eqvAll]
  | x :: xs, h => by
    have h' : x.canLay0 = true ∧ PyData.canLayAll0 xs = true := by simpa [PyData.canLayAll0] using h
    simp only [PyData.eqvAll, eqv_self x h'.1, eqvAll_self xs h'.2, Bool.and_self]
end
theorem same_sqt {K : PySem.W.Frag} {H H' : Hp} {t : Addr} {xs : List V} (s : Same H H') (h : SqT K H t xs) : SqT K H' t xs := by
  rcases h with (h | ⟨o, h⟩) | h
  · exact .inl (.inl (s _ _ h))
  · exact .inl (.inr ⟨o, s _ _ h⟩)
  · exact .inr h
/-! ### joins of joins -/
theorem join_nil (sep : Str) : Str.join sep [] = ⟨#[]⟩ := rfl
theorem app_assoc (a b c : Str) : (a ++ b) ++ c = a ++ (b ++ c) := by
  apply str_ext
  rw [app_toList, app_toList, app_toList, app_toList, List.append_assoc]
theorem join_app (sep : Str) : ∀ (a b : List Str), a ≠ [] → b ≠ [] → Str.join sep (a ++ b) = (Str.join sep a ++ sep) ++ Str.join sep b
  | [], _, h, _ => absurd rfl h
  | [x], [], _, h => absurd rfl h
  | [x], y :: b, _, _ => rfl
  | x :: x2 :: a, b, _, hb => by
    have ih := join_app sep (x2 :: a) b (List.cons_ne_nil _ _) hb
    show (x ++ sep) ++ Str.join sep (x2 :: a ++ b) = (((x ++ sep) ++ Str.join sep (x2 :: a)) ++ sep) ++ Str.join sep b
    rw [ih]
    simp only [app_assoc]
theorem join_join (sep : Str) (a b : List Str) (ha : a ≠ []) : Str.join sep (Str.join sep a :: b) = Str.join sep (a ++ b) := by
  cases b with
  | nil => rw [List.append_nil]; rfl
  | cons y b => rw [join_app sep a (y :: b) ha (List.cons_ne_nil _ _)]; rfl
end L2

namespace L2
open PySem PySem.Spec PySem.Calls PyProof.Rows

/-! ### list(reversed(xs)) -/
theorem no_len_lri : typeLookup (.type "list_reverseiterator") "__len__" = pure none := by rw [typeLookup_type, builtinLookup_eq_fast]; kernel_rfl
theorem hint_lri : typeLookup (.type "list_reverseiterator") "__length_hint__" = pure (some (.builtin "list_reverseiterator.__length_hint__")) := by rw [typeLookup_type, builtinLookup_eq_fast]; kernel_rfl
section
variable {prog : Program} {w : World} {A : Around} {E : Value → Shared → Prop} {s : Shared} {I l : Addr} {items : Array Value}
theorem rv_hint {Q : Bool → Shared → Prop} (hT : s.TypeIs (.ref I) "list_reverseiterator") (h : Q false s) : wpAny (model prog w) A (Builtin.List.listLengthHint (.ref I)) Q E s := by
  unfold Builtin.List.listLengthHint
  refine wpAny_bind (wpAny_specialOf hT no_len_lri ?_)
  show wpAny _ A (specialOf (Value.ref I) (Str.ofString "__length_hint__") >>= _) _ _ _
  refine wpAny_bind (wpAny_specialOf hT hint_lri ?_)
  generalize hid : ("list_reverseiterator.__length_hint__" : String) = id0
  wp_delta
  rw [show splitId id0 = some ("list_reverseiterator", "__length_hint__") from by subst hid; decide +kernel]
  subst hid
  refine wpAny_bind (wpAny_isInstance (T := "list_reverseiterator") (b := true) hT (by rw [isSubtype_type]; kernel_rfl) ?_)
  refine wpAny_ite_split (fun hab => absurd hab (by decide)) (fun _ => ?_)
  refine wpAny_ite_split (fun _ => ?_) (fun hab => absurd (by decide +kernel) hab)
  refine wpAny_ite_split (fun hab => absurd hab (by decide +kernel)) (fun _ => ?_)
  exact wpAny_pure h
abbrev RevP (items : Array Value) : Nat → Value → Prop := fun i v => items[items.size - 1 - i]? = some v
abbrev RevSt (I l : Addr) (items : Array Value) : Nat → Heap → Prop := fun i h => i ≤ items.size ∧ h.IsRevIter I l ((items.size : Int) - 1 - (i : Int)) ∧ h.IsList l items
theorem rv_extend {R : Result → Shared → Prop} (hh : A.handled = none) (hne : l ≠ I) (hst : RevSt I l items 0 s.heap) (S : Addr) (hSI : S ≠ I) (hSl : S ≠ l) (res : Value) (c₀ : Nat) (hS : s.heap.get? S = some { cls := .type "list", data := .seq #[] c₀ })
    (hR : ∀ h' tk acc' c', (∀ b o, b ≠ S → b ≠ I → s.heap.get? b = some o → h'.get? b = some o) → h'.get? S = some { cls := .type "list", dict := none, data := .seq acc' c', slots := #[] } → ItemsOf (RevP items) acc' items.size → R (.ok (.ret res)) { s with heap := h', toks := tk }) (hn : items.size ≤ sizeLine) :
    wpAny (model prog w) A.in1 (Builtin.List.listExtendWith (.ref S) (.ref I) res)
      (fun fin s' => match fin with | .done f => R (.ok f) s' | .again c' => c'.quiet = true ∧ codeAny (model prog w) A c' R s') (fun e s' => R (.error e) s') s := by
  have hSf : S ∉ [I, l] := by simp only [List.mem_cons, List.not_mem_nil, or_false, not_or]; exact ⟨hSI, hSl⟩
  have W := Walks.listRev (prog := prog) (w := w) (A := A.in1) hh I l hne items
  have key : ∀ (h : Heap) (c₁ tk : Nat), RevSt I l items 0 h → (∀ b o, b ≠ S → s.heap.get? b = some o → h.get? b = some o) →
      h.get? S = some { cls := .type "list", data := .seq #[] c₁ } → codeAny (model prog w) A (.builtin "list.extend.loop" ⟨[.ref S, .ref I, res], []⟩) R { s with heap := h, toks := tk } := by
    intro h c₁ tk hst hk hS₁
    refine codeAny_extend_loopS W.toS hn S hSf res items.size 0 _ #[] c₁ rfl (Nat.zero_le _) hst hS₁ (ItemsOf.nil _) fun s' acc' c' hm hS' hacc => ?_
    rw [Moved.eq_with hm]
    refine hR s'.heap s'.toks acc' c' (fun b o hb hbI e => hm.heap b o (fun hmem => ?_) (hk b o hb e)) hS' hacc
    rcases List.mem_cons.mp hmem with e' | hmem
    · exact hb e'
    · exact hbI (List.mem_singleton.mp hmem)
  unfold Builtin.List.listExtendWith
  refine wpAny_bind (wpAny_typeOf (T := "list_reverseiterator") hst.2.1.typeIs ?_)
  have h1 : Builtin.List.listSameRef (.ref S) (.ref I) = false := by simp [Builtin.List.listSameRef, hSI]
  have h2 : (Value.type "list_reverseiterator" == Value.type "list") = false := by decide +kernel
  have h3 : (Value.type "list_reverseiterator" == Value.type "tuple") = false := by decide +kernel
  simp only [h1, h2, h3, Bool.or_false, Bool.false_eq_true, if_false]
  refine wpAny_bind (wpAny_pyIter_revIter hst.2.1 ?_)
  refine wpAny_bind (wpAny_holding (rv_hint hst.2.1.typeIs ?_))
  refine wpAny_ite_split (fun _ => ?_) (fun _ => wpAny_pure ⟨plainId_quiet PySem.F.plain_extend_loop _, key _ c₀ _ hst (fun b o _ e => e) hS⟩)
  refine wpAny_bind (wpAny_rule ?_)
  refine wpAny_bind ?_
  show wpAny _ _ (updateSeq S (·.push .none) >>= fun _ => updateSeq S (·.pop)) _ _ _
  refine wpAny_bind (wpAny_updateSeq hS rfl ?_)
  have hS₂ := Heap.get?_update_self (Obj.mapSeq (·.push Value.none)) hS rfl
  refine wpAny_updateSeq (hz := by seq_fits) hS₂ rfl ?_
  have hS₃ := Heap.get?_update_self (Obj.mapSeq (·.pop)) hS₂ rfl
  refine wpAny_pure ⟨plainId_quiet PySem.F.plain_extend_loop _, key _ _ _ ?_ (fun b o hb e => ?_) hS₃⟩
  · refine W.frame 0 _ _ hst fun b hb o e => ?_
    have hbS : b ≠ S := fun h => hSf (h ▸ hb)
    exact (Heap.get?_update_other _ _ (Ne.symm hbS)).trans ((Heap.get?_update_other _ _ (Ne.symm hbS)).trans e)
  · exact (Heap.get?_update_other _ _ (Ne.symm hb)).trans ((Heap.get?_update_other _ _ (Ne.symm hb)).trans e)
theorem rv_init {R : Result → Shared → Prop} (hh : A.handled = none) (hne : l ≠ I) (hst : RevSt I l items 0 s.heap) (S : Addr) (hSI : S ≠ I) (hSl : S ≠ l) (hS : s.heap.get? S = some { cls := .type "list", data := .seq #[] })
    (hR : ∀ h' tk acc' c', (∀ b o, b ≠ S → b ≠ I → s.heap.get? b = some o → h'.get? b = some o) → h'.get? S = some { cls := .type "list", dict := none, data := .seq acc' c', slots := #[] } → ItemsOf (RevP items) acc' items.size → R (.ok (.ret .none)) { s with heap := h', toks := tk }) (hn : items.size ≤ sizeLine) :
    wpAny (model prog w) A.in1 (Builtin.«list.__init__» ⟨[.ref S, .ref I], []⟩)
      (fun fin s' => match fin with | .done f => R (.ok f) s' | .again c' => c'.quiet = true ∧ codeAny (model prog w) A c' R s') (fun e s' => R (.error e) s') s := by
  show wpAny _ _ (do let old ← Builtin.List.listItems (.ref S); Builtin.List.listUpdate (.ref S) (fun _ => #[]); letGo old.toList.reverse; Builtin.List.listExtendWith (.ref S) (.ref I) .none) _ _ s
  refine wpAny_bind ?_
  unfold Builtin.List.listItems
  refine wpAny_bind (wpAny_seqItems hS rfl (wpAny_pure ?_))
  show wpAny _ _ (updateSeq S (fun _ => #[]) >>= fun _ => letGo (#[] : Array Value).toList.reverse >>= fun _ => Builtin.List.listExtendWith (.ref S) (.ref I) .none) _ _ s
  refine wpAny_bind (wpAny_updateSeq hS rfl ?_)
  have hS₂ := Heap.get?_update_self (Obj.mapSeq (fun _ => (#[] : Array Value))) hS rfl
  have oth : ∀ b o, b ≠ S → s.heap.get? b = some o → (s.heap.update S (Obj.mapSeq (fun _ => (#[] : Array Value)))).get? b = some o :=
    fun b o hb e => (Heap.get?_update_other _ _ (Ne.symm hb)).trans e
  refine wpAny_bind (wpAny_letGo ?_)
  have hst2 : RevSt I l items 0 (s.heap.update S (Obj.mapSeq (fun _ => (#[] : Array Value)))) := ⟨hst.1, hst.2.1.at fun o e => oth I o hSI.symm e, hst.2.2.at fun o e => oth l o hSl.symm e⟩
  refine rv_extend hh hne hst2 S hSI hSl .none _ hS₂ (fun h' tk acc' c' hk hS' hacc => ?_) hn
  exact hR h' tk acc' c' (fun b o hb hbI e => hk b o hb hbI (oth b o hb e)) hS' hacc
theorem list_of_rev {Q : Value → Shared → Prop} (hh : A.handled = none) (hne : l ≠ I) (hst : RevSt I l items 0 s.heap) (hn : items.size ≤ sizeLine)
    (hQ : ∀ h' tk acc' c', (∀ b o, b ≠ I → s.heap.get? b = some o → h'.get? b = some o) → h'.get? s.heap.objs.size = some { cls := .type "list", dict := none, data := .seq acc' c', slots := #[] } → ItemsOf (RevP items) acc' items.size → Q (.ref s.heap.objs.size) { s with heap := h', toks := tk }) :
    wpAny (model prog w) A (call (.type "list") [.ref I]) Q E s := by
  refine callType_codes (Q₁ := fun obj s₁ => obj = .ref s.heap.objs.size ∧ s₁ = { s with heap := s.heap.push { cls := .type "list", data := .seq #[] } }) PySem.F.called_list (PySem.F.typeCall_list_1 _) PySem.F.entry_list_init
    (code_list_new _ ⟨rfl, rfl⟩) fun obj s₁ h₁ => ?_
  obtain ⟨rfl, rfl⟩ := h₁
  have hS : (s.heap.push { cls := .type "list", data := .seq #[] }).get? s.heap.objs.size = some { cls := .type "list", data := .seq #[] } := Heap.get?_push_size _ rfl
  have hst2 : RevSt I l items 0 (s.heap.push { cls := .type "list", data := .seq #[] }) := ⟨hst.1, hst.2.1.at fun o e => Heap.get?_push_of_some _ e, hst.2.2.at fun o e => Heap.get?_push_of_some _ e⟩
  obtain ⟨oI, eI, _⟩ := hst.2.1
  obtain ⟨ol, el, _⟩ := hst.2.2
  refine ⟨⟨_, hS, rfl⟩, PySem.F.args_list_init_2 _ _, rv_init (A := A.in1) hh hne hst2 _ (Nat.ne_of_gt (Heap.lt_size eI)) (Nat.ne_of_gt (Heap.lt_size el)) hS (fun h' tk acc' c' hk hS' hacc => ?_) hn⟩
  exact ⟨rfl, hQ h' tk acc' c' (fun b o hbI e => hk b o (Nat.ne_of_lt (Heap.lt_size e)) hbI (Heap.get?_push_of_some _ e)) hS' hacc⟩
end

def tListRev (te : TE) : TE := fun σ H Q => te σ H fun x H1 => ∃ l ys, x = .ref l ∧ H1 l = some (.lst ys) ∧ ∀ p, H1 p = none → Q (.ref p) (upd H1 p (.lst ys.reverse))
theorem Vals.get9 {xs : List V} {us : List Value} (r : Vals xs us) : ∀ {i : Nat} {x : V}, xs[i]? = some x → ∃ u, us[i]? = some u ∧ RelV x u := by
  induction r with
  | nil => intro i x h; simp at h
  | cons r0 _ ih =>
    intro i x h
    cases i with
    | zero => obtain rfl := Option.some.inj h; exact ⟨_, rfl, r0⟩
    | succ i => exact ih (i := i) h
theorem vals_of_get : ∀ (xs : List V) (us : List Value), xs.length = us.length → (∀ (i : Nat) (x : V) (u : Value), xs[i]? = some x → us[i]? = some u → RelV x u) → Vals xs us
  | [], [], _, _ => .nil
  | [], _ :: _, h, _ => by simp at h
  | _ :: _, [], h, _ => by simp at h
  | x :: xs, u :: us, h, g => .cons (g 0 x u rfl rfl) (vals_of_get xs us (by simpa using h) fun i y v e1 e2 => g (i + 1) y v e1 e2)
section
variable {X : Cx} {e : Expr} {te : TE} {p0 p1 q0 q1 : Pos}
theorem pe_listRev (hc : X.calm = true) (hg : Gl X "list") (hm : X.mg "list" = none) (hg2 : Gl X "reversed") (hm2 : X.mg "reversed" = none) (ha : PE X e te) (hs : starEach [e] X.env = [(false, eval e X.env)] := by rfl)
    (hs2 : starEach [Expr.Call (.Name "reversed" p1) [e] [] q1] X.env = [(false, eval (Expr.Call (.Name "reversed" p1) [e] [] q1) X.env)] := by rfl) : PE X (.Call (.Name "list" p0) [.Call (.Name "reversed" p1) [e] [] q1] [] q0) (tListRev te) := by
  intro pins s σ H Q I h
  refine wpAny_Call_Name_kw (ld_blt I hg hm (by decide +kernel : bootBuiltins "list" = some (.type "list")) ?_ (by decide) (by decide))
  refine PyProof.Rows.callWith_type1 ?_ hs2 rfl
  rw [hs2]
  show wpAny _ _ (spliced ((false, eval (Expr.Call (.Name "reversed" p1) [e] [] q1) X.env) :: backTo q0 (starEach [] X.env))) _ _ s
  refine Calls.spliced_cons ?_
  refine wpAny_Call_Name_kw (ld_blt I hg2 hm2 (by decide +kernel : bootBuiltins "reversed" = some (.type "reversed")) ?_ (by decide) (by decide))
  refine PyProof.Rows.callWith_type1 ?_ hs rfl
  rw [hs]
  show wpAny _ _ (spliced ((false, eval e X.env) :: backTo q1 (starEach [] X.env))) _ _ s
  refine Calls.spliced_cons (thn (ha pins s σ H _ I h) fun u s1 ⟨x, H1, I1, r1, l, ys, e1, hl, q⟩ => Calls.spliced_nil ?_)
  subst e1
  cases r1
  obtain ⟨z, its, n, r, hlen, el⟩ := I1.lstM hl
  have isl : s1.heap.IsList l its.toArray := ⟨_, el, rfl, n, rfl⟩
  refine call_reversed_list isl (Calls.spliced_nil ?_)
  have hlt : l < s1.heap.objs.size := Heap.lt_size el
  have I2 : Inv X pins σ H1 { s1 with heap := s1.heap.push (revObj l ((its.toArray.size : Int) - 1)) } := I1.kept (t' := s1.toks) fun b o q => Heap.get?_push_of_some _ q
  refine list_of_rev (I := s1.heap.objs.size) (l := l) (items := its.toArray) (I1.ok.hd hc) (Nat.ne_of_lt hlt) ⟨Nat.zero_le _, ⟨_, Heap.get?_push_size _ rfl, rfl, ?_⟩, isl.at fun o e => Heap.get?_push_of_some _ e⟩ (by rw [List.size_toArray, ← hlen]; exact z) fun h' tk acc' c' kp eS hI => ?_
  · show (revObj l ((its.toArray.size : Int) - 1)).data = _
    rw [show ((its.toArray.size : Int) - 1 - ((0 : Nat) : Int)) = (its.toArray.size : Int) - 1 by omega]; rfl
  · have kp' : ∀ b o, s1.heap.get? b = some o → h'.get? b = some o := fun b o e => kp b o (Nat.ne_of_lt (Heap.lt_size e)) (Heap.get?_push_of_some _ e)
    have hv : Vals ys.reverse acc'.toList := by
      refine vals_of_get _ _ (by rw [List.length_reverse]; have h1 := hI.1; rw [List.size_toArray] at h1; rw [Array.length_toList, h1]; exact hlen) fun i x u g1 g2 => ?_
      have hi : i < ys.length := by
        have := (List.getElem?_eq_some_iff.mp g1).1
        rw [List.length_reverse] at this; exact this
      rw [List.getElem?_reverse hi] at g1
      obtain ⟨u', g3, r3⟩ := Vals.get9 r g1
      have g4 := hI.2 i u (by rw [← Array.getElem?_toList]; exact g2)
      have g5 : its[its.length - 1 - i]? = some u := by
        have g4' : its.toArray[its.toArray.size - 1 - i]? = some u := g4
        simpa using g4'
      rw [← hlen] at g5
      obtain rfl := Option.some.inj (g3.symm.trans g5)
      exact r3
    have sz1 : (s1.heap.push (revObj l ((its.toArray.size : Int) - 1))).objs.size = s1.heap.objs.size + 1 := Heap.size_push ..
    have new : ObjOk X.prog X.w (upd H1 (s1.heap.push (revObj l ((its.toArray.size : Int) - 1))).objs.size (.lst ys.reverse)) h' (s1.heap.push (revObj l ((its.toArray.size : Int) - 1))).objs.size (.lst ys.reverse) :=
      ⟨by rw [List.length_reverse]; exact z, acc'.toList, c', hv, by rw [Array.toArray_toList]; exact eS⟩
    have le : s1.heap.objs.size ≤ (s1.heap.push (revObj l ((its.toArray.size : Int) - 1))).objs.size := by rw [sz1]; omega
    exact ⟨.ref _, _, I1.laid (t' := tk) kp' le new, rfl, q _ (I1.hok.fresh le)⟩
end
/-! ### a tuple times 0 or 1 -/
theorem noFill_tuple_mul : fillsNumberSlot (.type "tuple") "mul" = pure false :=
  PySem.fillsNumberSlot_seq (id := "tuple.__mul__") (r := some (.builtin "tuple.__rmul__")) PySem.F.slot_tuple_mul.lookup (by decide +kernel) PySem.F.slot_tuple_rmul.lookup (by decide +kernel)
theorem repeat_tuple : seqRepeat? (.type "tuple") = pure (some (.builtin "tuple.__mul__")) := by
  unfold seqRepeat?
  rw [PySem.seqSlot_of (T := "tuple") (name := "__mul__") (id := "tuple.__mul__") PySem.F.slot_tuple_mul.lookup (by decide +kernel), PySem.seqSlot_of (T := "tuple") (name := "__rmul__") (id := "tuple.__rmul__") PySem.F.slot_tuple_rmul.lookup (by decide +kernel)]
  rfl
theorem int_rmul_tuple (a : Int) (t : Tok) (l : Addr) (items : Array Value) (n : Nat) (dd : Option Addr) (sl : Array (Option Value)) :
    Meets (Builtin.«int.__rmul__» ⟨[.int a t, .ref l], []⟩) (fun _ R s => s.heap.get? l = some { cls := .type "tuple", dict := dd, data := .seq items n, slots := sl } ∧ R (.ok (.ret Value.notImplemented)) s) :=
  .of_wp fun prog w A R s h => by obtain ⟨hp, g, d, tk, os⟩ := s; obtain ⟨hl, h⟩ := h; wp_walk; exact ⟨_, rfl, h⟩
theorem tuple_mul1 (l : Addr) (items : Array Value) (n : Nat) (u : Tok) (dd : Option Addr) (sl : Array (Option Value)) :
    Meets (Builtin.«tuple.__mul__» ⟨[.ref l, .int 1 u], []⟩) (fun _ R s => s.heap.get? l = some { cls := .type "tuple", dict := dd, data := .seq items n, slots := sl } ∧ R (.ok (.ret (.ref l))) s) :=
  .of_wp fun prog w A R s h => by
    obtain ⟨hp, g, d, tk, os⟩ := s; obtain ⟨hl, h⟩ := h
    wp_walk; exact ⟨_, rfl, h⟩
theorem tuple_mul0 (l : Addr) (items : Array Value) (n : Nat) (u : Tok) (dd : Option Addr) (sl : Array (Option Value)) (he : items.isEmpty = false) :
    Meets (Builtin.«tuple.__mul__» ⟨[.ref l, .int 0 u], []⟩) (fun _ R s => s.heap.get? l = some { cls := .type "tuple", dict := dd, data := .seq items n, slots := sl } ∧ R (.ok (.ret (.ref s.heap.objs.size))) { s with heap := s.heap.push { cls := .type "tuple", data := .seq #[] } }) :=
  .of_wp fun prog w A R s h => by
    obtain ⟨hp, g, d, tk, os⟩ := s; obtain ⟨hl, h⟩ := h
    wp_walk; exact ⟨_, rfl, h⟩
section
variable {X : Cx}
def rRepT (K : PySem.W.Frag) : R2 := fun x y H Q => ∃ (a : Addr) (k : Int) (xs : List V), x = .ref a ∧ y = .int k ∧ SqT K H a xs ∧ xs ≠ [] ∧ (k = 0 ∨ k = 1) ∧ (k = 1 → Q (.ref a) H) ∧ (k = 0 → ∀ p, H p = none → Q (.ref p) (upd H p (.tup [])))
theorem op_repT : OpR X (binaryOp .Mult) (rRepT X.K) := by
  intro pins s σ H x y v u Q I rx ry h
  obtain ⟨a, k, xs, rfl, rfl, ha, hx, hk, q1, q0⟩ := h
  cases rx
  obtain ⟨t, rfl⟩ := ry
  obtain ⟨its, r, pl, hz⟩ := I.tuple ha
  obtain ⟨⟨cls, dd, data, sl⟩, ho, hc, n, hd⟩ := id pl
  simp only at hc hd
  subst hc hd
  have ne : its ≠ [] := fun z => hx (r.nil_iff.mp z)
  refine wpAny_binaryOp_repeat_ref (T := "tuple") (U := "int") (by decide) ⟨_, ho, rfl⟩ (fun s' => typeIs_int s' k t) noFill_tuple_mul PySem.F.fills_int_mul PySem.F.slot_int_rmul repeat_tuple PySem.F.slot_int_index.lookup
    (call_meets PySem.F.slot_int_rmul (typeIs_int s k t) PySem.F.entry_int_rmul (PySem.F.args_int_rmul_2 _ _) (int_rmul_tuple k t a its.toArray n dd sl) ⟨ho, rfl, ⟨_, ho, rfl⟩, ?_⟩)
  rcases hk with rfl | rfl
  · refine call_meets PySem.F.slot_tuple_mul ⟨_, ho, rfl⟩ PySem.F.entry_tuple_mul (PySem.F.args_tuple_mul_2 _ _) (tuple_mul0 a its.toArray n t dd sl (by simpa using ne)) ⟨ho, ?_⟩
    refine ⟨.ref s.heap.objs.size, _, I.laid (t' := s.toks) (o := .tup []) (fun b ob q => Heap.get?_push_of_some _ q) (Nat.le_refl _) ?_, rfl, q0 rfl _ (I.hok.fresh (Nat.le_refl _))⟩
    exact ⟨Nat.zero_le _, [], .nil, IsTup.new _ _⟩
  · exact call_meets PySem.F.slot_tuple_mul ⟨_, ho, rfl⟩ PySem.F.entry_tuple_mul (PySem.F.args_tuple_mul_2 _ _) (tuple_mul1 a its.toArray n t dd sl) ⟨ho, ⟨.ref a, H, I, rfl, q1 rfl⟩⟩
end
theorem ix_listK {X : Cx} {K : PySem.W.Frag} (ek : X.K = K) : IxR X (rIxL K) := by
  subst ek; exact ix_list
end L2

namespace L2
open PySem PySem.Spec PySem.Calls PyProof.Rows
/-! ### a method of one of several classes -/
def tMethF (n : Nat) (Cf : Nat → Addr) (m : Str) (spf : Nat → Sp) (E : XK) (ta : TE) : TE := fun σ H Q => ta σ H fun x H1 => ∃ k, k < n ∧ ∃ a dx fs, x = .ref a ∧ H1 a = some (.ins (Cf k) dx fs) ∧ fs.lookup m = none ∧ spf k [x] H1 Q E
section
variable {X : Cx} {o : Expr} {ta : TE} {m : Str} {apos pos : Pos} {n : Nat} {Cf ff : Nat → Addr} {fdf : Nat → FuncData} {spf : Nat → Sp} {kk : Nat} {ps : List Str} {CX : CXT} {E : XK}
theorem pe_meth0F {pl : Sem Bool} (he : PE X o ta) (c : ∀ k, k < n → Cls X.K (Cf k)) (hm : ∀ k, k < n → Meth X.K (Cf k) m (ff k)) (F : ∀ k, k < n → FnOk X.prog X.w X.K X.mg X.base CX kk (ff k) (fdf k) ps (spf k)) (hr : Room kk X.A) (hb : ∀ k, k < n → Binds X.K (fdf k) ps [])
    (hx : Passes CX X E)
    (ht : eval (.Call (.Attribute o m apos) [] [] pos) X.env = (do
      let ov ← eval o X.env
      standAt apos.atName
      let (f, first) ← holding [ov] (getMethod ov m pl)
      callWith pos f first (backTo pos (starEach [] X.env)) (backToKw pos (keywordEach [] X.env))) := by rfl) :
    PE X (.Call (.Attribute o m apos) [] [] pos) (tMethF n Cf m spf E ta) := by
  intro pins s σ H Q I h
  refine PySem.W.methodCall_KW (pl := pl) (thn (he pins s σ H _ I h) fun u s1 ⟨x, H1, I1, rx, k, hk, a, dx, fs, ex, ea, l, q⟩ => ?_) ht
  subst ex
  obtain rfl : u = Value.ref a := rx
  refine getmeth_ok I1 ea (c k hk) (hm k hk) l ?_
  exact PySem.W.callWith_K0 (first := [.ref a]) I1.kIn (hm k hk).kp (run_fn (us := [.ref a]) (vs := [.ref a]) (dvs := []) (F k hk) hr (hb k hk) .nil hx I1 (.cons rfl .nil) q)
theorem fn_or {P : Program} {w : World} {K : PySem.W.Frag} {mg : Str → Option Value} {base : Heap} {CX : CXT} {k : Nat} {f : Addr} {fd : FuncData} {ps : List Str} {sp sp' : Sp} (F : FnOk P w K mg base CX k f fd ps sp) (G : FnOk P w K mg base CX k f fd ps sp') :
    FnOk P w K mg base CX k f fd ps (fun vs H Q E => sp vs H Q E ∨ sp' vs H Q E) :=
  ⟨fun vs H Q E z => z.elim (F.len vs H Q E) (G.len vs H Q E), fun a b c H d e vs Q E p q r s z => z.elim (F.run a b c H d e vs Q E p q r s) (G.run a b c H d e vs Q E p q r s)⟩
end
/-! ### xs.index(x) in a list of texts -/
section
variable {X : Cx}
def rIndex (K : PySem.W.Frag) : V → List V → Hp → VK → Prop := fun x vs H Q => ∃ (l : Addr) (ws : List Str) (z : Str) (j : Nat), x = .ref l ∧ vs = [.str z] ∧ SqL K H l (ws.map V.str) ∧ ws[j]? = some z ∧ (∀ m, m < j → ws[m]? ≠ some z) ∧ Q (.int j) H
theorem mt_index : MtR X "list.index" (rIndex X.K) := by
  intro pins s σ H x vs v us Q I rx rv h
  obtain ⟨l, ws, z, j, rfl, rfl, hq, hj, hno, q⟩ := h
  cases rx
  obtain ⟨u, rfl, t, rfl⟩ := vals1 rv
  obtain ⟨its, r, pl, hz⟩ := I.list hq
  have hlen := r.length
  rw [List.length_map] at hlen
  obtain ⟨⟨cls, dd, data, sl⟩, ho, hc, n, hd⟩ := pl.isList
  simp only at hc hd
  subst hc hd
  have flat : (ws.map V.str).all flatV = true := by
    rw [List.all_eq_true]
    intro y hy
    obtain ⟨w, _, rfl⟩ := List.mem_map.mp hy
    rfl
  have at_ : ∀ (i : Nat) (h : i < its.toArray.size), ∃ w, ws[i]? = some w ∧ eqU (.str z) its.toArray[i] = (w == z) := fun i h => by
    have h' : i < ws.length := by rw [List.size_toArray] at h; omega
    refine ⟨ws[i], List.getElem?_eq_getElem h', ?_⟩
    obtain ⟨u, hu, ru⟩ := Vals.get r (show (ws.map V.str)[i]? = some (V.str ws[i]) by rw [List.getElem?_map, List.getElem?_eq_getElem h']; rfl)
    have e : its.toArray[i] = u := by
      rw [List.getElem?_eq_getElem (by rw [List.size_toArray] at h; exact h)] at hu
      simpa using Option.some.inj hu
    rw [e, eqU_of ru rfl]
    rfl
  have jl : j < ws.length := (List.getElem?_eq_some_iff.mp hj).1
  have hn := line63
  have hsz : ws.length ≤ sizeLine := by rw [List.length_map] at hz; exact hz
  refine call_meets PySem.F.slot_list_index ⟨_, ho, rfl⟩ PySem.F.entry_list_index (PySem.F.args_list_index_2 _ _) (SeqAt.list_indexAt l its.toArray n dd sl (.str z t) (eqU (.str z)) j (by rw [List.size_toArray]; omega) (by rw [sizeLine_eq] at hsz; omega) ?_ ?_) ⟨ho, fun y hy => mem_eqAt (x := .str z) (v := .str z t) ⟨t, rfl⟩ rfl r flat y (by simpa using hy), ?_⟩
  · obtain ⟨w, h1, h2⟩ := at_ j (by rw [List.size_toArray]; omega)
    rw [h2]
    obtain rfl := Option.some.inj (h1.symm.trans hj)
    exact beq_self_eq_true _
  · intro m hm hmj
    obtain ⟨w, h1, h2⟩ := at_ m hm
    rw [h2]
    exact beq_eq_false_iff_ne.mpr fun e => hno m hmj (by rw [h1, e])
  · exact ⟨.int j, H, I.tok _, ⟨_, rfl⟩, q⟩
/-! ### x not in xs, data: some bool -/
theorem reads_mem {h : Heap} : ∀ {us : List Value} {ds : List PyData} {bs : List Addr}, ReadsAll h us ds bs → ∀ u ∈ us, ∃ d ∈ ds, ∃ as, Reads h u d as
  | _, _, _, .nil, u, hu => by cases hu
  | _, _, _, .cons e1 e2, u, hu => by
    rcases List.mem_cons.mp hu with rfl | hu
    · exact ⟨_, List.mem_cons_self, _, e1⟩
    · obtain ⟨d, hd, r⟩ := reads_mem e2 u hu
      exact ⟨d, List.mem_cons_of_mem _ hd, r⟩
open Classical in
noncomputable def eqPick (A : Around) (s : Shared) (v u : Value) : Bool := if h : ∃ b, SeqAt.EqAt A s u v b then Classical.choose h else false
theorem eqPick_at {A : Around} {s : Shared} {v u : Value} (h : ∃ b, SeqAt.EqAt A s u v b) : SeqAt.EqAt A s u v (eqPick A s v u) := by
  unfold eqPick
  rw [dif_pos h]
  exact Classical.choose_spec h
def rNotInD (K : PySem.W.Frag) : R2 := fun x y H Q => ∃ (p : Addr) (xs : List V) (ds : List PyData) (d : PyData), y = .ref p ∧ SqL K H p xs ∧ DVs K H ds xs ∧ DV K H d x ∧ SeqAt.shaped d = true ∧ (∀ e ∈ ds, SeqAt.shaped e = true) ∧ ∀ b, Q (.bl b) H
theorem op_notInD (hu : X.A.units + 200 < cLine) : OpR X (compareOp .NotIn) (rNotInD X.K) := by
  intro pins s σ H x y v u Q I rx ry h
  obtain ⟨p, xs, ds, d, rfl, hq, hds, hd, sd, sds, q⟩ := h
  cases ry
  obtain ⟨its, r, pl, hz⟩ := I.list hq
  obtain ⟨as, r1⟩ := DV.reads I d hd rx
  obtain ⟨bs, r2⟩ := DVs.reads I ds hds r
  refine SeqAt.notIn_listAt (eqPick X.A.in1 s v) pl.isList (fun w hw => eqPick_at ?_) ⟨.bl _, H, I, rfl, q _⟩
  obtain ⟨e, he, cs, r3⟩ := reads_mem r2 w (by simpa using hw)
  exact ⟨_, PySem.W.keq_at r3 r1 (sds e he) sd (by show X.A.units + _ + 64 < cLine; omega)⟩
end
end L2

namespace L2
open PySem PySem.Spec PyProof.Rows
/-! ### a comprehension with a test -/
def CompGoalI (J : It) (tc : TT) (te : TE) (σ : St) (D : Addr) (H1 : Hp) (Q : VK) : Prop := ∃ W : Nat → Nat → List V → Hp → Prop, (∃ m, W 0 m [] (upd H1 D (.lst []))) ∧ ∀ i m ys H2, W i m ys H2 →
  H2 D = some (.lst ys) ∧ ((J.stop i H2 ∧ Q (.ref D) H2) ∨ (J.go i H2 ∧ ys.length < sizeLine ∧ ∀ x H3, J.yld i H2 x H3 → tc (some x :: σ) H3 fun b H4 => if b = true then te (some x :: σ) H4 fun y H5 => H5 D = some (.lst ys) ∧ ∃ m', m' < m ∧ W (i + 1) m' (ys ++ [y]) (upd H5 D (.lst (ys ++ [y]))) else ∃ m', m' < m ∧ W (i + 1) m' ys H4))
def tCompI (wi : TI) (tc : TT) (te : TE) : TE := fun σ H Q => wi σ H fun J H1 => ∀ D, H1 D = none → CompGoalI J tc te σ D H1 Q
section
variable {X : Cx} {pins : List (Addr × Obj)} {σ : St} {H : Hp} {s : Shared} {elt iter cnd : Expr} {x : Str} {px pos : Pos} {scope : Scope} {wi : TI} {tc : TT} {te : TE} {Q : VK} {M : List Str}
theorem comp_coreI {cl : List (Str × Addr)} {RR : Value → Addr → Result → Shared → Prop} (S : CompScope scope X.env.scope x X.N M) (hc : X.calm = true) (hi : PI X (.Name x px) iter wi)
    (ht : ∀ cl C s H fp, PT (compCx X x M scope cl C s H fp) cnd tc) (he : ∀ cl C s H fp, PE (compCx X x M scope cl C s H fp) elt te) (I : Inv X pins σ H s) (h : tCompI wi tc te σ H Q)
    (p1 : ∀ n c, cl.lookup n = some c → X.env.cells.lookup n = some c) (p3 : ∀ y ∈ scope.names, y.2 = .free → (cl.lookup y.1).isSome = true)
    (hRR : ∀ D C H' s' o m, Inv X (pins ++ [(C, o)]) σ H' s' → s'.heap.get? C = some o → s'.heap.Ns C m → X.s₀.heap.objs.size ≤ C → (∀ y c, X.env.cells.lookup y = some c → c ≠ C) → (∀ p ∈ X.pn ++ pins, p.1 ≠ C) → Q (.ref D) H' → RR (.ref D) C (.ok .next) s') :
    wpAny (model X.prog X.w) X.A (eval iter X.env) (fun xv s₁ => wpAny (model X.prog X.w) X.A (pyIter xv) (fun it s₂ => wpAny (model X.prog X.w) X.A (newList []) (fun acc s₃ =>
      wpAny (model X.prog X.w) X.A (newFunctionEnv scope X.env.globals cl [] X.env.qual none .none (some X.env)) (fun cenv s₄ =>
        codeAny (model X.prog X.w) X.A (.compStart (.ListComp elt [⟨.Name x px, iter, [cnd], 0⟩] scope pos) 0 it acc { cenv with scope := relabel scope X.env }) (RR acc cenv.locals) s₄) X.xe s₃) X.xe s₂) X.xe s₁) X.xe s := by
  refine thn (hi pins s σ H _ I h) fun v s1 h1 => thn h1 fun itv s2 h2 => ?_
  obtain ⟨it, fp, tn, J, H2, rfl, I2, T, st2, f2, q⟩ := h2
  refine wpAny_newObj_type (wpAny_newFunctionEnv S.nocell (by intro y hy; simp at hy) (fun h₁ hns₁ hsb₁ => ?_) S.kind)
  dsimp only at hns₁ hsb₁ ⊢
  generalize hHH : s2.heap.push { cls := .type "list", dict := none, data := .seq ([] : List Value).toArray } = HH at hns₁ hsb₁ ⊢
  have hCs : HH.objs.size = s2.heap.objs.size + 1 := by rw [← hHH, Heap.size_push]
  have hDC : s2.heap.objs.size ≠ HH.objs.size := by rw [hCs]; exact Nat.ne_of_lt (Nat.lt_succ_self _)
  have hCle : s2.heap.objs.size ≤ HH.objs.size := by rw [hCs]; exact Nat.le_succ _
  have below : ∀ b, b < s2.heap.objs.size → b ≠ HH.objs.size := fun b hb => by rw [hCs]; exact Nat.ne_of_lt (Nat.lt_succ_of_lt hb)
  have old : ∀ b o, s2.heap.get? b = some o → h₁.get? b = some o := fun b o e => hsb₁.extBut b o (below b (Heap.lt_size e)) (Heap.get?_push_of_some _ (hHH ▸ Heap.get?_push_of_some _ e))
  have hacc : h₁.get? s2.heap.objs.size = some { cls := .type "list", data := .seq ([] : List Value).toArray } := hsb₁.extBut _ _ hDC (Heap.get?_push_of_some _ (hHH ▸ Heap.get?_push_size _ rfl))
  have fo : ∀ b ∈ fp, b < s2.heap.objs.size := fun b hb => by
    obtain ⟨o, e, _⟩ := T.obj _ _ st2 b hb
    exact Heap.lt_size e
  have IY := comp_inv (tk := s2.toks + ([] : List (Str × Value)).length) S I2 hCle (Nat.le_refl _) hDC p1 p3 f2 fo old hns₁ hacc
  have st1 : tn 0 h₁ := T.keep _ _ _ st2 fun b _ o e => old b o e
  obtain ⟨W, ⟨m0, w0⟩, turn⟩ := q _ (I2.hok.fresh (Nat.le_refl _))
  generalize hC : HH.objs.size = C at *
  generalize hDD : s2.heap.objs.size = D at *
  have ndY : (compCx X x M scope cl C s2 H2 fp).N.Nodup := by
    refine List.nodup_cons.mpr ⟨fun hm => S.nl x hm (lookup_relabel_local S.hx), S.ndM⟩
  have stat : ∀ {H' : Hp}, (∀ b ∈ fp, H' b = none) → ∀ b ∈ fp, FpOk (compCx X x M scope cl C s2 H2 fp) [] H' b := fun hn b hb =>
    ⟨hn b hb, below b (fo b hb), IY.ok.exfs b hb, .inl hb, fun y c e => (f2 b hb).2.2.2.2.1 y c (p1 y c e), fun p hp => absurd (show p ∈ ([] : List (Addr × Obj)) from hp) (by simp)⟩
  have loop : codeAny (model X.prog X.w) X.A (.compLoop (.ListComp elt [⟨.Name x px, iter, [cnd], 0⟩] scope pos) 0 (.ref it) (.ref D) (compEnvC scope cl C X.env)) (RR (.ref D) C) { s2 with heap := h₁, toks := s2.toks + ([] : List (Str × Value)).length } := by
    refine codeAny_compLoop_tests (fun n s' => ∃ i v0 ys H', Inv (compCx X x M scope cl C s2 H2 fp) [] (v0 :: σ) H' s' ∧ tn i s'.heap ∧ (∀ b ∈ fp, H' b = none) ∧ W i n ys H') ?_ m0 ⟨0, none, [], _, IY, st1, fun b hb => ?_, w0⟩
    · rintro n s3 ⟨i, v0, ys, H3, I3, st3, fr3, w3⟩
      obtain ⟨hDl, hw⟩ := turn i n ys H3 w3
      rcases hw with ⟨stop, qn⟩ | ⟨go, hsz, step⟩
      · refine thn (T.done (compCx X x M scope cl C s2 H2 fp) rfl rfl rfl hc i [] s3 _ H3 _ I3 (stat fr3) st3 stop) fun r s4 ⟨hr, I4⟩ => ?_
        subst hr
        obtain ⟨m4, hn4, _⟩ := I4.loc
        obtain ⟨oC, es4, ep4, e4, r4⟩ := id hn4
        have hCs2 : s2.heap.objs.size ≤ C := by rw [hDD]; exact hCle
        have IX : Inv X pins σ H3 s4 := I2.call' (ch := fp) I4.os I4.base I4.hok I4.bare fun b hb => ⟨(f2 b hb).2.2.2.1, (f2 b hb).2.1, (f2 b hb).2.2.2.2.1, (f2 b hb).2.2.2.2.2⟩
        have fC := I2.fpOk (H' := H3) hCs2 I4.free
        have IX2 : Inv X (pins ++ [(C, oC)]) σ H3 s4 := IX.pins_of fun p hp => (List.mem_append.mp hp).elim (fun z => IX.pin p (List.mem_append_right _ z)) fun z => by
          have e : p = (C, oC) := by simpa using z
          subst e
          exact ⟨e4, fC.1, fC.2.1, fC.2.2.1, fun v z => by rw [r4.1] at z; cases z⟩
        exact hRR D C H3 s4 oC m4 IX2 e4 hn4 (Nat.le_trans I2.sz hCs2) fC.2.2.2.2.1 fC.2.2.2.2.2 qn
      · refine thn (T.item (compCx X x M scope cl C s2 H2 fp) rfl rfl rfl hc i [] s3 _ H3 _ I3 (stat fr3) st3 go) fun r s4 ⟨u, hr, h4⟩ => ?_
        subst hr
        have e0 : ∀ k : Sem Unit, (letOwnedTupleGo (.Name x px) (.ref it) u >>= fun _ => k) = k := fun k => by
          rw [show letOwnedTupleGo (.Name x px) (.ref it) u = pure () from rfl, pure_bind]
        show wpAny _ _ (assign (.Name x px) (compEnvC scope cl C X.env) u) _ _ s4
        rw [← e0 (assign (.Name x px) (compEnvC scope cl C X.env) u)]
        refine wpAny_bind (thn h4 fun _ s5 ⟨xv, H5, I5, r5, y5, st5, fr5⟩ => ?_)
        have I5' := I5.pinned (stat fr5) (T.obj _ _ st5)
        have hxl : (compCx X x M scope cl C s2 H2 fp).env.scope.names.lookup x = some .local := lookup_relabel_local S.hx
        refine wpAny_assign_Name (store_ok (X := compCx X x M scope cl C s2 H2 fp) (i := 0) I5' ndY rfl (Or.inl hxl) r5 (fun s6 I6 => ?_) (.inr hxl))
        refine wpAny_tests_one (wpAny_mono (ht cl C s2 H2 fp _ s6 _ H5 _ I6 (step xv H5 y5)) (fun b s6' ⟨H6, I6', hb⟩ => ?_) (fun _ _ f => f.elim))
        cases b with
        | true =>
          rw [if_pos rfl]
          have hb' := (if_pos rfl).mp hb
          refine wpAny_mono (he cl C s2 H2 fp _ s6' _ H6 _ I6' hb') (fun y s7 ⟨yv, H7, I7, r7, hD7, m', hm', w7⟩ => ?_) (fun _ _ f => f.elim)
          refine wpAny_mono (mt_append (X := compCx X x M scope cl C s2 H2 fp) _ s7 _ H7 (.ref D) [yv] (.ref D) [y] (fun _ H8 => H8 = upd H7 D (.lst (ys ++ [yv]))) I7 rfl (.cons r7 .nil) ⟨D, ys, yv, rfl, rfl, hD7, hsz, rfl⟩)
            (fun _ s8 ⟨_, H8, I8, _, e8⟩ => ?_) (fun _ _ f => f.elim)
          subst e8
          refine ⟨m', hm', i + 1, some xv, ys ++ [yv], _, I8.unpinned, T.keep _ _ _ st5 fun b hb o e => (I8.pin (b, o) (List.mem_append_right _ (List.mem_append_right _ (mem_pinsAt hb e)))).1, fun b hb => ?_, w7⟩
          obtain ⟨o, e, d⟩ := T.obj _ _ st5 b hb
          exact (I8.pin (b, o) (List.mem_append_right _ (List.mem_append_right _ (mem_pinsAt hb e)))).2.1
        | false =>
          rw [if_neg Bool.false_ne_true]
          rw [if_neg Bool.false_ne_true] at hb
          obtain ⟨m', hm', w7⟩ := hb
          refine ⟨m', hm', i + 1, some xv, ys, _, I6'.unpinned, T.keep _ _ _ st5 fun b hb o e => (I6'.pin (b, o) (List.mem_append_right _ (List.mem_append_right _ (mem_pinsAt hb e)))).1, fun b hb => ?_, w7⟩
          obtain ⟨o, e, d⟩ := T.obj _ _ st5 b hb
          exact (I6'.pin (b, o) (List.mem_append_right _ (List.mem_append_right _ (mem_pinsAt hb e)))).2.1
    · show (upd H2 D (.lst [])) b = none
      rw [upd_ne (Nat.ne_of_lt (fo b hb))]
      exact (f2 b hb).1
  exact codeAny_compStart_list loop (T.self _ 0 _ _ _ st1 loop)
theorem pe_compI (S : CompScope scope X.env.scope x X.N M) (hc : X.calm = true) (hi : PI X (.Name x px) iter wi) (ht : ∀ cl C s H fp, PT (compCx X x M scope cl C s H fp) cnd tc) (he : ∀ cl C s H fp, PE (compCx X x M scope cl C s H fp) elt te)
    (hs : ∀ x, foldedSetIterable iter X.env x = pure x := by intro _; rfl) : PE X (.ListComp elt [⟨.Name x px, iter, [cnd], 0⟩] scope pos) (tCompI wi tc te) := by
  intro pins s σ H Q I h
  obtain ⟨cl, hclos, p1, p3⟩ := clos_some (scope := scope) (env := X.env) (fun y hy hf => I.ok.has y.1 (.inl (S.free y hy hf)))
  rw [eval_ListComp]
  refine wpAny_comprehension_free (use := none) rfl hs hclos S.kind S.names (comp_coreI (RR := fun acc C => compPost (model X.prog X.w) X.A X.xe none (EP X pins σ Q) acc C) S hc hi ht he I h p1 p3 ?_)
  intro D C H' s' o m I' e hn h0 h1 h2 q
  refine ⟨m, hn, fun h' hs' => ?_⟩
  have pC := I'.pin (C, o) (List.mem_append_right _ (List.mem_append_right _ (by simp)))
  have IX : Inv X pins σ H' s' := I'.unpinned
  exact ⟨.ref D, H', IX.turned (t' := s'.toks) (fun b ob hb e => (hs'.2 b hb).trans e) pC.2.1 pC.2.2.1 (.inr h0) h1 h2, rfl, q⟩
end
end L2

namespace L2
open PySem PySem.Spec PySem.Calls PyProof.Rows
/-! ### for k in a dict of the module -/
def KeysAre : List DictEntry → List Str → Prop
  | [], ns => ns = []
  | e :: r, ns => ∃ x xs t, ns = x :: xs ∧ e.key = .str x t ∧ KeysAre r xs
theorem keysAre_of : ∀ {es : List DictEntry} {xs : List (Str × Tok)}, es.map DictEntry.key = xs.map (fun p => .str p.1 p.2) → KeysAre es (xs.map (·.1))
  | [], [], _ => rfl
  | [], _ :: _, h => by simp at h
  | _ :: _, [], h => by simp at h
  | e :: es, (x, t) :: xs, h => by
    rw [List.map_cons, List.map_cons] at h
    injection h with h1 h2
    exact ⟨x, xs.map (·.1), t, rfl, h1, keysAre_of h2⟩
structure TabKeys (P : Params) (K : PySem.W.Frag) (a : Addr) (ns : List Str) : Prop where
  ex : ∃ es n, K.lookup a = some ⟨.type "dict", none, .dict es n, #[]⟩ ∧ PySem.W.KeysLit P es.toList ∧ KeysAre es.toList ns
  nd : ns.Nodup
  lo : (a == sysModules) = false
def Itk (ns : List Str) : It := ⟨fun i _ => i < ns.length, fun i H x H' => H' = H ∧ ∃ z, ns[i]? = some z ∧ x = .str z, fun i _ => ns.length ≤ i⟩
theorem pairs_keys {prog : Program} {w : World} : ∀ (es : List DictEntry) (ns : List Str), PySem.W.KeysLit w.params es → KeysAre es ns → ∃ kvs : List (Str × Value), Pairs (strKind prog w) es kvs ∧ kvs.map (·.1) = ns := by
  intro es
  induction es with
  | nil =>
    intro ns _ h
    have h' : ns = [] := h
    subst h'
    exact ⟨[], by first | exact .nil | exact trivial | exact rfl | constructor, rfl⟩
  | cons e r ih =>
    rintro ns ⟨⟨x, t, e1, e2⟩, hk⟩ ⟨y, ys, t', rfl, e3, hr⟩
    obtain ⟨kvs, h1, h2⟩ := ih ys hk hr
    rw [e1] at e3
    injection e3 with e4 _
    subst e4
    exact ⟨(x, e.val) :: kvs, .cons (by rw [e1]; exact strKind_is prog w x t) rfl h1, by rw [List.map_cons, h2]⟩
theorem TabKeys.at {prog : Program} {w : World} {K : PySem.W.Frag} {a : Addr} {ns : List Str} (T : TabKeys w.params K a ns) : ∃ (kvs : List (Str × Value)) (n : Nat), kvs.map (·.1) = ns ∧ ∀ h : Heap, K.In h → h.DictAt (strKind prog w) a kvs n := by
  obtain ⟨es, n, hl, hk, ha⟩ := T.ex
  obtain ⟨kvs, h1, h2⟩ := pairs_keys (prog := prog) es.toList ns hk ha
  refine ⟨kvs, n, h2, fun h X => ⟨_, es, X _ _ hl, ⟨rfl, rfl, rfl⟩, rfl, fun e he => ?_, h1, by rw [h2]; exact T.nd⟩⟩
  obtain ⟨x, t, e1, e2⟩ := hk.all e (Array.mem_toList_iff.mpr he)
  exact ⟨x, by rw [e1]; exact strKind_is prog w x t, e2⟩
theorem isStr_shape {prog : Program} {w : World} {k : Str} {v : Value} (h : (strKind prog w).is k v = true) : ∃ t, v = .str k t := by
  have h' : Value.isStrOf k v = true := h
  cases v with
  | str x t =>
    have : k = x ∨ x = k := by first | exact .inl (by simpa [Value.isStrOf] using h') | exact .inr (by simpa [Value.isStrOf] using h')
    rcases this with rfl | rfl <;> exact ⟨t, rfl⟩
  | _ => exact absurd h' (by simp [Value.isStrOf])
theorem turn_keys {P : Program} {w : World} {K : PySem.W.Frag} {tg : Expr} (it d : Addr) (ns : List Str) (kvs : List (Str × Value)) (n : Nat) (hn : kvs.map (·.1) = ns) (hd : ∀ h : Heap, K.In h → h.DictAt (strKind P w) d kvs n) (hne : d ≠ it) :
    Turn P w K tg (Itk ns) [it] it (fun i h => h.IsKeyIter it d i kvs.length n) where
  mem := by simp
  obj := fun i h st b hb => by
    have e : b = it := by simpa using hb
    subst e
    obtain ⟨o, e, c, dd⟩ := st
    exact ⟨o, e, fun v z => by rw [dd] at z; cases z⟩
  keep := fun i h h' st k => st.at fun o e => k it (by simp) o e
  item := by
    intro X hP hw hK hc i pins s σ H E I hf st hg
    subst hP hw hK
    obtain ⟨f0, f1, f2, f3, f4, f5⟩ := hf it (by simp)
    have W := Walks.dictKeys (knd := strKind X.prog X.w) (A := X.A) (I.ok.hd hc) it d hne kvs n
    have hlen : kvs.length = ns.length := by rw [← hn, List.length_map]
    refine W.item i s _ _ (by rw [hlen]; exact hg) ⟨st, hd _ I.kIn⟩ fun v h' tk hv st' kk => ?_
    obtain ⟨k, x, hx, hk⟩ := hv
    obtain ⟨t, rfl⟩ := isStr_shape hk
    have I1 : Inv X pins σ H { s with heap := h', toks := tk } := I.turned (fun b o hb e => kk b o (by simpa using hb) e) f0 f1 f3 f4 f5
    obtain ⟨oi, ei, ci, di⟩ := id st'.1
    exact ⟨_, rfl, go_of (s := { s with heap := h', toks := tk }) (n := "dict_keyiterator") ei ci di (by decide) ⟨.str k, H, I1, ⟨t, rfl⟩, ⟨rfl, k, by rw [← hn, List.getElem?_map, hx]; rfl, rfl⟩, st'.1, fun b hb => (hf b hb).1⟩⟩
  done := by
    intro X hP hw hK hc i pins s σ H E I hf st hg
    subst hP hw hK
    obtain ⟨f0, f1, f2, f3, f4, f5⟩ := hf it (by simp)
    have hlen : kvs.length = ns.length := by rw [← hn, List.length_map]
    have hg' : ns.length ≤ i := hg
    exact wpAny_pyNext_dict_end (I.ok.hd hc) st (hd _ I.kIn) (by first | omega | (rw [List.getElem?_eq_none_iff]; omega)) fun h' eb => ⟨rfl, I.turned (t' := s.toks) (fun b o hb e => eb b o hb e) f0 f1 f3 f4 f5⟩
  self := fun _ _ _ _ _ st h => wpAny_pyIter_keyiter st h
section
variable {X : Cx} {tg : Expr}
def iTab (ns : List Str) : TI := fun _ H R => R (Itk ns) H
theorem pi_tab {x : Str} {d : Addr} {ns : List Str} {p : Pos} (T : TabKeys X.w.params X.K d ns) (hg : Gl X x) (hm : X.mg x = some (.ref d)) (hdb : (x == ("__debug__" : Str)) = false := by decide) : PI X tg (.Name x p) (iTab ns) := by
  intro pins s σ H R I h
  refine ld_glob I hg hm ?_ hdb
  obtain ⟨kvs, n, hn, hd⟩ := T.at (prog := X.prog)
  have hda := hd _ I.kIn
  refine wpAny_pyIter_dict T.lo hda ?_
  refine ⟨s.heap.objs.size, [s.heap.objs.size], _, _, H, rfl, I.kept (t' := s.toks) fun b o e => Heap.get?_push_of_some _ e, turn_keys _ d ns kvs n hn hd (Nat.ne_of_lt hda.lt_size), ⟨_, Heap.get?_push_size _ rfl, rfl, rfl⟩, fun b hb => ?_, h⟩
  have e : b = s.heap.objs.size := by simpa using hb
  subst e
  exact I.fpOk (Nat.le_refl _) (I.hok.fresh (Nat.le_refl _))
end
/-- a comprehension with a test over a dict's keys -/
def CompSkip (n : Nat) (Pv : Nat → List V → Hp → Prop) (i : Nat) (ys : List V) (H4 : Hp) : Prop := ∃ m', m' < n - i ∧ m' = n - (i + 1) ∧ i + 1 ≤ n ∧ Pv (i + 1) ys H4
theorem CompSkip.mk {n : Nat} {Pv : Nat → List V → Hp → Prop} {i : Nat} {ys : List V} {H4 : Hp} (hi : i < n) (h : Pv (i + 1) ys H4) : CompSkip n Pv i ys H4 := ⟨n - (i + 1), by omega, rfl, hi, h⟩
theorem compI_tab {ns : List Str} {D : Addr} {tc : TT} {te : TE} {Q : VK} {σ : St} {H1 : Hp} (Pv : Nat → List V → Hp → Prop) (h0 : Pv 0 [] (upd H1 D (.lst []))) (hz : ns.length ≤ sizeLine)
    (hl : ∀ i ys H2, i ≤ ns.length → Pv i ys H2 → H2 D = some (.lst ys) ∧ ys.length ≤ i)
    (hs : ∀ i z ys H2, ns[i]? = some z → Pv i ys H2 → tc (some (.str z) :: σ) H2 fun b H4 => if b = true then te (some (.str z) :: σ) H4 (CompNext D ns.length Pv i ys) else CompSkip ns.length Pv i ys H4) (hd : ∀ ys H2, Pv ns.length ys H2 → Q (.ref D) H2) :
    CompGoalI (Itk ns) tc te σ D H1 Q := by
  refine ⟨fun i m ys H => m = ns.length - i ∧ i ≤ ns.length ∧ Pv i ys H, ⟨ns.length, by simp, Nat.zero_le _, h0⟩, ?_⟩
  rintro i m ys H2 ⟨rfl, hi, p⟩
  obtain ⟨q2, q3⟩ := hl i ys H2 hi p
  refine ⟨q2, ?_⟩
  by_cases hlt : i < ns.length
  · refine .inr ⟨hlt, by omega, fun x H3 y => ?_⟩
    obtain ⟨e, z, hz', ex⟩ := y
    subst e ex
    exact hs i z ys _ hz' p
  · have e : i = ns.length := by omega
    subst e
    exact .inl ⟨Nat.le_refl _, hd ys H2 p⟩
section
variable {X : Cx}
theorem ix_tabK {K : PySem.W.Frag} {pr : Params} (ek : X.K = K) (ep : X.w.params = pr) : IxR X (fun x y H Q => ∃ a z v u, x = .ref a ∧ y = .str z ∧ TabK pr K a ∧ PySem.W.nsIn K a z = some (some u) ∧ RelV v u ∧ Q v H) := by
  subst ek ep; exact ix_tab
end
end L2


namespace My
open PySem L2
def top (i : Nat) : Stmt := PySem.Challenge.pw_moot_k10_kinds_in_order.main.body.getD i (.Pass ⟨0, 0, 0, 0⟩)
abbrev s_Matter_kind : Stmt := inClass (top 4) 1
theorem sc_Matter_kind : FnScope ["self"] ["self"] (defScope s_Matter_kind) := ⟨rfl, rfl, rfl, by decide +kernel, rfl, by decide +kernel, by decide +kernel⟩
abbrev s_Change_kind : Stmt := inClass (top 5) 1
theorem sc_Change_kind : FnScope ["self"] ["self"] (defScope s_Change_kind) := ⟨rfl, rfl, rfl, by decide +kernel, rfl, by decide +kernel, by decide +kernel⟩
abbrev s_Mend_kind : Stmt := inClass (top 6) 1
theorem sc_Mend_kind : FnScope ["self"] ["self"] (defScope s_Mend_kind) := ⟨rfl, rfl, rfl, by decide +kernel, rfl, by decide +kernel, by decide +kernel⟩
abbrev s_PutOff_kind : Stmt := inClass (top 7) 1
theorem sc_PutOff_kind : FnScope ["self"] ["self"] (defScope s_PutOff_kind) := ⟨rfl, rfl, rfl, by decide +kernel, rfl, by decide +kernel, by decide +kernel⟩
abbrev s_Close_kind : Stmt := inClass (top 8) 0
theorem sc_Close_kind : FnScope ["self"] ["self"] (defScope s_Close_kind) := ⟨rfl, rfl, rfl, by decide +kernel, rfl, by decide +kernel, by decide +kernel⟩
abbrev s_Lay_kind : Stmt := inClass (top 9) 0
theorem sc_Lay_kind : FnScope ["self"] ["self"] (defScope s_Lay_kind) := ⟨rfl, rfl, rfl, by decide +kernel, rfl, by decide +kernel, by decide +kernel⟩
abbrev s_Rest_kind : Stmt := inClass (top 10) 0
theorem sc_Rest_kind : FnScope ["self"] ["self"] (defScope s_Rest_kind) := ⟨rfl, rfl, rfl, by decide +kernel, rfl, by decide +kernel, by decide +kernel⟩
abbrev s_Point_kind : Stmt := inClass (top 11) 1
theorem sc_Point_kind : FnScope ["self"] ["self"] (defScope s_Point_kind) := ⟨rfl, rfl, rfl, by decide +kernel, rfl, by decide +kernel, by decide +kernel⟩
abbrev s_Motion_rank : Stmt := inClass (top 3) 1
theorem sc_Motion_rank : FnScope ["self"] ["self"] (defScope s_Motion_rank) := ⟨rfl, rfl, rfl, by decide +kernel, rfl, by decide +kernel, by decide +kernel⟩
abbrev s_Motion_need : Stmt := inClass (top 3) 2
theorem sc_Motion_need : FnScope ["self"] ["self"] (defScope s_Motion_need) := ⟨rfl, rfl, rfl, by decide +kernel, rfl, by decide +kernel, by decide +kernel⟩
abbrev s_Close_need : Stmt := inClass (top 8) 1
theorem sc_Close_need : FnScope ["self"] ["self"] (defScope s_Close_need) := ⟨rfl, rfl, rfl, by decide +kernel, rfl, by decide +kernel, by decide +kernel⟩
abbrev s_Motion_told : Stmt := inClass (top 3) 3
theorem sc_Motion_told : FnScope ["self"] ["self"] (defScope s_Motion_told) := ⟨rfl, rfl, rfl, by decide +kernel, rfl, by decide +kernel, by decide +kernel⟩
abbrev s_Matter_told : Stmt := inClass (top 4) 2
theorem sc_Matter_told : FnScope ["self"] ["self"] (defScope s_Matter_told) := ⟨rfl, rfl, rfl, by decide +kernel, rfl, by decide +kernel, by decide +kernel⟩
abbrev s_Change_told : Stmt := inClass (top 5) 2
theorem sc_Change_told : FnScope ["self"] ["self"] (defScope s_Change_told) := ⟨rfl, rfl, rfl, by decide +kernel, rfl, by decide +kernel, by decide +kernel⟩
abbrev s_Mend_told : Stmt := inClass (top 6) 2
theorem sc_Mend_told : FnScope ["self"] ["self"] (defScope s_Mend_told) := ⟨rfl, rfl, rfl, by decide +kernel, rfl, by decide +kernel, by decide +kernel⟩
abbrev s_PutOff_told : Stmt := inClass (top 7) 2
theorem sc_PutOff_told : FnScope ["self"] ["self"] (defScope s_PutOff_told) := ⟨rfl, rfl, rfl, by decide +kernel, rfl, by decide +kernel, by decide +kernel⟩
abbrev s_Point_told : Stmt := inClass (top 11) 2
theorem sc_Point_told : FnScope ["self"] ["self"] (defScope s_Point_told) := ⟨rfl, rfl, rfl, by decide +kernel, rfl, by decide +kernel, by decide +kernel⟩
abbrev s_Matter_init : Stmt := inClass (top 4) 0
theorem sc_Matter_init : FnScope ["self", "text"] ["self", "text"] (defScope s_Matter_init) := ⟨rfl, rfl, rfl, by decide +kernel, rfl, by decide +kernel, by decide +kernel⟩
abbrev s_Change_init : Stmt := inClass (top 5) 0
theorem sc_Change_init : FnScope ["self", "edit"] ["self", "edit"] (defScope s_Change_init) := ⟨rfl, rfl, rfl, by decide +kernel, rfl, by decide +kernel, by decide +kernel⟩
abbrev s_Mend_init : Stmt := inClass (top 6) 0
theorem sc_Mend_init : FnScope ["self", "edit"] ["self", "edit"] (defScope s_Mend_init) := ⟨rfl, rfl, rfl, by decide +kernel, rfl, by decide +kernel, by decide +kernel⟩
abbrev s_PutOff_init : Stmt := inClass (top 7) 0
theorem sc_PutOff_init : FnScope ["self", "sitting"] ["self", "sitting"] (defScope s_PutOff_init) := ⟨rfl, rfl, rfl, by decide +kernel, rfl, by decide +kernel, by decide +kernel⟩
abbrev s_Point_init : Stmt := inClass (top 11) 0
theorem sc_Point_init : FnScope ["self", "clause"] ["self", "clause"] (defScope s_Point_init) := ⟨rfl, rfl, rfl, by decide +kernel, rfl, by decide +kernel, by decide +kernel⟩

abbrev s_motion_of : Stmt := top 12
theorem sc_motion_of : FnScope ["told", "kind"] ["told"] (defScope s_motion_of) := ⟨rfl, rfl, rfl, by decide +kernel, rfl, by decide +kernel, by decide +kernel⟩

abbrev s_bar_of : Stmt := top 15
theorem sc_bar_of : FnScope ["pile", "closed", "bar"] ["pile", "closed"] (defScope s_bar_of) := ⟨rfl, rfl, rfl, by decide +kernel, rfl, by decide +kernel, by decide +kernel⟩

abbrev s_has_matter : Stmt := top 16
theorem sc_has_matter : FnScope ["pile"] ["pile"] (defScope s_has_matter) := ⟨rfl, rfl, rfl, by decide +kernel, rfl, by decide +kernel, by decide +kernel⟩
abbrev kcs_has_matter_0 : Scope := { kind := .function, names := [(Str.ofString ".0", .local), (Str.ofString "motion", .local)], isGenerator := false, isCoroutine := false, more := [] }
theorem cs_has_matter_0 : CompScope kcs_has_matter_0 (defScope s_has_matter) "motion" ["pile"] ["pile"] := ⟨rfl, rfl, by decide +kernel, by decide +kernel, rfl, by decide +kernel, by decide +kernel, by decide +kernel, by decide +kernel, rfl, by decide +kernel, by decide +kernel⟩

abbrev s_can_be_mended : Stmt := top 17
theorem sc_can_be_mended : FnScope ["pile", "told"] ["pile"] (defScope s_can_be_mended) := ⟨rfl, rfl, rfl, by decide +kernel, rfl, by decide +kernel, by decide +kernel⟩

abbrev s_has_what_it_needs : Stmt := top 18
theorem sc_has_what_it_needs : FnScope ["kind", "pile"] ["kind", "pile"] (defScope s_has_what_it_needs) := ⟨rfl, rfl, rfl, by decide +kernel, rfl, by decide +kernel, by decide +kernel⟩

abbrev s_kinds_in_order : Stmt := top 19
theorem sc_kinds_in_order : FnScope ["pile", "closed", "bar"] ["pile", "closed"] (defScope s_kinds_in_order) := ⟨rfl, rfl, rfl, by decide +kernel, rfl, by decide +kernel, by decide +kernel⟩
abbrev kcs_kinds_in_order_0 : Scope := { kind := .function, names := [(Str.ofString ".0", .local), (Str.ofString "kind", .local), (Str.ofString "RANKS", .globalImplicit), (Str.ofString "has_what_it_needs", .globalImplicit), (Str.ofString "bar", .free), (Str.ofString "pile", .free)], isGenerator := false, isCoroutine := false, more := [] }
theorem cs_kinds_in_order_0 : CompScope kcs_kinds_in_order_0 (defScope s_kinds_in_order) "kind" ["pile", "closed", "bar"] ["pile", "closed", "bar"] := ⟨rfl, rfl, by decide +kernel, by decide +kernel, rfl, by decide +kernel, by decide +kernel, by decide +kernel, by decide +kernel, rfl, by decide +kernel, by decide +kernel⟩

abbrev s_l_cell_at : Stmt := top 21
theorem sc_l_cell_at : FnScope ["_law_script", "_law_k"] ["_law_script", "_law_k"] (defScope s_l_cell_at) := ⟨rfl, rfl, rfl, by decide +kernel, rfl, by decide +kernel, by decide +kernel⟩

abbrev s_l_word : Stmt := top 22
theorem sc_l_word : FnScope ["_law_cell", "_law_signs", "_law_word_here", "_law_k"] ["_law_cell"] (defScope s_l_word) := ⟨rfl, rfl, rfl, by decide +kernel, rfl, by decide +kernel, by decide +kernel⟩

abbrev s_l_clause : Stmt := top 23
theorem sc_l_clause : FnScope ["_law_cell", "_law_words", "_law_number", "_law_k"] ["_law_cell"] (defScope s_l_clause) := ⟨rfl, rfl, rfl, by decide +kernel, rfl, by decide +kernel, by decide +kernel⟩

abbrev s_l_pile : Stmt := top 25
theorem sc_l_pile : FnScope ["_law_script", "_law_shape", "_law_clauses", "_law_pile_here", "_law_cell", "_law_edit_here"] ["_law_script"] (defScope s_l_pile) := ⟨rfl, rfl, rfl, by decide +kernel, rfl, by decide +kernel, by decide +kernel⟩
abbrev kcs_l_pile_0 : Scope := { kind := .function, names := [(Str.ofString ".0", .local), (Str.ofString "_law_k", .local), (Str.ofString "_law_clause", .globalImplicit), (Str.ofString "_law_cell_at", .globalImplicit), (Str.ofString "_law_script", .free)], isGenerator := false, isCoroutine := false, more := [] }
theorem cs_l_pile_0 : CompScope kcs_l_pile_0 (defScope s_l_pile) "_law_k" ["_law_script", "_law_shape", "_law_clauses", "_law_pile_here", "_law_cell", "_law_edit_here"] ["_law_script", "_law_shape", "_law_clauses", "_law_pile_here", "_law_cell", "_law_edit_here"] := ⟨rfl, rfl, by decide +kernel, by decide +kernel, rfl, by decide +kernel, by decide +kernel, by decide +kernel, by decide +kernel, rfl, by decide +kernel, by decide +kernel⟩

abbrev s_l_due : Stmt := top 26
theorem sc_l_due : FnScope ["_law_told", "_law_closed", "_law_ranks", "_law_bar", "_law_due_here", "_law_kind", "_law_matter"] ["_law_told", "_law_closed"] (defScope s_l_due) := ⟨rfl, rfl, rfl, by decide +kernel, rfl, by decide +kernel, by decide +kernel⟩

abbrev s_law : Stmt := top 27
theorem sc_law : FnScope ["_law_script", "_law_told", "_law_closed", "_law_pile_here", "_law_due_here", "_law_found"] ["_law_script"] (defScope s_law) := ⟨rfl, rfl, rfl, by decide +kernel, rfl, by decide +kernel, by decide +kernel⟩
abbrev kcs_law_0 : Scope := { kind := .function, names := [(Str.ofString ".0", .local), (Str.ofString "_law_one", .local), (Str.ofString "motion_of", .globalImplicit)], isGenerator := false, isCoroutine := false, more := [] }
theorem cs_law_0 : CompScope kcs_law_0 (defScope s_law) "_law_one" ["_law_script", "_law_told", "_law_closed", "_law_pile_here", "_law_due_here", "_law_found"] ["_law_script", "_law_told", "_law_closed", "_law_pile_here", "_law_due_here", "_law_found"] := ⟨rfl, rfl, by decide +kernel, by decide +kernel, rfl, by decide +kernel, by decide +kernel, by decide +kernel, by decide +kernel, rfl, by decide +kernel, by decide +kernel⟩
abbrev kcs_law_1 : Scope := { kind := .function, names := [(Str.ofString ".0", .local), (Str.ofString "_law_one", .local)], isGenerator := false, isCoroutine := false, more := [] }
theorem cs_law_1 : CompScope kcs_law_1 (defScope s_law) "_law_one" ["_law_script", "_law_told", "_law_closed", "_law_pile_here", "_law_due_here", "_law_found"] ["_law_script", "_law_told", "_law_closed", "_law_pile_here", "_law_due_here", "_law_found"] := ⟨rfl, rfl, by decide +kernel, by decide +kernel, rfl, by decide +kernel, by decide +kernel, by decide +kernel, by decide +kernel, rfl, by decide +kernel, by decide +kernel⟩

structure Adr where
  motion_of : Addr
  fd_motion_of : FuncData
  bar_of : Addr
  fd_bar_of : FuncData
  has_matter : Addr
  fd_has_matter : FuncData
  can_be_mended : Addr
  fd_can_be_mended : FuncData
  has_what_it_needs : Addr
  fd_has_what_it_needs : FuncData
  kinds_in_order : Addr
  fd_kinds_in_order : FuncData
  l_cell_at : Addr
  fd_l_cell_at : FuncData
  l_word : Addr
  fd_l_word : FuncData
  l_clause : Addr
  fd_l_clause : FuncData
  l_pile : Addr
  fd_l_pile : FuncData
  l_due : Addr
  fd_l_due : FuncData
  c0 : Addr
  c1 : Addr
  c2 : Addr
  c3 : Addr
  c4 : Addr
  c5 : Addr
  c6 : Addr
  c7 : Addr
  Cm : Addr
  tab : Addr
  f_k0 : Addr
  fd_k0 : FuncData
  f_k1 : Addr
  fd_k1 : FuncData
  f_k2 : Addr
  fd_k2 : FuncData
  f_k3 : Addr
  fd_k3 : FuncData
  f_k4 : Addr
  fd_k4 : FuncData
  f_k5 : Addr
  fd_k5 : FuncData
  f_k6 : Addr
  fd_k6 : FuncData
  f_k7 : Addr
  fd_k7 : FuncData
  f_r : Addr
  fd_r : FuncData
  f_n : Addr
  fd_n : FuncData
  f_n4 : Addr
  fd_n4 : FuncData
  f_t : Addr
  fd_t : FuncData
  f_t0 : Addr
  fd_t0 : FuncData
  f_t1 : Addr
  fd_t1 : FuncData
  f_t2 : Addr
  fd_t2 : FuncData
  f_t3 : Addr
  fd_t3 : FuncData
  f_t7 : Addr
  fd_t7 : FuncData
  f_i0 : Addr
  fd_i0 : FuncData
  f_i1 : Addr
  fd_i1 : FuncData
  f_i2 : Addr
  fd_i2 : FuncData
  f_i3 : Addr
  fd_i3 : FuncData
  f_i7 : Addr
  fd_i7 : FuncData
  tk_CLOSED_BAR : Tok
def Adr.C (A : Adr) : Nat → Addr
  | 0 => A.c0
  | 1 => A.c1
  | 2 => A.c2
  | 3 => A.c3
  | 4 => A.c4
  | 5 => A.c5
  | 6 => A.c6
  | _ => A.c7
def Adr.fk (A : Adr) : Nat → Addr
  | 0 => A.f_k0
  | 1 => A.f_k1
  | 2 => A.f_k2
  | 3 => A.f_k3
  | 4 => A.f_k4
  | 5 => A.f_k5
  | 6 => A.f_k6
  | _ => A.f_k7
def Adr.fkd (A : Adr) : Nat → FuncData
  | 0 => A.fd_k0
  | 1 => A.fd_k1
  | 2 => A.fd_k2
  | 3 => A.fd_k3
  | 4 => A.fd_k4
  | 5 => A.fd_k5
  | 6 => A.fd_k6
  | _ => A.fd_k7
def Adr.fn (A : Adr) : Nat → Addr
  | 0 => A.f_n
  | 1 => A.f_n
  | 2 => A.f_n
  | 3 => A.f_n
  | 4 => A.f_n4
  | 5 => A.f_n
  | 6 => A.f_n
  | _ => A.f_n
def Adr.fnd (A : Adr) : Nat → FuncData
  | 0 => A.fd_n
  | 1 => A.fd_n
  | 2 => A.fd_n
  | 3 => A.fd_n
  | 4 => A.fd_n4
  | 5 => A.fd_n
  | 6 => A.fd_n
  | _ => A.fd_n
def Adr.ft (A : Adr) : Nat → Addr
  | 0 => A.f_t0
  | 1 => A.f_t1
  | 2 => A.f_t2
  | 3 => A.f_t3
  | 4 => A.f_t
  | 5 => A.f_t
  | 6 => A.f_t
  | _ => A.f_t7
def Adr.ftd (A : Adr) : Nat → FuncData
  | 0 => A.fd_t0
  | 1 => A.fd_t1
  | 2 => A.fd_t2
  | 3 => A.fd_t3
  | 4 => A.fd_t
  | 5 => A.fd_t
  | 6 => A.fd_t
  | _ => A.fd_t7
def nm : Nat → Str
  | 0 => Str.ofString "matter"
  | 1 => Str.ofString "change"
  | 2 => Str.ofString "mend"
  | 3 => Str.ofString "put off"
  | 4 => Str.ofString "close"
  | 5 => Str.ofString "lay"
  | 6 => Str.ofString "rest"
  | _ => Str.ofString "point"
structure TyC (K : PySem.W.Frag) (C : Addr) : Prop where
  ha : PySem.W.findIn K (.ref C) "__class__" = some (some (.builtin "object.__class__"))
  hn : PySem.W.specialIn K (.builtin "object.__class__") "__get__" = some (some (.builtin "getset_descriptor.__get__"))
  htk : PySem.W.takesIn K (.builtin "object.__class__") = some true
  hm : PySem.W.mroIn K C (.type "object") = some true
structure Txt (P : Params) (K : PySem.W.Frag) (mg : Str → Option Value) (A : Adr) : Prop where
  F_motion_of : Fun K "motion_of" "motion_of" s_motion_of A.motion_of A.fd_motion_of
  b_motion_of : Binds K A.fd_motion_of ["told"] []
  g_motion_of : mg "motion_of" = some (.ref A.motion_of)
  F_bar_of : Fun K "bar_of" "bar_of" s_bar_of A.bar_of A.fd_bar_of
  b_bar_of : Binds K A.fd_bar_of ["pile", "closed"] []
  g_bar_of : mg "bar_of" = some (.ref A.bar_of)
  F_has_matter : Fun K "has_matter" "has_matter" s_has_matter A.has_matter A.fd_has_matter
  b_has_matter : Binds K A.fd_has_matter ["pile"] []
  g_has_matter : mg "has_matter" = some (.ref A.has_matter)
  F_can_be_mended : Fun K "can_be_mended" "can_be_mended" s_can_be_mended A.can_be_mended A.fd_can_be_mended
  b_can_be_mended : Binds K A.fd_can_be_mended ["pile"] []
  g_can_be_mended : mg "can_be_mended" = some (.ref A.can_be_mended)
  F_has_what_it_needs : Fun K "has_what_it_needs" "has_what_it_needs" s_has_what_it_needs A.has_what_it_needs A.fd_has_what_it_needs
  b_has_what_it_needs : Binds K A.fd_has_what_it_needs ["kind", "pile"] []
  g_has_what_it_needs : mg "has_what_it_needs" = some (.ref A.has_what_it_needs)
  F_kinds_in_order : Fun K "kinds_in_order" "kinds_in_order" s_kinds_in_order A.kinds_in_order A.fd_kinds_in_order
  b_kinds_in_order : Binds K A.fd_kinds_in_order ["pile", "closed"] []
  g_kinds_in_order : mg "kinds_in_order" = some (.ref A.kinds_in_order)
  F_l_cell_at : Fun K "_law_cell_at" "_law_cell_at" s_l_cell_at A.l_cell_at A.fd_l_cell_at
  b_l_cell_at : Binds K A.fd_l_cell_at ["_law_script", "_law_k"] []
  g_l_cell_at : mg "_law_cell_at" = some (.ref A.l_cell_at)
  F_l_word : Fun K "_law_word" "_law_word" s_l_word A.l_word A.fd_l_word
  b_l_word : Binds K A.fd_l_word ["_law_cell"] []
  g_l_word : mg "_law_word" = some (.ref A.l_word)
  F_l_clause : Fun K "_law_clause" "_law_clause" s_l_clause A.l_clause A.fd_l_clause
  b_l_clause : Binds K A.fd_l_clause ["_law_cell"] []
  g_l_clause : mg "_law_clause" = some (.ref A.l_clause)
  F_l_pile : Fun K "_law_pile" "_law_pile" s_l_pile A.l_pile A.fd_l_pile
  b_l_pile : Binds K A.fd_l_pile ["_law_script"] []
  g_l_pile : mg "_law_pile" = some (.ref A.l_pile)
  F_l_due : Fun K "_law_due" "_law_due" s_l_due A.l_due A.fd_l_due
  b_l_due : Binds K A.fd_l_due ["_law_told", "_law_closed"] []
  g_l_due : mg "_law_due" = some (.ref A.l_due)
  n_range : mg "range" = none
  n_list : mg "list" = none
  n_isinstance : mg "isinstance" = none
  n_len : mg "len" = none
  n_max : mg "max" = none
  n_any : mg "any" = none
  g_CLOSED_BAR : mg "CLOSED_BAR" = some (.int 4 A.tk_CLOSED_BAR)
  cl : ∀ k, k < 8 → Cls K (A.C k)
  tyc : ∀ k, k < 8 → TyC K (A.C k)
  g_Matter : mg "Matter" = some (.ref (A.C 0))
  g_Change : mg "Change" = some (.ref (A.C 1))
  g_Mend : mg "Mend" = some (.ref (A.C 2))
  g_PutOff : mg "PutOff" = some (.ref (A.C 3))
  g_Close : mg "Close" = some (.ref (A.C 4))
  g_Lay : mg "Lay" = some (.ref (A.C 5))
  g_Rest : mg "Rest" = some (.ref (A.C 6))
  g_Point : mg "Point" = some (.ref (A.C 7))
  g_Motion : mg "Motion" = some (.ref A.Cm)
  g_RANKS : mg "RANKS" = some (.ref A.tab)
  tb : TabK P K A.tab
  rk : ∀ k, k < 8 → ∃ t, PySem.W.nsIn K A.tab (nm k) = some (some (.int k t))
  tk : TabKeys P K A.tab [Str.ofString "matter", Str.ofString "change", Str.ofString "mend", Str.ofString "put off", Str.ofString "close", Str.ofString "lay", Str.ofString "rest", Str.ofString "point"]
  m_kind : ∀ k, k < 8 → Meth K (A.C k) "kind" (A.fk k)
  b_kind : ∀ k, k < 8 → Binds K (A.fkd k) ["self"] []
  m_need : ∀ k, k < 8 → Meth K (A.C k) "need" (A.fn k)
  b_need : ∀ k, k < 8 → Binds K (A.fnd k) ["self"] []
  m_told : ∀ k, k < 8 → Meth K (A.C k) "told" (A.ft k)
  b_told : ∀ k, k < 8 → Binds K (A.ftd k) ["self"] []
  m_rank : ∀ k, k < 8 → Meth K (A.C k) "rank" A.f_r
  b_rank : ∀ k, k < 8 → Binds K A.fd_r ["self"] []
  F_k0 : Fun K "kind" "Matter.kind" s_Matter_kind A.f_k0 A.fd_k0
  F_k1 : Fun K "kind" "Change.kind" s_Change_kind A.f_k1 A.fd_k1
  F_k2 : Fun K "kind" "Mend.kind" s_Mend_kind A.f_k2 A.fd_k2
  F_k3 : Fun K "kind" "PutOff.kind" s_PutOff_kind A.f_k3 A.fd_k3
  F_k4 : Fun K "kind" "Close.kind" s_Close_kind A.f_k4 A.fd_k4
  F_k5 : Fun K "kind" "Lay.kind" s_Lay_kind A.f_k5 A.fd_k5
  F_k6 : Fun K "kind" "Rest.kind" s_Rest_kind A.f_k6 A.fd_k6
  F_k7 : Fun K "kind" "Point.kind" s_Point_kind A.f_k7 A.fd_k7
  F_r : Fun K "rank" "Motion.rank" s_Motion_rank A.f_r A.fd_r
  F_n : Fun K "need" "Motion.need" s_Motion_need A.f_n A.fd_n
  F_n4 : Fun K "need" "Close.need" s_Close_need A.f_n4 A.fd_n4
  F_t : Fun K "told" "Motion.told" s_Motion_told A.f_t A.fd_t
  F_t0 : Fun K "told" "Matter.told" s_Matter_told A.f_t0 A.fd_t0
  F_t1 : Fun K "told" "Change.told" s_Change_told A.f_t1 A.fd_t1
  F_t2 : Fun K "told" "Mend.told" s_Mend_told A.f_t2 A.fd_t2
  F_t3 : Fun K "told" "PutOff.told" s_PutOff_told A.f_t3 A.fd_t3
  F_t7 : Fun K "told" "Point.told" s_Point_told A.f_t7 A.fd_t7
  F_i0 : Fun K "__init__" "Matter.__init__" s_Matter_init A.f_i0 A.fd_i0
  F_i1 : Fun K "__init__" "Change.__init__" s_Change_init A.f_i1 A.fd_i1
  F_i2 : Fun K "__init__" "Mend.__init__" s_Mend_init A.f_i2 A.fd_i2
  F_i3 : Fun K "__init__" "PutOff.__init__" s_PutOff_init A.f_i3 A.fd_i3
  F_i7 : Fun K "__init__" "Point.__init__" s_Point_init A.f_i7 A.fd_i7
  M_Matter : Mk K (A.C 0) A.f_i0
  b_i0 : Binds K A.fd_i0 ["self", "text"] []
  na0 : NoAttr K (A.C 0) "text"
  M_Change : Mk K (A.C 1) A.f_i1
  b_i1 : Binds K A.fd_i1 ["self", "edit"] []
  na1 : NoAttr K (A.C 1) "edit"
  M_Mend : Mk K (A.C 2) A.f_i2
  b_i2 : Binds K A.fd_i2 ["self", "edit"] []
  na2 : NoAttr K (A.C 2) "edit"
  M_PutOff : Mk K (A.C 3) A.f_i3
  b_i3 : Binds K A.fd_i3 ["self", "sitting"] []
  na3 : NoAttr K (A.C 3) "sitting"
  M_Point : Mk K (A.C 7) A.f_i7
  b_i7 : Binds K A.fd_i7 ["self", "clause"] []
  na7 : NoAttr K (A.C 7) "clause"
  mkn : ∀ k, k = 4 ∨ k = 5 ∨ k = 6 → MkN K (A.C k)

/-! ### the draws: texts of at most three words of one to three signs -/
abbrev bl1 : Str := Str.ofString " "
abbrev sg : Str := Str.ofString "abcdefghijklmnopqrstuvwxyzAZ09-#./"
theorem bl1_eq : bl1 = ⟨#[32]⟩ := by decide +kernel
theorem sg_len : sg.length = 34 := by decide +kernel
theorem sg_list : sg.cps.toList.length = 34 := by decide +kernel
theorem sg_asc : ∀ c ∈ sg.cps.toList, c < 128 := by decide +kernel
def Asc (x : Str) : Prop := ∀ c ∈ x.cps.toList, c < 128
theorem Asc.ok {x : Str} (h : Asc x) : PyData.strOk x = true := by
  unfold PyData.strOk
  rw [Array.all_eq_true]
  intro i hi
  have := h x.cps[i] (by simp)
  exact decide_eq_true (by omega)
theorem asc_join {sep : Str} (hs : Asc sep) : ∀ ws : List Str, (∀ w ∈ ws, Asc w) → Asc (Str.join sep ws)
  | [], _ => fun c hc => by
    have : c ∈ ([] : List Nat) := hc
    cases this
  | [x], h => h x List.mem_cons_self
  | x :: y :: r, h => fun c hc => by
    have hc' : c ∈ ((x ++ sep) ++ Str.join sep (y :: r)).cps.toList := hc
    rw [app_toList, app_toList, List.mem_append, List.mem_append] at hc'
    rcases hc' with (h1 | h1) | h1
    · exact h x List.mem_cons_self c h1
    · exact hs c h1
    · exact asc_join hs (y :: r) (fun w hw => h w (List.mem_cons_of_mem _ hw)) c h1
/-- a short text -/
structure Sh (n : Nat) (x : Str) : Prop where
  asc : Asc x
  len : x.length ≤ n
theorem at_sg {i : Int} (h0 : 0 ≤ i) (h1 : i < 34) : ∃ c, atI sg.cps.toList i = some c ∧ c < 128 := by
  obtain ⟨c, hc, hm⟩ := at_ix (xs := sg.cps.toList) (i := i) (n := 34) sg_list h0 (by omega)
  exact ⟨c, hc, sg_asc c hm⟩
theorem sh_one {c : Nat} (h : c < 128) : Sh 1 ⟨#[c]⟩ := ⟨fun d hd => by
  have : d = c := by simpa using hd
  omega, Nat.le_refl 1⟩
theorem sh_add {x : Str} {n c : Nat} (w : Sh n x) (h : c < 128) : Sh (n + 1) (x ++ ⟨#[c]⟩) := by
  refine ⟨fun d hd => ?_, ?_⟩
  · rw [app_toList, List.mem_append] at hd
    rcases hd with hd | hd
    · exact w.asc d hd
    · have : d = c := by simpa using hd
      omega
  · have := w.len
    rw [len_app]
    show _ + 1 ≤ _
    omega
def spWord : Sp := fun vs H Q _ => ∃ c, vs = [.int c] ∧ ∀ x, Sh 3 x → Q (.str x) H
/-- a clause: a text of at most 12 signs; new objects may have been laid -/
def spClause : Sp := fun vs H Q _ => ∃ c, vs = [.int c] ∧ ∀ x H', Sh 12 x → Same H H' → Q (.str x) H'
def spCell (K : PySem.W.Frag) : Sp := fun vs H Q _ => ∃ (a : Addr) (ns : List Int) (k : Int), vs = [.ref a, .int k] ∧ SqL K H a (ns.map V.int) ∧ 0 ≤ k ∧ ∀ z : Int, Q (.int z) H
section
variable {P : Program} {w : World} {K : PySem.W.Frag} {mg : Str → Option Value} {base : Heap} {A : Adr}
theorem ok_l_word (T : Txt w.params K mg A) : FnOk P w K mg base CX0 1 A.l_word A.fd_l_word ["_law_cell"] spWord := by
  refine T.F_l_word.ok sc_l_word (fun vs H Q E h => ?_) (fun cdv A' outer s H vs Q E hr h => ?_)
  · obtain ⟨c, rfl, _⟩ := h
    rfl
  · obtain ⟨c, rfl, k⟩ := h
    refine ⟨_, (pss_cons (ps_set (i := 1) sc_l_word.nd rfl (Or.inl rfl) pe_str)
  (pss_cons (ps_set (i := 2) sc_l_word.nd rfl (Or.inl rfl) (pe_ix ix_str (pv 1) (pe_op op_mod (pv 0) pe_int) (fun _ _ => rfl)))
  (pss_cons (ps_for PassesOwn.never rfl (pi_range1 rfl T.n_range (pa_cons (pe_op op_mod (pe_op op_fdiv (pv 0) pe_int) pe_int) pa_nil)) (pg_name (i := 3) sc_l_word.nd rfl (Or.inl rfl))
  (pss_one (ps_set (i := 2) sc_l_word.nd rfl (Or.inl rfl) (pe_op op_add_str (pv 2) (pe_ix ix_str (pv 1) (pe_op op_mod (pe_op op_fdiv (pv 0) (pe_op op_mul pe_int (pe_op op_add pe_int (pe_op op_mul pe_int (pv 3))))) pe_int) (fun _ _ => rfl))))))
  (pss_one (ps_ret (pv 2)))))), ?_⟩
    have s34 : sg.length ≤ sizeLine := by rw [sg_len]; decide
    obtain ⟨d, hd, hd'⟩ := at_sg (i := c % 33) (by omega) (by omega)
    refine ⟨_, rfl, _, rfl, _, _, rfl, rfl, (by show (0 : Int) < 33; decide), sg, _, d, rfl, rfl, s34, hd, ?_⟩
    refine ⟨_, rfl, _, _, rfl, rfl, ⟨by decide, by decide⟩, _, _, rfl, rfl, (by show (0 : Int) < 3; decide), _, rfl, by omega, by omega, ?_⟩
    refine for_range (lo := 0) (n := (c / 33 % 3).toNat) (fun i σ H' => H' = H ∧ ∃ x kv, σ = [some (.int c), some (.str sg), some (.str x), kv] ∧ Sh (1 + i) x) ⟨rfl, _, _, rfl, sh_one hd'⟩ ?_ ?_
    · rintro i σ H' hi ⟨rfl, x, kv, rfl, wx⟩
      obtain ⟨d2, hd2, hd2'⟩ := at_sg (i := c / (99 * (1 + 33 * (0 + (i : Int)))) % 34) (by omega) (by omega)
      refine ⟨_, rfl, _, rfl, _, rfl, _, rfl, _, _, rfl, rfl, .inl ⟨by decide, by decide⟩, _, _, rfl, rfl, _, _, rfl, rfl, .inl ⟨by decide, by decide⟩, _, _, rfl, rfl, ⟨by omega, by omega⟩, _, _, rfl, rfl, (by show (0 : Int) < 34; decide), sg, _, d2, rfl, rfl, s34, hd2, _, _, rfl, rfl, ?_, rfl, _, _, rfl, ?_⟩
      · have := wx.len
        rw [show (⟨#[d2]⟩ : Str).length = 1 from rfl]
        have : i < 3 := by omega
        exact Nat.le_trans (by omega : x.length + 1 ≤ 10) (by decide)
      · exact sh_add wx hd2'
    · rintro σ H' ⟨rfl, x, kv, rfl, wx⟩
      exact ⟨_, rfl, k x ⟨wx.asc, by have := wx.len; omega⟩⟩
theorem ok_l_clause (T : Txt w.params K mg A) : FnOk P w K mg base CX0 2 A.l_clause A.fd_l_clause ["_law_cell"] spClause := by
  have G_l_word : FnOk P w K mg base CX0 1 A.l_word A.fd_l_word ["_law_cell"] spWord := ok_l_word T
  refine T.F_l_clause.ok sc_l_clause (fun vs H Q E h => ?_) (fun cdv A' outer s H vs Q E hr h => ?_)
  · obtain ⟨c, rfl, _⟩ := h
    rfl
  · obtain ⟨c, rfl, k⟩ := h
    have hr_l_word := hr
    refine ⟨_, (pss_cons (ps_set (i := 1) sc_l_clause.nd rfl (Or.inl rfl) (pe_lst pa_nil))
  (pss_cons (ps_set (i := 2) sc_l_clause.nd rfl (Or.inl rfl) (pe_op op_add (pe_op op_mod (pv 0) pe_int) pe_int))
  (pss_cons (ps_for PassesOwn.never rfl (pi_range1 rfl T.n_range (pa_cons (pe_op op_mod (pv 0) pe_int) pa_nil)) (pg_name (i := 3) sc_l_clause.nd rfl (Or.inl rfl))
  (pss_cons (ps_set (i := 2) sc_l_clause.nd rfl (Or.inl rfl) (pe_op op_mod (pe_op op_mul (pv 2) pe_int) pe_int))
  (pss_one (ps_expr (pe_bm PySem.F.plainAttrs_list PySem.F.slot_list_append PySem.F.type_list_append mt_append (pv 1) (pa_cons (pe_call G_l_word hr_l_word rfl T.g_l_word T.F_l_word.kp T.b_l_word .nil pass0 (pa_cons (pe_op op_fdiv (pv 2) pe_int) pa_nil)) pa_nil))))))
  (pss_one (ps_ret (pe_bm PySem.F.plainAttrs_str PySem.F.slot_str_join PySem.F.type_str_join mt_join pe_str (pa_cons (pv 1) pa_nil))))))), ?_⟩
    have sz : sizeLine = 16777216 := by decide
    refine ⟨Nat.zero_le _, fun W hW => ?_⟩
    refine ⟨_, rfl, _, _, rfl, rfl, (by show (0 : Int) < 4294967311; decide), _, _, rfl, rfl, ?_⟩
    refine ⟨_, rfl, _, _, rfl, rfl, (by show (0 : Int) < 4; decide), _, rfl, by omega, by omega, ?_⟩
    refine for_range (lo := 0) (n := (c % 4).toNat) (fun i σ H2 => ∃ (ws : List Str) (m : Int) (kv : Option V), σ = [some (.int c), some (.ref W), some (.int m), kv] ∧ 0 ≤ m ∧ m ≤ 4294967311 ∧ H2 W = some (.lst (ws.map V.str)) ∧ ws.length = i ∧ (∀ w ∈ ws, Sh 3 w) ∧ Same H H2)
      ⟨[], _, _, rfl, by omega, by omega, upd_same, rfl, (fun z hz => nomatch hz), same_new hW⟩ ?_ ?_
    · rintro i σ H2 hi ⟨ws, m, kv, rfl, m0, m1, h2, hl, hg, s2⟩
      refine ⟨_, rfl, _, _, rfl, rfl, .inl ⟨by omega, by omega⟩, _, _, rfl, rfl, (by show (0 : Int) < 4294967311; decide), ?_⟩
      refine ⟨_, rfl, .inl ⟨rfl, _, SqL.of h2⟩, _, rfl, _, _, rfl, rfl, ⟨by decide, by decide⟩, _, rfl, fun x hx => ?_⟩
      refine ⟨W, _, _, rfl, rfl, h2, (by rw [List.length_map]; omega), ?_⟩
      refine ⟨ws ++ [x], _, _, rfl, by omega, by omega, ?_, ?_, fun z h => ?_, s2.own hW⟩
      · rw [upd_same, List.map_append]; rfl
      · rw [List.length_append, hl]; rfl
      · rcases List.mem_append.mp h with h | h
        · exact hg z h
        · rw [List.mem_singleton.mp h]; exact hx
    · rintro σ H2 ⟨ws, m, kv, rfl, m0, m1, h2, hl, hg, s2⟩
      have hs : (ws.map (·.length)).sum ≤ ws.length * 3 := StrLaws.sumLen_le ws fun w hw => (hg w hw).len
      have hj := join_len1 32 ws
      refine ⟨rfl, _, rfl, bl1, W, ws, rfl, rfl, SqL.of h2, (by rw [bl1_eq]; show _ + _ * 1 ≤ _; omega), ?_⟩
      refine k _ _ ⟨asc_join (by rw [bl1_eq]; intro d hd; have : d = 32 := (by simpa using hd); omega) ws fun w hw => (hg w hw).asc, ?_⟩ s2
      rw [bl1_eq]
      omega
theorem ok_l_cell_at (T : Txt w.params K mg A) : FnOk P w K mg base CX0 1 A.l_cell_at A.fd_l_cell_at ["_law_script", "_law_k"] (spCell K) := by
  refine T.F_l_cell_at.ok sc_l_cell_at (fun vs H Q E h => ?_) (fun cdv A' outer s H vs Q E hr h => ?_)
  · obtain ⟨a, ns, k, rfl, _⟩ := h
    rfl
  · obtain ⟨a, ns, k, rfl, hS, h0, q⟩ := h
    refine ⟨_, (pss_cons (ps_if (pt_cmpR op_lt (pv 1) (pe_callB call_len_seq (by rfl) T.n_len bt_len (pa_cons (pv 0) pa_nil)) (nomark _))
  (pss_one (ps_ret (pe_ix ix_list (pv 0) (pv 1) (fun _ _ => rfl))))
  pss_nil)
  (pss_one (ps_ret pe_int))), ?_⟩
    refine ⟨_, rfl, _, rfl, a, _, rfl, .inl hS, _, _, rfl, rfl, _, rfl, ite2 (fun e => ?_) (fun _ => q 0)⟩
    have e' : k < ((ns.map V.int).length : Int) := of_decide_eq_true e
    rw [List.length_map] at e'
    obtain ⟨c, hc, hm⟩ := at_ix (xs := ns.map V.int) (i := k) (n := ns.length) (List.length_map _) h0 e'
    obtain ⟨z, _, rfl⟩ := List.mem_map.mp hm
    exact ⟨_, rfl, _, rfl, a, _, _, _, rfl, rfl, hS, hc, q z⟩
end

/-! ### motions: the classes, their methods -/
mutual
theorem eqv_refl : ∀ d : PyData, d.canLay0 = true → PyData.eqv d d = true
  | .none, _ => by simp [PyData.eqv]
  | .bool _, _ => by simp [PyData.eqv]
  | .int _, _ => by simp [PyData.eqv]
  | .str _, _ => by simp [PyData.eqv]
  | .list xs, h => by simp only [PyData.eqv]; exact eqvAll_refl xs (by simpa [PyData.canLay0] using h)
  | .tuple xs, h => by simp only [PyData.eqv]; exact eqvAll_refl xs (by simpa [PyData.canLay0] using h)
  | .dict _, h => by simp [PyData.canLay0] at h
theorem eqvAll_refl : ∀ xs : List PyData, PyData.canLayAll0 xs = true → PyData.eqvAll xs xs = true
  | [], _ => by simp [PyData.eqvAll]
  | x :: xs, h => by
    have h' : x.canLay0 = true ∧ PyData.canLayAll0 xs = true := by simpa [PyData.canLayAll0] using h
    simp only [PyData.eqvAll, eqv_refl x h'.1, eqvAll_refl xs h'.2, Bool.and_self]
end
theorem nm_ok : ∀ k, k < 8 → PyData.strOk (nm k) = true
  | 0, _ => by decide +kernel
  | 1, _ => by decide +kernel
  | 2, _ => by decide +kernel
  | 3, _ => by decide +kernel
  | 4, _ => by decide +kernel
  | 5, _ => by decide +kernel
  | 6, _ => by decide +kernel
  | 7, _ => by decide +kernel
  | n + 8, h => absurd h (by omega)
theorem kit_int_bool (K : PySem.W.Frag) : PySem.W.kitOne K (.type "int") (.type "bool") = some false := by kernel_rfl
def nd (k : Nat) : Str := if k = 4 then Str.ofString "two thirds" else Str.ofString "more"
def rowOf (k : Nat) (v : V) : List V := match k with
  | 4 => [.str (nm 4)]
  | 5 => [.str (nm 5)]
  | 6 => [.str (nm 6)]
  | k => [.str (nm k), v]
def fsOf (k : Nat) (v : V) : List (Str × V) := match k with
  | 0 => [(Str.ofString "text", v)]
  | 1 => [(Str.ofString "edit", v)]
  | 2 => [(Str.ofString "edit", v)]
  | 3 => [(Str.ofString "sitting", v)]
  | 4 => []
  | 5 => []
  | 6 => []
  | _ => [(Str.ofString "clause", v)]
theorem fs_no {m : Str} (h : m ≠ Str.ofString "text" ∧ m ≠ Str.ofString "edit" ∧ m ≠ Str.ofString "sitting" ∧ m ≠ Str.ofString "clause") (k : Nat) (v : V) : (fsOf k v).lookup m = none := by
  obtain ⟨h1, h2, h3, h4⟩ := h
  have b1 : (m == Str.ofString "text") = false := beq_eq_false_iff_ne.mpr h1
  have b2 : (m == Str.ofString "edit") = false := beq_eq_false_iff_ne.mpr h2
  have b3 : (m == Str.ofString "sitting") = false := beq_eq_false_iff_ne.mpr h3
  have b4 : (m == Str.ofString "clause") = false := beq_eq_false_iff_ne.mpr h4
  unfold fsOf
  split <;> simp [List.lookup_cons, b1, b2, b3, b4]
theorem no_kind (k : Nat) (v : V) : (fsOf k v).lookup (Str.ofString "kind") = none := fs_no (by decide +kernel) k v
theorem no_rank (k : Nat) (v : V) : (fsOf k v).lookup (Str.ofString "rank") = none := fs_no (by decide +kernel) k v
theorem no_need (k : Nat) (v : V) : (fsOf k v).lookup (Str.ofString "need") = none := fs_no (by decide +kernel) k v
theorem no_told (k : Nat) (v : V) : (fsOf k v).lookup (Str.ofString "told") = none := fs_no (by decide +kernel) k v
def spKind (k : Nat) : Sp := fun vs H Q _ => ∃ m : Addr, vs = [.ref m] ∧ Q (.str (nm k)) H
def spRank (A : Adr) : Sp := fun vs H Q _ => ∃ (m : Addr) (k : Nat) (dx : Addr) (fs : List (Str × V)), k < 8 ∧ vs = [.ref m] ∧ H m = some (.ins (A.C k) dx fs) ∧ fs.lookup (Str.ofString "kind") = none ∧ Q (.int k) H
def spNeed (k : Nat) : Sp := fun vs H Q _ => ∃ m : Addr, vs = [.ref m] ∧ Q (.str (nd k)) H
def spToldB (A : Adr) : Sp := fun vs H Q _ => ∃ (m : Addr) (k : Nat) (dx : Addr) (fs : List (Str × V)), k < 8 ∧ vs = [.ref m] ∧ H m = some (.ins (A.C k) dx fs) ∧ fs.lookup (Str.ofString "kind") = none ∧ ∀ p, H p = none → Q (.ref p) (upd H p (.tup [.str (nm k)]))
def spToldF (A : Adr) (k : Nat) (a : Str) : Sp := fun vs H Q _ => ∃ (m dx : Addr) (fs : List (Str × V)) (v : V), vs = [.ref m] ∧ H m = some (.ins (A.C k) dx fs) ∧ fs.lookup (Str.ofString "kind") = none ∧ fs.lookup a = some v ∧ ∀ p, H p = none → Q (.ref p) (upd H p (.tup [.str (nm k), v]))
/-- told of all but a matter -/
def spTold (A : Adr) (k : Nat) : Sp := fun vs H Q _ => 1 ≤ k ∧ ∃ (m dx : Addr) (v : V), vs = [.ref m] ∧ H m = some (.ins (A.C k) dx (fsOf k v)) ∧ ∀ p, H p = none → Q (.ref p) (upd H p (.tup (rowOf k v)))
def spInit (A : Adr) (k : Nat) : Sp := fun vs H Q _ => ∃ (m dx : Addr) (v : V), vs = [.ref m, v] ∧ H m = some (.ins (A.C k) dx []) ∧ Q .non (upd H m (.ins (A.C k) dx (fsOf k v)))
/-- a matter is told with a new list -/
def spTold0 (A : Adr) (K : PySem.W.Frag) : Sp := fun vs H Q _ => ∃ (m dx L : Addr) (xs : List V), vs = [.ref m] ∧ H m = some (.ins (A.C 0) dx (fsOf 0 (.ref L))) ∧ SqL K H L xs ∧ ∀ p q, H p = none → H q = none → p ≠ q → Q (.ref q) (upd (upd H p (.lst xs)) q (.tup [.str (nm 0), .ref p]))
/-- a matter keeps a new list -/
def spInit0 (A : Adr) (K : PySem.W.Frag) : Sp := fun vs H Q _ => ∃ (m dx L : Addr) (xs : List V), vs = [.ref m, .ref L] ∧ H m = some (.ins (A.C 0) dx []) ∧ SqL K H L xs ∧ ∀ p, H p = none → Q .non (upd (upd H p (.lst xs)) m (.ins (A.C 0) dx (fsOf 0 (.ref p))))
/-- the object of a motion's tuple, but a matter's -/
def spMotOf (A : Adr) : Sp := fun vs H Q _ => ∃ (t : Addr) (k : Nat) (v : V), 1 ≤ k ∧ k < 8 ∧ vs = [.ref t] ∧ H t = some (.tup (rowOf k v)) ∧ ∀ m H', Same H H' → H m = none → (∃ dx, H' m = some (.ins (A.C k) dx (fsOf k v))) → Q (.ref m) H'
def spMotOf0 (A : Adr) (K : PySem.W.Frag) : Sp := fun vs H Q _ => ∃ (t L : Addr) (xs : List V), vs = [.ref t] ∧ H t = some (.tup [.str (nm 0), .ref L]) ∧ SqL K H L xs ∧
  ∀ m p H', Same H H' → H m = none → H p = none → H' p = some (.lst xs) → (∃ dx, H' m = some (.ins (A.C 0) dx (fsOf 0 (.ref p)))) → Q (.ref m) H'
section
variable {P : Program} {w : World} {K : PySem.W.Frag} {mg : Str → Option Value} {base : Heap} {A : Adr}
theorem ok_kind_Matter (T : Txt w.params K mg A) : FnOk P w K mg base CX0 1 A.f_k0 A.fd_k0 ["self"] (spKind 0) := by
  refine T.F_k0.ok sc_Matter_kind (fun vs H Q E h => ?_) (fun cdv A' outer s H vs Q E hr h => ?_)
  · obtain ⟨m, rfl, _⟩ := h
    rfl
  · obtain ⟨m, rfl, q⟩ := h
    exact ⟨_, (pss_one (ps_ret pe_str)), q⟩
theorem ok_kind_Change (T : Txt w.params K mg A) : FnOk P w K mg base CX0 1 A.f_k1 A.fd_k1 ["self"] (spKind 1) := by
  refine T.F_k1.ok sc_Change_kind (fun vs H Q E h => ?_) (fun cdv A' outer s H vs Q E hr h => ?_)
  · obtain ⟨m, rfl, _⟩ := h
    rfl
  · obtain ⟨m, rfl, q⟩ := h
    exact ⟨_, (pss_one (ps_ret pe_str)), q⟩
theorem ok_kind_Mend (T : Txt w.params K mg A) : FnOk P w K mg base CX0 1 A.f_k2 A.fd_k2 ["self"] (spKind 2) := by
  refine T.F_k2.ok sc_Mend_kind (fun vs H Q E h => ?_) (fun cdv A' outer s H vs Q E hr h => ?_)
  · obtain ⟨m, rfl, _⟩ := h
    rfl
  · obtain ⟨m, rfl, q⟩ := h
    exact ⟨_, (pss_one (ps_ret pe_str)), q⟩
theorem ok_kind_PutOff (T : Txt w.params K mg A) : FnOk P w K mg base CX0 1 A.f_k3 A.fd_k3 ["self"] (spKind 3) := by
  refine T.F_k3.ok sc_PutOff_kind (fun vs H Q E h => ?_) (fun cdv A' outer s H vs Q E hr h => ?_)
  · obtain ⟨m, rfl, _⟩ := h
    rfl
  · obtain ⟨m, rfl, q⟩ := h
    exact ⟨_, (pss_one (ps_ret pe_str)), q⟩
theorem ok_kind_Close (T : Txt w.params K mg A) : FnOk P w K mg base CX0 1 A.f_k4 A.fd_k4 ["self"] (spKind 4) := by
  refine T.F_k4.ok sc_Close_kind (fun vs H Q E h => ?_) (fun cdv A' outer s H vs Q E hr h => ?_)
  · obtain ⟨m, rfl, _⟩ := h
    rfl
  · obtain ⟨m, rfl, q⟩ := h
    exact ⟨_, (pss_one (ps_ret pe_str)), q⟩
theorem ok_kind_Lay (T : Txt w.params K mg A) : FnOk P w K mg base CX0 1 A.f_k5 A.fd_k5 ["self"] (spKind 5) := by
  refine T.F_k5.ok sc_Lay_kind (fun vs H Q E h => ?_) (fun cdv A' outer s H vs Q E hr h => ?_)
  · obtain ⟨m, rfl, _⟩ := h
    rfl
  · obtain ⟨m, rfl, q⟩ := h
    exact ⟨_, (pss_one (ps_ret pe_str)), q⟩
theorem ok_kind_Rest (T : Txt w.params K mg A) : FnOk P w K mg base CX0 1 A.f_k6 A.fd_k6 ["self"] (spKind 6) := by
  refine T.F_k6.ok sc_Rest_kind (fun vs H Q E h => ?_) (fun cdv A' outer s H vs Q E hr h => ?_)
  · obtain ⟨m, rfl, _⟩ := h
    rfl
  · obtain ⟨m, rfl, q⟩ := h
    exact ⟨_, (pss_one (ps_ret pe_str)), q⟩
theorem ok_kind_Point (T : Txt w.params K mg A) : FnOk P w K mg base CX0 1 A.f_k7 A.fd_k7 ["self"] (spKind 7) := by
  refine T.F_k7.ok sc_Point_kind (fun vs H Q E h => ?_) (fun cdv A' outer s H vs Q E hr h => ?_)
  · obtain ⟨m, rfl, _⟩ := h
    rfl
  · obtain ⟨m, rfl, q⟩ := h
    exact ⟨_, (pss_one (ps_ret pe_str)), q⟩
theorem ok_kind (T : Txt w.params K mg A) : ∀ k, k < 8 → FnOk P w K mg base CX0 1 (A.fk k) (A.fkd k) ["self"] (spKind k)
  | 0, _ => ok_kind_Matter T
  | 1, _ => ok_kind_Change T
  | 2, _ => ok_kind_Mend T
  | 3, _ => ok_kind_PutOff T
  | 4, _ => ok_kind_Close T
  | 5, _ => ok_kind_Lay T
  | 6, _ => ok_kind_Rest T
  | 7, _ => ok_kind_Point T
  | n + 8, h => absurd h (by omega)
theorem ok_rank (T : Txt w.params K mg A) : FnOk P w K mg base CX0 2 A.f_r A.fd_r ["self"] (spRank A) := by
  have G_kind : ∀ k, k < 8 → FnOk P w K mg base CX0 1 (A.fk k) (A.fkd k) ["self"] (spKind k) := ok_kind T
  refine T.F_r.ok sc_Motion_rank (fun vs H Q E h => ?_) (fun cdv A' outer s H vs Q E hr h => ?_)
  · obtain ⟨m, k, dx, fs, _, rfl, _⟩ := h
    rfl
  · obtain ⟨m, k, dx, fs, hk, rfl, hm, hl, q⟩ := h
    have hr_kind := hr
    obtain ⟨t, ht⟩ := T.rk k hk
    refine ⟨_, (pss_one (ps_ret (pe_ix ix_tab (pe_glob (v := V.ref A.tab) rfl T.g_RANKS rfl) (pe_meth0 (pv 0) (T.cl k hk) (T.m_kind k hk) (G_kind k hk) hr_kind (T.b_kind k hk) .nil pass0) (fun _ _ => rfl)))), ?_⟩
    exact ⟨_, rfl, m, dx, fs, rfl, hm, hl, m, rfl, A.tab, nm k, .int k, _, rfl, rfl, T.tb, ht, ⟨_, rfl⟩, q⟩
theorem ok_told_B (T : Txt w.params K mg A) : FnOk P w K mg base CX0 2 A.f_t A.fd_t ["self"] (spToldB A) := by
  have G_kind : ∀ k, k < 8 → FnOk P w K mg base CX0 1 (A.fk k) (A.fkd k) ["self"] (spKind k) := ok_kind T
  refine T.F_t.ok sc_Motion_told (fun vs H Q E h => ?_) (fun cdv A' outer s H vs Q E hr h => ?_)
  · obtain ⟨m, k, dx, fs, _, rfl, _⟩ := h
    rfl
  · obtain ⟨m, k, dx, fs, hk, rfl, hm, hl, q⟩ := h
    have hr_kind := hr
    refine ⟨_, (pss_one (ps_ret (pe_tup (pa_cons (pe_meth0 (pv 0) (T.cl k hk) (T.m_kind k hk) (G_kind k hk) hr_kind (T.b_kind k hk) .nil pass0) pa_nil)))), ?_⟩
    exact ⟨_, rfl, m, dx, fs, rfl, hm, hl, m, rfl, (by show 1 ≤ sizeLine; decide), fun p hp => q p hp⟩
theorem ok_told_Change (T : Txt w.params K mg A) : FnOk P w K mg base CX0 2 A.f_t1 A.fd_t1 ["self"] (spToldF A 1 "edit") := by
  have G_kind : ∀ k, k < 8 → FnOk P w K mg base CX0 1 (A.fk k) (A.fkd k) ["self"] (spKind k) := ok_kind T
  refine T.F_t1.ok sc_Change_told (fun vs H Q E h => ?_) (fun cdv A' outer s H vs Q E hr h => ?_)
  · obtain ⟨m, dx, fs, v, rfl, _⟩ := h
    rfl
  · obtain ⟨m, dx, fs, v, rfl, hm, hl, hv, q⟩ := h
    have hr_kind := hr
    obtain ⟨k, hk, ek⟩ : ∃ k, k < 8 ∧ k = 1 := ⟨1, by decide, rfl⟩
    have hm' : H m = some (.ins (A.C k) dx fs) := by rw [ek]; exact hm
    refine ⟨_, (pss_one (ps_ret (pe_tup (pa_cons (pe_meth0 (pv 0) (T.cl k hk) (T.m_kind k hk) (G_kind k hk) hr_kind (T.b_kind k hk) .nil pass0) (pa_cons (pe_fld (pv 0) rfl) pa_nil))))), ?_⟩
    subst ek
    exact ⟨_, rfl, m, dx, fs, rfl, hm, hl, m, rfl, _, rfl, m, A.C 1, dx, fs, v, rfl, hm, T.cl 1 hk, T.na1, hv, (by show 2 ≤ sizeLine; decide), fun p hp => q p hp⟩
theorem ok_init_Change (T : Txt w.params K mg A) : FnOk P w K mg base CX0 1 A.f_i1 A.fd_i1 ["self", "edit"] (spInit A 1) := by
  refine T.F_i1.ok sc_Change_init (fun vs H Q E h => ?_) (fun cdv A' outer s H vs Q E hr h => ?_)
  · obtain ⟨m, dx, v, rfl, _⟩ := h
    rfl
  · obtain ⟨m, dx, v, rfl, hm, q⟩ := h
    refine ⟨_, (pss_one (ps_fld (pv 0) (pv 1) rfl)), ?_⟩
    exact ⟨_, rfl, _, rfl, m, A.C 1, dx, [], rfl, hm, T.cl 1 (by decide), T.na1, by decide, q⟩
theorem ok_told_Mend (T : Txt w.params K mg A) : FnOk P w K mg base CX0 2 A.f_t2 A.fd_t2 ["self"] (spToldF A 2 "edit") := by
  have G_kind : ∀ k, k < 8 → FnOk P w K mg base CX0 1 (A.fk k) (A.fkd k) ["self"] (spKind k) := ok_kind T
  refine T.F_t2.ok sc_Mend_told (fun vs H Q E h => ?_) (fun cdv A' outer s H vs Q E hr h => ?_)
  · obtain ⟨m, dx, fs, v, rfl, _⟩ := h
    rfl
  · obtain ⟨m, dx, fs, v, rfl, hm, hl, hv, q⟩ := h
    have hr_kind := hr
    obtain ⟨k, hk, ek⟩ : ∃ k, k < 8 ∧ k = 2 := ⟨2, by decide, rfl⟩
    have hm' : H m = some (.ins (A.C k) dx fs) := by rw [ek]; exact hm
    refine ⟨_, (pss_one (ps_ret (pe_tup (pa_cons (pe_meth0 (pv 0) (T.cl k hk) (T.m_kind k hk) (G_kind k hk) hr_kind (T.b_kind k hk) .nil pass0) (pa_cons (pe_fld (pv 0) rfl) pa_nil))))), ?_⟩
    subst ek
    exact ⟨_, rfl, m, dx, fs, rfl, hm, hl, m, rfl, _, rfl, m, A.C 2, dx, fs, v, rfl, hm, T.cl 2 hk, T.na2, hv, (by show 2 ≤ sizeLine; decide), fun p hp => q p hp⟩
theorem ok_init_Mend (T : Txt w.params K mg A) : FnOk P w K mg base CX0 1 A.f_i2 A.fd_i2 ["self", "edit"] (spInit A 2) := by
  refine T.F_i2.ok sc_Mend_init (fun vs H Q E h => ?_) (fun cdv A' outer s H vs Q E hr h => ?_)
  · obtain ⟨m, dx, v, rfl, _⟩ := h
    rfl
  · obtain ⟨m, dx, v, rfl, hm, q⟩ := h
    refine ⟨_, (pss_one (ps_fld (pv 0) (pv 1) rfl)), ?_⟩
    exact ⟨_, rfl, _, rfl, m, A.C 2, dx, [], rfl, hm, T.cl 2 (by decide), T.na2, by decide, q⟩
theorem ok_told_PutOff (T : Txt w.params K mg A) : FnOk P w K mg base CX0 2 A.f_t3 A.fd_t3 ["self"] (spToldF A 3 "sitting") := by
  have G_kind : ∀ k, k < 8 → FnOk P w K mg base CX0 1 (A.fk k) (A.fkd k) ["self"] (spKind k) := ok_kind T
  refine T.F_t3.ok sc_PutOff_told (fun vs H Q E h => ?_) (fun cdv A' outer s H vs Q E hr h => ?_)
  · obtain ⟨m, dx, fs, v, rfl, _⟩ := h
    rfl
  · obtain ⟨m, dx, fs, v, rfl, hm, hl, hv, q⟩ := h
    have hr_kind := hr
    obtain ⟨k, hk, ek⟩ : ∃ k, k < 8 ∧ k = 3 := ⟨3, by decide, rfl⟩
    have hm' : H m = some (.ins (A.C k) dx fs) := by rw [ek]; exact hm
    refine ⟨_, (pss_one (ps_ret (pe_tup (pa_cons (pe_meth0 (pv 0) (T.cl k hk) (T.m_kind k hk) (G_kind k hk) hr_kind (T.b_kind k hk) .nil pass0) (pa_cons (pe_fld (pv 0) rfl) pa_nil))))), ?_⟩
    subst ek
    exact ⟨_, rfl, m, dx, fs, rfl, hm, hl, m, rfl, _, rfl, m, A.C 3, dx, fs, v, rfl, hm, T.cl 3 hk, T.na3, hv, (by show 2 ≤ sizeLine; decide), fun p hp => q p hp⟩
theorem ok_init_PutOff (T : Txt w.params K mg A) : FnOk P w K mg base CX0 1 A.f_i3 A.fd_i3 ["self", "sitting"] (spInit A 3) := by
  refine T.F_i3.ok sc_PutOff_init (fun vs H Q E h => ?_) (fun cdv A' outer s H vs Q E hr h => ?_)
  · obtain ⟨m, dx, v, rfl, _⟩ := h
    rfl
  · obtain ⟨m, dx, v, rfl, hm, q⟩ := h
    refine ⟨_, (pss_one (ps_fld (pv 0) (pv 1) rfl)), ?_⟩
    exact ⟨_, rfl, _, rfl, m, A.C 3, dx, [], rfl, hm, T.cl 3 (by decide), T.na3, by decide, q⟩
theorem ok_told_Point (T : Txt w.params K mg A) : FnOk P w K mg base CX0 2 A.f_t7 A.fd_t7 ["self"] (spToldF A 7 "clause") := by
  have G_kind : ∀ k, k < 8 → FnOk P w K mg base CX0 1 (A.fk k) (A.fkd k) ["self"] (spKind k) := ok_kind T
  refine T.F_t7.ok sc_Point_told (fun vs H Q E h => ?_) (fun cdv A' outer s H vs Q E hr h => ?_)
  · obtain ⟨m, dx, fs, v, rfl, _⟩ := h
    rfl
  · obtain ⟨m, dx, fs, v, rfl, hm, hl, hv, q⟩ := h
    have hr_kind := hr
    obtain ⟨k, hk, ek⟩ : ∃ k, k < 8 ∧ k = 7 := ⟨7, by decide, rfl⟩
    have hm' : H m = some (.ins (A.C k) dx fs) := by rw [ek]; exact hm
    refine ⟨_, (pss_one (ps_ret (pe_tup (pa_cons (pe_meth0 (pv 0) (T.cl k hk) (T.m_kind k hk) (G_kind k hk) hr_kind (T.b_kind k hk) .nil pass0) (pa_cons (pe_fld (pv 0) rfl) pa_nil))))), ?_⟩
    subst ek
    exact ⟨_, rfl, m, dx, fs, rfl, hm, hl, m, rfl, _, rfl, m, A.C 7, dx, fs, v, rfl, hm, T.cl 7 hk, T.na7, hv, (by show 2 ≤ sizeLine; decide), fun p hp => q p hp⟩
theorem ok_init_Point (T : Txt w.params K mg A) : FnOk P w K mg base CX0 1 A.f_i7 A.fd_i7 ["self", "clause"] (spInit A 7) := by
  refine T.F_i7.ok sc_Point_init (fun vs H Q E h => ?_) (fun cdv A' outer s H vs Q E hr h => ?_)
  · obtain ⟨m, dx, v, rfl, _⟩ := h
    rfl
  · obtain ⟨m, dx, v, rfl, hm, q⟩ := h
    refine ⟨_, (pss_one (ps_fld (pv 0) (pv 1) rfl)), ?_⟩
    exact ⟨_, rfl, _, rfl, m, A.C 7, dx, [], rfl, hm, T.cl 7 (by decide), T.na7, by decide, q⟩
theorem fn_never {k : Nat} {f : Addr} {fd : FuncData} {ps : List Str} {sp : Sp} (h : ∀ vs H Q E, ¬ sp vs H Q E) : FnOk P w K mg base CX0 k f fd ps sp :=
  ⟨fun vs H Q E z => (h vs H Q E z).elim, fun _ _ _ H _ _ vs Q E _ _ _ _ z => (h vs H Q E z).elim⟩
theorem told_imp_B {k : Nat} (hk : k = 4 ∨ k = 5 ∨ k = 6) : ∀ vs H Q E, spTold A k vs H Q E → spToldB A vs H Q E := fun vs H Q E ⟨_, m, dx, v, e, hm, q⟩ =>
  ⟨m, k, dx, fsOf k v, by omega, e, hm, no_kind k v, fun p hp => by
    have := q p hp
    rcases hk with rfl | rfl | rfl <;> exact this⟩
theorem ok_told (T : Txt w.params K mg A) : ∀ k, k < 8 → FnOk P w K mg base CX0 2 (A.ft k) (A.ftd k) ["self"] (spTold A k)
  | 0, _ => fn_never fun vs H Q E h => absurd h.1 (by decide)
  | 1, _ => (ok_told_Change T).imp fun vs H Q E ⟨_, m, dx, v, e, hm, q⟩ => ⟨m, dx, _, v, e, hm, no_kind 1 v, rfl, q⟩
  | 2, _ => (ok_told_Mend T).imp fun vs H Q E ⟨_, m, dx, v, e, hm, q⟩ => ⟨m, dx, _, v, e, hm, no_kind 2 v, rfl, q⟩
  | 3, _ => (ok_told_PutOff T).imp fun vs H Q E ⟨_, m, dx, v, e, hm, q⟩ => ⟨m, dx, _, v, e, hm, no_kind 3 v, rfl, q⟩
  | 4, _ => (ok_told_B T).imp (told_imp_B (.inl rfl))
  | 5, _ => (ok_told_B T).imp (told_imp_B (.inr (.inl rfl)))
  | 6, _ => (ok_told_B T).imp (told_imp_B (.inr (.inr rfl)))
  | 7, _ => (ok_told_Point T).imp fun vs H Q E ⟨_, m, dx, v, e, hm, q⟩ => ⟨m, dx, _, v, e, hm, no_kind 7 v, rfl, q⟩
  | n + 8, h => absurd h (by omega)
theorem ok_init0 (T : Txt w.params K mg A) : FnOk P w K mg base CX0 1 A.f_i0 A.fd_i0 ["self", "text"] (spInit0 A K) := by
  refine T.F_i0.ok sc_Matter_init (fun vs H Q E h => ?_) (fun cdv A' outer s H vs Q E hr h => ?_)
  · obtain ⟨m, dx, L, xs, rfl, _⟩ := h
    rfl
  · obtain ⟨m, dx, L, xs, rfl, hm, hL, q⟩ := h
    refine ⟨_, (pss_one (ps_fld (pv 0) (pe_callTy call_list_of (by rfl) T.n_list bt_list (pa_cons (pv 1) pa_nil)) rfl)), ?_⟩
    refine ⟨_, rfl, L, xs, rfl, .inl hL, fun p hp => ?_⟩
    have nmp : m ≠ p := ne_of_none hm hp
    exact ⟨_, rfl, m, A.C 0, dx, [], rfl, (upd_ne nmp).trans hm, T.cl 0 (by decide), T.na0, by decide, q p hp⟩
theorem ok_told0 (T : Txt w.params K mg A) : FnOk P w K mg base CX0 2 A.f_t0 A.fd_t0 ["self"] (spTold0 A K) := by
  have G_kind : ∀ k, k < 8 → FnOk P w K mg base CX0 1 (A.fk k) (A.fkd k) ["self"] (spKind k) := ok_kind T
  refine T.F_t0.ok sc_Matter_told (fun vs H Q E h => ?_) (fun cdv A' outer s H vs Q E hr h => ?_)
  · obtain ⟨m, dx, L, xs, rfl, _⟩ := h
    rfl
  · obtain ⟨m, dx, L, xs, rfl, hm, hL, q⟩ := h
    have hr_kind := hr
    obtain ⟨k, hk, ek⟩ : ∃ k, k < 8 ∧ k = 0 := ⟨0, by decide, rfl⟩
    refine ⟨_, (pss_one (ps_ret (pe_tup (pa_cons (pe_meth0 (pv 0) (T.cl k hk) (T.m_kind k hk) (G_kind k hk) hr_kind (T.b_kind k hk) .nil pass0) (pa_cons (pe_callTy call_list_of (by rfl) T.n_list bt_list (pa_cons (pe_fld (pv 0) rfl) pa_nil)) pa_nil))))), ?_⟩
    subst ek
    refine ⟨_, rfl, m, dx, _, rfl, hm, no_kind 0 _, m, rfl, _, rfl, m, A.C 0, dx, _, _, rfl, hm, T.cl 0 hk, T.na0, rfl, L, xs, rfl, .inl hL, fun p hp => ⟨(by show 2 ≤ sizeLine; decide), fun q' hq' => ?_⟩⟩
    have npq : p ≠ q' := ne_of_none upd_same hq'
    have hq : H q' = none := by rw [upd_ne (Ne.symm npq)] at hq'; exact hq'
    exact q p q' hp hq npq
theorem ok_motion_of (T : Txt w.params K mg A) : FnOk P w K mg base CX0 3 A.motion_of A.fd_motion_of ["told"] (spMotOf A) := by
  have G_i0 : FnOk P w K mg base CX0 1 A.f_i0 A.fd_i0 ["self", "text"] (spInit0 A K) := ok_init0 T
  have G_i1 : FnOk P w K mg base CX0 1 A.f_i1 A.fd_i1 ["self", "edit"] (spInit A 1) := ok_init_Change T
  have G_i2 : FnOk P w K mg base CX0 1 A.f_i2 A.fd_i2 ["self", "edit"] (spInit A 2) := ok_init_Mend T
  have G_i3 : FnOk P w K mg base CX0 1 A.f_i3 A.fd_i3 ["self", "sitting"] (spInit A 3) := ok_init_PutOff T
  have G_i7 : FnOk P w K mg base CX0 1 A.f_i7 A.fd_i7 ["self", "clause"] (spInit A 7) := ok_init_Point T
  refine T.F_motion_of.ok sc_motion_of (fun vs H Q E h => ?_) (fun cdv A' outer s H vs Q E hr h => ?_)
  · obtain ⟨t, k, v, _, _, rfl, _⟩ := h
    rfl
  · obtain ⟨t, k, v, h1, h8, rfl, ht, q⟩ := h
    have hr_init := hr
    refine ⟨_, (pss_cons (ps_set (i := 1) sc_motion_of.nd rfl (Or.inl rfl) (pe_ix ix_tup (pv 0) pe_int (fun _ _ => rfl)))
  (pss_cons (ps_if (pt_cmpR op_eq (pv 1) pe_str (nomark _))
  (pss_one (ps_ret (pe_make T.M_Matter G_i0 hr_init rfl T.g_Matter T.b_i0 .nil pass0 (pa_cons (pe_ix ix_tup (pv 0) pe_int (fun _ _ => rfl)) pa_nil))))
  pss_nil)
  (pss_cons (ps_if (pt_cmpR op_eq (pv 1) pe_str (nomark _))
  (pss_one (ps_ret (pe_make T.M_Change G_i1 hr_init rfl T.g_Change T.b_i1 .nil pass0 (pa_cons (pe_ix ix_tup (pv 0) pe_int (fun _ _ => rfl)) pa_nil))))
  pss_nil)
  (pss_cons (ps_if (pt_cmpR op_eq (pv 1) pe_str (nomark _))
  (pss_one (ps_ret (pe_make T.M_Mend G_i2 hr_init rfl T.g_Mend T.b_i2 .nil pass0 (pa_cons (pe_ix ix_tup (pv 0) pe_int (fun _ _ => rfl)) pa_nil))))
  pss_nil)
  (pss_cons (ps_if (pt_cmpR op_eq (pv 1) pe_str (nomark _))
  (pss_one (ps_ret (pe_make T.M_PutOff G_i3 hr_init rfl T.g_PutOff T.b_i3 .nil pass0 (pa_cons (pe_ix ix_tup (pv 0) pe_int (fun _ _ => rfl)) pa_nil))))
  pss_nil)
  (pss_cons (ps_if (pt_cmpR op_eq (pv 1) pe_str (nomark _))
  (pss_one (ps_ret (pe_makeN (T.mkn 4 (by decide)) rfl T.g_Close)))
  pss_nil)
  (pss_cons (ps_if (pt_cmpR op_eq (pv 1) pe_str (nomark _))
  (pss_one (ps_ret (pe_makeN (T.mkn 5 (by decide)) rfl T.g_Lay)))
  pss_nil)
  (pss_cons (ps_if (pt_cmpR op_eq (pv 1) pe_str (nomark _))
  (pss_one (ps_ret (pe_makeN (T.mkn 6 (by decide)) rfl T.g_Rest)))
  pss_nil)
  (pss_one (ps_ret (pe_make T.M_Point G_i7 hr_init rfl T.g_Point T.b_i7 .nil pass0 (pa_cons (pe_ix ix_tup (pv 0) pe_int (fun _ _ => rfl)) pa_nil)))))))))))), ?_⟩
    have h0 : atI (rowOf k v) 0 = some (.str (nm k)) := by
      have hk : k = 1 ∨ k = 2 ∨ k = 3 ∨ k = 4 ∨ k = 5 ∨ k = 6 ∨ k = 7 := by omega
      rcases hk with rfl | rfl | rfl | rfl | rfl | rfl | rfl <;> rfl
    refine ⟨_, rfl, t, _, _, _, rfl, rfl, SqT.of ht, h0, ?_⟩
    have hk : k = 1 ∨ k = 2 ∨ k = 3 ∨ k = 4 ∨ k = 5 ∨ k = 6 ∨ k = 7 := by omega
    rcases hk with rfl | rfl | rfl | rfl | rfl | rfl | rfl
    · refine ⟨_, rfl, rfl, _, rfl, ite_f (by decide +kernel) ⟨_, rfl, rfl, _, rfl, ite_t (by decide +kernel) ?_⟩⟩
      exact ⟨_, rfl, t, _, _, v, rfl, rfl, SqT.of ht, rfl, fun m dx nm ndx ne => ⟨m, dx, v, rfl, upd_same, rfl, q m _ ((((Same.refl H).own ndx).own nm).own nm) nm ⟨dx, upd_same⟩⟩⟩
    · refine ⟨_, rfl, rfl, _, rfl, ite_f (by decide +kernel) ⟨_, rfl, rfl, _, rfl, ite_f (by decide +kernel) ⟨_, rfl, rfl, _, rfl, ite_t (by decide +kernel) ?_⟩⟩⟩
      exact ⟨_, rfl, t, _, _, v, rfl, rfl, SqT.of ht, rfl, fun m dx nm ndx ne => ⟨m, dx, v, rfl, upd_same, rfl, q m _ ((((Same.refl H).own ndx).own nm).own nm) nm ⟨dx, upd_same⟩⟩⟩
    · refine ⟨_, rfl, rfl, _, rfl, ite_f (by decide +kernel) ⟨_, rfl, rfl, _, rfl, ite_f (by decide +kernel) ⟨_, rfl, rfl, _, rfl, ite_f (by decide +kernel) ⟨_, rfl, rfl, _, rfl, ite_t (by decide +kernel) ?_⟩⟩⟩⟩
      exact ⟨_, rfl, t, _, _, v, rfl, rfl, SqT.of ht, rfl, fun m dx nm ndx ne => ⟨m, dx, v, rfl, upd_same, rfl, q m _ ((((Same.refl H).own ndx).own nm).own nm) nm ⟨dx, upd_same⟩⟩⟩
    · refine ⟨_, rfl, rfl, _, rfl, ite_f (by decide +kernel) ⟨_, rfl, rfl, _, rfl, ite_f (by decide +kernel) ⟨_, rfl, rfl, _, rfl, ite_f (by decide +kernel) ⟨_, rfl, rfl, _, rfl, ite_f (by decide +kernel) ⟨_, rfl, rfl, _, rfl, ite_t (by decide +kernel) ?_⟩⟩⟩⟩⟩
      exact fun m dx nm ndx ne => q m _ (((Same.refl H).own ndx).own nm) nm ⟨dx, upd_same⟩
    · refine ⟨_, rfl, rfl, _, rfl, ite_f (by decide +kernel) ⟨_, rfl, rfl, _, rfl, ite_f (by decide +kernel) ⟨_, rfl, rfl, _, rfl, ite_f (by decide +kernel) ⟨_, rfl, rfl, _, rfl, ite_f (by decide +kernel) ⟨_, rfl, rfl, _, rfl, ite_f (by decide +kernel) ⟨_, rfl, rfl, _, rfl, ite_t (by decide +kernel) ?_⟩⟩⟩⟩⟩⟩
      exact fun m dx nm ndx ne => q m _ (((Same.refl H).own ndx).own nm) nm ⟨dx, upd_same⟩
    · refine ⟨_, rfl, rfl, _, rfl, ite_f (by decide +kernel) ⟨_, rfl, rfl, _, rfl, ite_f (by decide +kernel) ⟨_, rfl, rfl, _, rfl, ite_f (by decide +kernel) ⟨_, rfl, rfl, _, rfl, ite_f (by decide +kernel) ⟨_, rfl, rfl, _, rfl, ite_f (by decide +kernel) ⟨_, rfl, rfl, _, rfl, ite_f (by decide +kernel) ⟨_, rfl, rfl, _, rfl, ite_t (by decide +kernel) ?_⟩⟩⟩⟩⟩⟩⟩
      exact fun m dx nm ndx ne => q m _ (((Same.refl H).own ndx).own nm) nm ⟨dx, upd_same⟩
    · refine ⟨_, rfl, rfl, _, rfl, ite_f (by decide +kernel) ⟨_, rfl, rfl, _, rfl, ite_f (by decide +kernel) ⟨_, rfl, rfl, _, rfl, ite_f (by decide +kernel) ⟨_, rfl, rfl, _, rfl, ite_f (by decide +kernel) ⟨_, rfl, rfl, _, rfl, ite_f (by decide +kernel) ⟨_, rfl, rfl, _, rfl, ite_f (by decide +kernel) ⟨_, rfl, rfl, _, rfl, ite_f (by decide +kernel) ?_⟩⟩⟩⟩⟩⟩⟩
      exact ⟨_, rfl, t, _, _, v, rfl, rfl, SqT.of ht, rfl, fun m dx nm ndx ne => ⟨m, dx, v, rfl, upd_same, rfl, q m _ ((((Same.refl H).own ndx).own nm).own nm) nm ⟨dx, upd_same⟩⟩⟩
end

section
variable {P : Program} {w : World} {K : PySem.W.Frag} {mg : Str → Option Value} {base : Heap} {A : Adr}
theorem ok_motion_of0 (T : Txt w.params K mg A) : FnOk P w K mg base CX0 3 A.motion_of A.fd_motion_of ["told"] (spMotOf0 A K) := by
  have G_i0 : FnOk P w K mg base CX0 1 A.f_i0 A.fd_i0 ["self", "text"] (spInit0 A K) := ok_init0 T
  have G_i1 : FnOk P w K mg base CX0 1 A.f_i1 A.fd_i1 ["self", "edit"] (spInit A 1) := ok_init_Change T
  have G_i2 : FnOk P w K mg base CX0 1 A.f_i2 A.fd_i2 ["self", "edit"] (spInit A 2) := ok_init_Mend T
  have G_i3 : FnOk P w K mg base CX0 1 A.f_i3 A.fd_i3 ["self", "sitting"] (spInit A 3) := ok_init_PutOff T
  have G_i7 : FnOk P w K mg base CX0 1 A.f_i7 A.fd_i7 ["self", "clause"] (spInit A 7) := ok_init_Point T
  refine T.F_motion_of.ok sc_motion_of (fun vs H Q E h => ?_) (fun cdv A' outer s H vs Q E hr h => ?_)
  · obtain ⟨t, L, xs, rfl, _⟩ := h
    rfl
  · obtain ⟨t, L, xs, rfl, ht, hL, q⟩ := h
    have hr_init := hr
    refine ⟨_, (pss_cons (ps_set (i := 1) sc_motion_of.nd rfl (Or.inl rfl) (pe_ix ix_tup (pv 0) pe_int (fun _ _ => rfl)))
  (pss_cons (ps_if (pt_cmpR op_eq (pv 1) pe_str (nomark _))
  (pss_one (ps_ret (pe_make T.M_Matter G_i0 hr_init rfl T.g_Matter T.b_i0 .nil pass0 (pa_cons (pe_ix ix_tup (pv 0) pe_int (fun _ _ => rfl)) pa_nil))))
  pss_nil)
  (pss_cons (ps_if (pt_cmpR op_eq (pv 1) pe_str (nomark _))
  (pss_one (ps_ret (pe_make T.M_Change G_i1 hr_init rfl T.g_Change T.b_i1 .nil pass0 (pa_cons (pe_ix ix_tup (pv 0) pe_int (fun _ _ => rfl)) pa_nil))))
  pss_nil)
  (pss_cons (ps_if (pt_cmpR op_eq (pv 1) pe_str (nomark _))
  (pss_one (ps_ret (pe_make T.M_Mend G_i2 hr_init rfl T.g_Mend T.b_i2 .nil pass0 (pa_cons (pe_ix ix_tup (pv 0) pe_int (fun _ _ => rfl)) pa_nil))))
  pss_nil)
  (pss_cons (ps_if (pt_cmpR op_eq (pv 1) pe_str (nomark _))
  (pss_one (ps_ret (pe_make T.M_PutOff G_i3 hr_init rfl T.g_PutOff T.b_i3 .nil pass0 (pa_cons (pe_ix ix_tup (pv 0) pe_int (fun _ _ => rfl)) pa_nil))))
  pss_nil)
  (pss_cons (ps_if (pt_cmpR op_eq (pv 1) pe_str (nomark _))
  (pss_one (ps_ret (pe_makeN (T.mkn 4 (by decide)) rfl T.g_Close)))
  pss_nil)
  (pss_cons (ps_if (pt_cmpR op_eq (pv 1) pe_str (nomark _))
  (pss_one (ps_ret (pe_makeN (T.mkn 5 (by decide)) rfl T.g_Lay)))
  pss_nil)
  (pss_cons (ps_if (pt_cmpR op_eq (pv 1) pe_str (nomark _))
  (pss_one (ps_ret (pe_makeN (T.mkn 6 (by decide)) rfl T.g_Rest)))
  pss_nil)
  (pss_one (ps_ret (pe_make T.M_Point G_i7 hr_init rfl T.g_Point T.b_i7 .nil pass0 (pa_cons (pe_ix ix_tup (pv 0) pe_int (fun _ _ => rfl)) pa_nil)))))))))))), ?_⟩
    refine ⟨_, rfl, t, _, _, _, rfl, rfl, SqT.of ht, rfl, ?_⟩
    refine ⟨_, rfl, rfl, _, rfl, ite_t (by decide +kernel) ?_⟩
    refine ⟨_, rfl, t, _, _, .ref L, rfl, rfl, SqT.of ht, rfl, fun m dx nm ndx ne => ⟨m, dx, L, xs, rfl, upd_same, (((Same.refl H).own ndx).own nm).seq hL, fun p hp => ⟨rfl, ?_⟩⟩⟩
    have s1 : Same H (upd (upd H dx (.own m)) m (.ins (A.C 0) dx [])) := ((Same.refl H).own ndx).own nm
    have npm : p ≠ m := fun z => by rw [z, upd_same] at hp; cases hp
    exact q m p _ ((s1.new hp).own nm) nm (s1.free hp) ((upd_ne npm).trans upd_same) ⟨dx, upd_same⟩
end

/-! ### LAW10: piles -/
theorem seq_cut {t1 t2 : TS} {D : Ends} {σ : St} {H : Hp} (J : St → Hp → Prop) (h2 : ∀ σ' H', J σ' H' → t2 D σ' H') (h1 : ∀ N : St → Hp → Prop, (∀ σ' H', J σ' H' → N σ' H') → t1 { D with nx := N } σ H) : tSeq t1 t2 D σ H := h1 (t2 D) h2
/-- texts and numbers, laid flat in a tuple -/
inductive Fl where
  | s (x : Str)
  | i (n : Int)
def Fl.v : Fl → V
  | .s x => .str x
  | .i n => .int n
def Fl.d : Fl → PyData
  | .s x => .str x
  | .i n => .int n
def Fl.ok : Fl → Prop
  | .s x => PyData.strOk x = true
  | .i _ => True
theorem fl_dvs (K : PySem.W.Frag) (H : Hp) : ∀ fl : List Fl, DVs K H (fl.map Fl.d) (fl.map Fl.v)
  | [] => by simp only [List.map_nil]; unfold DVs; rfl
  | .s x :: fl => by
    simp only [List.map_cons]
    unfold DVs
    exact ⟨_, _, rfl, by show DV K H (.str x) (.str x); unfold DV; rfl, fl_dvs K H fl⟩
  | .i n :: fl => by
    simp only [List.map_cons]
    unfold DVs
    exact ⟨_, _, rfl, by show DV K H (.int n) (.int n); unfold DV; rfl, fl_dvs K H fl⟩
theorem fl_lay : ∀ fl : List Fl, (∀ f ∈ fl, f.ok) → PyData.canLayAll0 (fl.map Fl.d) = true ∧ PyData.depthAll (fl.map Fl.d) = 0
  | [], _ => ⟨rfl, rfl⟩
  | .s x :: fl, h => by
    have h1 := fl_lay fl fun f hf => h f (List.mem_cons_of_mem _ hf)
    have h2 : PyData.strOk x = true := h (.s x) List.mem_cons_self
    simp [Fl.d, PyData.canLayAll0, PyData.canLay0, PyData.depthAll, PyData.depth, h1.1, h1.2, h2]
  | .i n :: fl, h => by
    have h1 := fl_lay fl fun f hf => h f (List.mem_cons_of_mem _ hf)
    simp [Fl.d, PyData.canLayAll0, PyData.canLay0, PyData.depthAll, PyData.depth, h1.1, h1.2]
/-- what a motion's tuple has behind its kind; the matter's list is L -/
inductive Wh where
  | mat
  | ed (e : Addr) (fl : List Fl)
  | num (n : Int)
  | txt (x : Str)
  | no
def Wh.v (L : Addr) : Wh → V
  | .mat => .ref L
  | .ed e _ => .ref e
  | .num n => .int n
  | .txt x => .str x
  | .no => .non
def Wh.d (ws : List Str) : Wh → PyData
  | .mat => .list (ws.map PyData.str)
  | .ed _ fl => .tuple (fl.map Fl.d)
  | .num n => .int n
  | .txt x => .str x
  | .no => .none
def WhOk : Nat → Wh → Prop
  | 0, .mat => True
  | 1, .ed _ fl => (∀ f ∈ fl, f.ok) ∧ ∃ s0 r, fl = .s s0 :: r
  | 2, .ed _ fl => (∀ f ∈ fl, f.ok) ∧ ∃ s0 r, fl = .s s0 :: r
  | 3, .num _ => True
  | 4, .no => True
  | 5, .no => True
  | 6, .no => True
  | 7, .txt x => PyData.strOk x = true
  | _, _ => False
theorem wh3 (n : Int) : WhOk 3 (.num n) := by unfold WhOk; trivial
def WhAt (H : Hp) : Wh → Prop
  | .ed e fl => H e = some (.tup (fl.map Fl.v))
  | _ => True
abbrev Mo := Nat × Wh
def rowD (k : Nat) (d : PyData) : List PyData := match k with
  | 4 => [.str (nm 4)]
  | 5 => [.str (nm 5)]
  | 6 => [.str (nm 6)]
  | k => [.str (nm k), d]
def moD (ws : List Str) (m : Mo) : PyData := .tuple (rowD m.1 (m.2.d ws))
theorem wh_k8 {m : Mo} (o : WhOk m.1 m.2) : m.1 < 8 := by
  obtain ⟨k, wh⟩ := m
  match k, o with
  | 0, _ => exact (by decide : 0 < 8)
  | 1, _ => exact (by decide : 1 < 8)
  | 2, _ => exact (by decide : 2 < 8)
  | 3, _ => exact (by decide : 3 < 8)
  | 4, _ => exact (by decide : 4 < 8)
  | 5, _ => exact (by decide : 5 < 8)
  | 6, _ => exact (by decide : 6 < 8)
  | 7, _ => exact (by decide : 7 < 8)
  | n + 8, o => cases wh <;> exact False.elim o
/-- a motion's tuple in the heap -/
structure MoAt (H : Hp) (L : Addr) (m : Mo) (t : Addr) : Prop where
  ok : WhOk m.1 m.2
  row : H t = some (.tup (rowOf m.1 (m.2.v L)))
  wh : WhAt H m.2
theorem MoAt.keep {H H' : Hp} (s : ∀ t xs, H t = some (.tup xs) → H' t = some (.tup xs)) {L : Addr} {m : Mo} {t : Addr} (h : MoAt H L m t) : MoAt H' L m t := by
  refine ⟨h.ok, s _ _ h.row, ?_⟩
  have w := h.wh
  cases hm : m.2 with
  | ed e fl => rw [hm] at w; exact s _ _ w
  | _ => trivial
def MosAt (H : Hp) (L : Addr) : List Addr → List Mo → Prop
  | [], ms => ms = []
  | t :: ts, ms => ∃ m r, ms = m :: r ∧ MoAt H L m t ∧ MosAt H L ts r
theorem MosAt.keep {H H' : Hp} (s : ∀ t xs, H t = some (.tup xs) → H' t = some (.tup xs)) {L : Addr} : ∀ {ts : List Addr} {ms : List Mo}, MosAt H L ts ms → MosAt H' L ts ms
  | [], _, h => h
  | _ :: _, _, ⟨m, r, e, h, t⟩ => ⟨m, r, e, h.keep s, MosAt.keep s t⟩
theorem MosAt.snoc {H : Hp} {L : Addr} : ∀ {ts : List Addr} {ms : List Mo} {t : Addr} {m : Mo}, MosAt H L ts ms → MoAt H L m t → MosAt H L (ts ++ [t]) (ms ++ [m])
  | [], _, t, m, h, e => by
    have h' : _ = [] := h
    subst h'
    exact ⟨m, [], rfl, e, rfl⟩
  | _ :: _, _, t, m, ⟨m', r, e', h, tl⟩, e => ⟨m', r ++ [m], by rw [e']; rfl, h, MosAt.snoc tl e⟩
theorem MosAt.len {H : Hp} {L : Addr} : ∀ {ts : List Addr} {ms : List Mo}, MosAt H L ts ms → ts.length = ms.length
  | [], _, h => by
    have h' : _ = [] := h
    rw [h']; rfl
  | _ :: _, _, ⟨m, r, e, h, t⟩ => by rw [e, List.length_cons, List.length_cons, MosAt.len t]
theorem MosAt.get {H : Hp} {L : Addr} : ∀ {ts : List Addr} {ms : List Mo} {i : Nat} {t : Addr}, MosAt H L ts ms → ts[i]? = some t → ∃ m, ms[i]? = some m ∧ MoAt H L m t
  | [], _, _, _, _, g => by simp at g
  | _ :: _, _, 0, t, ⟨m, r, e, h, _⟩, g => by
    obtain rfl := Option.some.inj g
    exact ⟨m, by rw [e]; rfl, h⟩
  | _ :: _, _, i + 1, t, ⟨m, r, e, h, tl⟩, g => by
    obtain ⟨x, h1, h2⟩ := MosAt.get tl (show _ = some t from g)
    exact ⟨x, by rw [e]; exact h1, h2⟩
theorem rowOf_o : ∀ {k : Nat} {v : V}, k ≠ 4 → k ≠ 5 → k ≠ 6 → rowOf k v = [.str (nm k), v]
  | 0, _, _, _, _ => rfl
  | 1, _, _, _, _ => rfl
  | 2, _, _, _, _ => rfl
  | 3, _, _, _, _ => rfl
  | 4, _, h, _, _ => absurd rfl h
  | 5, _, _, h, _ => absurd rfl h
  | 6, _, _, _, h => absurd rfl h
  | _ + 7, _, _, _, _ => rfl
theorem rowD_o : ∀ {k : Nat} {d : PyData}, k ≠ 4 → k ≠ 5 → k ≠ 6 → rowD k d = [.str (nm k), d]
  | 0, _, _, _, _ => rfl
  | 1, _, _, _, _ => rfl
  | 2, _, _, _, _ => rfl
  | 3, _, _, _, _ => rfl
  | 4, _, h, _, _ => absurd rfl h
  | 5, _, _, h, _ => absurd rfl h
  | 6, _, _, _, h => absurd rfl h
  | _ + 7, _, _, _, _ => rfl
theorem row_dv {K : PySem.W.Frag} {H : Hp} {t : Addr} {k : Nat} {v : V} {d : PyData} (h : SqT K H t (rowOf k v)) (hv : (k = 4 ∨ k = 5 ∨ k = 6) ∨ DV K H d v) : DV K H (.tuple (rowD k d)) (.ref t) := by
  unfold DV
  refine ⟨t, _, rfl, h, ?_⟩
  by_cases h4 : k = 4
  · subst h4
    show DVs K H [.str (nm 4)] [.str (nm 4)]
    unfold DVs; exact ⟨_, _, rfl, by unfold DV; rfl, by unfold DVs; rfl⟩
  · by_cases h5 : k = 5
    · subst h5
      show DVs K H [.str (nm 5)] [.str (nm 5)]
      unfold DVs; exact ⟨_, _, rfl, by unfold DV; rfl, by unfold DVs; rfl⟩
    · by_cases h6 : k = 6
      · subst h6
        show DVs K H [.str (nm 6)] [.str (nm 6)]
        unfold DVs; exact ⟨_, _, rfl, by unfold DV; rfl, by unfold DVs; rfl⟩
      · have hv' : DV K H d v := by
          rcases hv with (z | z | z) | hv
          · exact absurd z h4
          · exact absurd z h5
          · exact absurd z h6
          · exact hv
        rw [rowOf_o h4 h5 h6, rowD_o h4 h5 h6]
        unfold DVs; exact ⟨_, _, rfl, by unfold DV; rfl, by unfold DVs; exact ⟨_, _, rfl, hv', by unfold DVs; rfl⟩⟩
theorem wh_dv {K : PySem.W.Frag} {H : Hp} {L : Addr} {ws : List Str} {wh : Wh} (hL : SqL K H L (ws.map V.str)) (h : WhAt H wh) : DV K H (wh.d ws) (wh.v L) := by
  cases wh with
  | mat => exact dv_strs hL
  | ed e fl => unfold Wh.d Wh.v DV; exact ⟨e, _, rfl, SqT.of h, fl_dvs K H fl⟩
  | num n => unfold Wh.d Wh.v DV; rfl
  | txt x => unfold Wh.d Wh.v DV; rfl
  | no => unfold Wh.d Wh.v DV; rfl
theorem mo_dv {K : PySem.W.Frag} {H : Hp} {L : Addr} {ws : List Str} {m : Mo} {t : Addr} (hL : SqL K H L (ws.map V.str)) (h : MoAt H L m t) : DV K H (moD ws m) (.ref t) := row_dv (SqT.of h.row) (.inr (wh_dv hL h.wh))
theorem mos_dvs {K : PySem.W.Frag} {H : Hp} {L : Addr} {ws : List Str} (hL : SqL K H L (ws.map V.str)) : ∀ {ts : List Addr} {ms : List Mo}, MosAt H L ts ms → DVs K H (ms.map (moD ws)) (ts.map V.ref)
  | [], _, h => by
    have h' : _ = [] := h
    subst h'
    simp only [List.map_nil]; unfold DVs; rfl
  | t :: ts, _, ⟨m, r, e, h, g⟩ => by
    rw [e]
    simp only [List.map_cons]
    unfold DVs
    exact ⟨_, _, rfl, mo_dv hL h, mos_dvs hL g⟩
theorem wh_lay {ws : List Str} (hw : ∀ w ∈ ws, PyData.strOk w = true) {k : Nat} {wh : Wh} (o : WhOk k wh) : (wh.d ws).canLay0 = true ∧ (wh.d ws).depth ≤ 2 := by
  cases wh with
  | mat =>
    have h1 := canLay_strs ws hw
    have h2 := depth_strs ws
    refine ⟨by simp only [Wh.d, PyData.canLay0, h1], by simp only [Wh.d, PyData.depth]; omega⟩
  | ed e fl =>
    have h : ∀ f ∈ fl, f.ok := by
      match k, o with
      | 1, o => exact o.1
      | 2, o => exact o.1
      | 0, o => exact False.elim o
      | 3, o => exact False.elim o
      | 4, o => exact False.elim o
      | 5, o => exact False.elim o
      | 6, o => exact False.elim o
      | 7, o => exact False.elim o
      | n + 8, o => exact False.elim o
    have h1 := fl_lay fl h
    refine ⟨by simp only [Wh.d, PyData.canLay0, h1.1], by simp only [Wh.d, PyData.depth, h1.2]; decide⟩
  | num n => exact ⟨rfl, Nat.zero_le _⟩
  | txt x =>
    have h : PyData.strOk x = true := by
      match k, o with
      | 7, o => exact o
      | 0, o => exact False.elim o
      | 1, o => exact False.elim o
      | 2, o => exact False.elim o
      | 3, o => exact False.elim o
      | 4, o => exact False.elim o
      | 5, o => exact False.elim o
      | 6, o => exact False.elim o
      | n + 8, o => exact False.elim o
    exact ⟨by simp only [Wh.d, PyData.canLay0, h], by simp [Wh.d, PyData.depth]⟩
  | no => exact ⟨rfl, Nat.zero_le _⟩
theorem mo_lay {ws : List Str} (hw : ∀ w ∈ ws, PyData.strOk w = true) {m : Mo} (o : WhOk m.1 m.2) : (moD ws m).canLay0 = true ∧ (moD ws m).depth ≤ 4 := by
  have h := wh_lay hw o
  have hk := nm_ok m.1 (wh_k8 o)
  have h4 := nm_ok 4 (by decide)
  have h5 := nm_ok 5 (by decide)
  have h6 := nm_ok 6 (by decide)
  unfold moD
  by_cases k4 : m.1 = 4
  · rw [k4]; exact ⟨by simp [rowD, PyData.canLay0, PyData.canLayAll0, h4], by simp [rowD, PyData.depth, PyData.depthAll]⟩
  · by_cases k5 : m.1 = 5
    · rw [k5]; exact ⟨by simp [rowD, PyData.canLay0, PyData.canLayAll0, h5], by simp [rowD, PyData.depth, PyData.depthAll]⟩
    · by_cases k6 : m.1 = 6
      · rw [k6]; exact ⟨by simp [rowD, PyData.canLay0, PyData.canLayAll0, h6], by simp [rowD, PyData.depth, PyData.depthAll]⟩
      · rw [rowD_o k4 k5 k6]
        refine ⟨by simp only [PyData.canLay0, PyData.canLayAll0, hk, h.1, Bool.and_self], ?_⟩
        simp only [PyData.depth, PyData.depthAll]
        have := h.2
        omega
theorem mos_lay {ws : List Str} (hw : ∀ w ∈ ws, PyData.strOk w = true) : ∀ {ms : List Mo}, (∀ m ∈ ms, WhOk m.1 m.2) → PyData.canLayAll0 (ms.map (moD ws)) = true ∧ PyData.depthAll (ms.map (moD ws)) ≤ 4
  | [], _ => ⟨rfl, Nat.zero_le _⟩
  | m :: ms, h => by
    have h1 := mos_lay hw (ms := ms) fun m hm => h m (List.mem_cons_of_mem _ hm)
    have h2 := mo_lay hw (h m List.mem_cons_self)
    simp only [List.map_cons, PyData.canLayAll0, PyData.depthAll, h1.1, h2.1, Bool.and_self]
    exact ⟨trivial, by omega⟩
theorem MosAt.oks {H : Hp} {L : Addr} : ∀ {ts : List Addr} {ms : List Mo}, MosAt H L ts ms → ∀ m ∈ ms, WhOk m.1 m.2
  | [], _, h, m, hm => by
    have h' : _ = [] := h
    rw [h'] at hm; cases hm
  | _ :: _, _, ⟨m', r, e, h, t⟩, m, hm => by
    rw [e] at hm
    rcases List.mem_cons.mp hm with rfl | hm
    · exact h.ok
    · exact MosAt.oks t m hm
def pileD (ws : List Str) (ms : List Mo) : PyData := .list (ms.map (moD ws))
theorem pile_lay {ws : List Str} (hw : ∀ w ∈ ws, PyData.strOk w = true) {ms : List Mo} (h : ∀ m ∈ ms, WhOk m.1 m.2) : (pileD ws ms).canLay0 = true ∧ SeqAt.shaped (pileD ws ms) = true := by
  have h1 := mos_lay hw h
  have c : (pileD ws ms).canLay0 = true := by simp only [pileD, PyData.canLay0, h1.1]
  have d : (pileD ws ms).depth ≤ 64 := by simp only [pileD, PyData.depth]; omega
  refine ⟨c, ?_⟩
  show (PyData.canLay0 (pileD ws ms) && decide (PyData.depth (pileD ws ms) ≤ 64)) = true
  rw [c, decide_eq_true d]; rfl
theorem mo_shaped {ws : List Str} (hw : ∀ w ∈ ws, PyData.strOk w = true) {m : Mo} (o : WhOk m.1 m.2) : SeqAt.shaped (moD ws m) = true := by
  have h := mo_lay hw o
  show (PyData.canLay0 (moD ws m) && decide (PyData.depth (moD ws m) ≤ 64)) = true
  rw [h.1, decide_eq_true (by omega)]; rfl
theorem row_at0 : ∀ {k : Nat} {v : V}, atI (rowOf k v) 0 = some (.str (nm k))
  | 0, _ => rfl
  | 1, _ => rfl
  | 2, _ => rfl
  | 3, _ => rfl
  | 4, _ => rfl
  | 5, _ => rfl
  | 6, _ => rfl
  | _ + 7, _ => rfl
/-- what a chamber's pile is: a matter or a change only above a matter that is first -/
def Good (ms : List Mo) : Prop := ∀ m ∈ ms, (m.1 = 0 ∨ m.1 = 1) → ∃ m0 r, ms = m0 :: r ∧ m0.1 = 0
theorem good_push {ms : List Mo} {m : Mo} (g : Good ms) (h : (m.1 ≠ 0 ∧ m.1 ≠ 1) ∨ ∃ m0 r, ms = m0 :: r ∧ m0.1 = 0) : Good (ms ++ [m]) := fun x hx hk => by
  have go : (∃ m0 r, ms = m0 :: r ∧ m0.1 = 0) → ∃ m0 r, ms ++ [m] = m0 :: r ∧ m0.1 = 0 := fun ⟨m0, r, e, z⟩ => ⟨m0, r ++ [m], by rw [e]; rfl, z⟩
  rcases List.mem_append.mp hx with hx | hx
  · exact go (g x hx hk)
  · rw [List.mem_singleton.mp hx] at hk
    rcases h with h | h
    · rcases hk with z | z
      · exact absurd z h.1
      · exact absurd z h.2
    · exact go h
/-- the pile as it grows -/
structure Pl (H1 : Hp) (P L : Addr) (n : Nat) (ts : List Addr) (ms : List Mo) (Hi : Hp) : Prop where
  sm : Same H1 Hi
  hP : Hi P = some (.lst (ts.map V.ref))
  at_ : MosAt Hi L ts ms
  le : ts.length ≤ n
  gd : Good ms
theorem Pl.same {H1 : Hp} {P L : Addr} {n : Nat} {ts : List Addr} {ms : List Mo} {Hi H' : Hp} (p : Pl H1 P L n ts ms Hi) (s : Same Hi H') : Pl H1 P L n ts ms H' := ⟨p.sm.trans s, s _ _ p.hP, p.at_.keep fun t xs e => s _ _ e, p.le, p.gd⟩
theorem Pl.up {H1 : Hp} {P L : Addr} {n : Nat} {ts : List Addr} {ms : List Mo} {Hi : Hp} (p : Pl H1 P L n ts ms Hi) : Pl H1 P L (n + 1) ts ms Hi := ⟨p.sm, p.hP, p.at_, by have := p.le; omega, p.gd⟩
theorem Pl.push {H1 : Hp} {P L : Addr} {n : Nat} {ts : List Addr} {ms : List Mo} {Hi : Hp} (p : Pl H1 P L n ts ms Hi) (hP1 : H1 P = none) {t : Addr} {m : Mo} (hk : Good (ms ++ [m])) (h : MoAt Hi L m t) : Pl H1 P L (n + 1) (ts ++ [t]) (ms ++ [m]) (upd Hi P (.lst (ts.map V.ref ++ [V.ref t]))) := by
  have k : ∀ t' xs, Hi t' = some (.tup xs) → (upd Hi P (.lst (ts.map V.ref ++ [V.ref t]))) t' = some (.tup xs) := fun t' xs e => (upd_ne (fun z => by rw [z, p.hP] at e; cases e)).trans e
  exact ⟨p.sm.own hP1, by rw [upd_same, List.map_append]; rfl, (p.at_.keep k).snoc (h.keep k), by rw [List.length_append]; have := p.le; show _ + 1 ≤ _; omega, hk⟩
def spPile (K : PySem.W.Frag) : Sp := fun vs H Q _ => ∃ (a : Addr) (ns : List Int), vs = [.ref a] ∧ SqL K H a (ns.map V.int) ∧
  ∀ (P L : Addr) (ws : List Str) (ts : List Addr) (ms : List Mo) (H' : Hp), Same H H' → H' P = some (.lst (ts.map V.ref)) → H' L = some (.lst (ws.map V.str)) → (∀ w ∈ ws, PyData.strOk w = true) → MosAt H' L ts ms → ts.length ≤ 20 → Good ms → Q (.ref P) H'
theorem Pl.wk {H1 : Hp} {P L : Addr} {n m : Nat} {ts : List Addr} {ms : List Mo} {Hi : Hp} (h : n ≤ m) (p : Pl H1 P L n ts ms Hi) : Pl H1 P L m ts ms Hi := ⟨p.sm, p.hP, p.at_, Nat.le_trans p.le h, p.gd⟩
theorem asg_cut {te : TE} {g : TG} {D : Ends} {σ : St} {H : Hp} (J : V → Hp → Prop) (h2 : ∀ v H', J v H' → g v σ H' D.nx) (h1 : ∀ N : VK, (∀ v H', J v H' → N v H') → te σ H N) : tAsg te g D σ H := h1 _ h2
def PJ (a L P : Addr) (sh : Int) (H1 : Hp) (n : Nat) : St → Hp → Prop := fun σ H' => ∃ (v4 v5 : Option V) (ts : List Addr) (ms : List Mo), σ = [some (.ref a), some (.int sh), some (.ref L), some (.ref P), v4, v5] ∧ Pl H1 P L n ts ms H'
def PJc (a L P : Addr) (sh c : Int) (H1 : Hp) (n : Nat) : St → Hp → Prop := fun σ H' => ∃ (v5 : Option V) (ts : List Addr) (ms : List Mo), σ = [some (.ref a), some (.int sh), some (.ref L), some (.ref P), some (.int c), v5] ∧ Pl H1 P L n ts ms H'
section
variable {P : Program} {w : World} {K : PySem.W.Frag} {mg : Str → Option Value} {base : Heap} {A : Adr}
set_option maxHeartbeats 20000000 in
theorem ok_l_pile (T : Txt w.params K mg A) : FnOk P w K mg base CX0 3 A.l_pile A.fd_l_pile ["_law_script"] (spPile K) := by
  have G_l_cell_at : FnOk P w K mg base CX0 1 A.l_cell_at A.fd_l_cell_at ["_law_script", "_law_k"] (spCell K) := ok_l_cell_at T
  have G_l_word : FnOk P w K mg base CX0 1 A.l_word A.fd_l_word ["_law_cell"] spWord := ok_l_word T
  have G_l_clause : FnOk P w K mg base CX0 2 A.l_clause A.fd_l_clause ["_law_cell"] spClause := ok_l_clause T
  refine T.F_l_pile.ok sc_l_pile (fun vs H Q E h => ?_) (fun cdv A' outer s H vs Q E hr h => ?_)
  · obtain ⟨a, ns, rfl, _⟩ := h
    rfl
  · obtain ⟨a, ns, rfl, hS, q⟩ := h
    have hr_l_cell_at : Room 1 _ := hr.mono (by decide)
    have hr_l_word : Room 1 _ := hr.mono (by decide)
    have hr_l_clause := hr
    refine ⟨_, (pss_cons (ps_set (i := 1) sc_l_pile.nd rfl (Or.inl rfl) (pe_call G_l_cell_at hr_l_cell_at rfl T.g_l_cell_at T.F_l_cell_at.kp T.b_l_cell_at .nil pass0 (pa_cons (pv 0) (pa_cons pe_int pa_nil))))
  (pss_cons (ps_setComp (i := 2) (scope := kcs_l_pile_0) cs_l_pile_0 rfl rfl (Or.inl rfl) (pi_range1 rfl T.n_range (pa_cons (pe_op op_add pe_int (pe_op op_mod (pv 1) pe_int)) pa_nil)) (fun _ _ _ _ _ => (pe_call G_l_clause hr_l_clause rfl T.g_l_clause T.F_l_clause.kp T.b_l_clause .nil pass0 (pa_cons (pe_op op_fdiv (pe_call G_l_cell_at hr_l_cell_at rfl T.g_l_cell_at T.F_l_cell_at.kp T.b_l_cell_at .nil pass0 (pa_cons (pv 1) (pa_cons pe_int pa_nil))) (pe_op op_add pe_int (pv 0))) pa_nil))))
  (pss_cons (ps_set (i := 3) sc_l_pile.nd rfl (Or.inl rfl) (pe_lst pa_nil))
  (pss_cons (ps_if (pt_cmpR op_gt (pe_op op_mod (pe_op op_fdiv (pv 1) pe_int) pe_int) pe_int (nomark _))
  (pss_cons (ps_expr (pe_bm PySem.F.plainAttrs_list PySem.F.slot_list_append PySem.F.type_list_append mt_append (pv 3) (pa_cons (pe_tup (pa_cons pe_str (pa_cons (pv 2) pa_nil))) pa_nil)))
  (pss_cons (ps_set (i := 4) sc_l_pile.nd rfl (Or.inl rfl) (pe_call G_l_cell_at hr_l_cell_at rfl T.g_l_cell_at T.F_l_cell_at.kp T.b_l_cell_at .nil pass0 (pa_cons (pv 0) (pa_cons pe_int pa_nil))))
  (pss_cons (ps_if (pt_cmpR op_eq (pe_op op_mod (pe_op op_fdiv (pv 1) pe_int) pe_int) pe_int (nomark _))
  (pss_cons (ps_set (i := 5) sc_l_pile.nd rfl (Or.inl rfl) (pe_ix ix_list (pe_lst (pa_cons (pe_tup (pa_cons pe_str (pa_cons pe_int (pa_cons (pe_call G_l_clause hr_l_clause rfl T.g_l_clause T.F_l_clause.kp T.b_l_clause .nil pass0 (pa_cons (pv 4) pa_nil)) pa_nil)))) (pa_cons (pe_tup (pa_cons pe_str (pa_cons pe_int pa_nil))) (pa_cons (pe_tup (pa_cons pe_str (pa_cons pe_int (pa_cons (pe_call G_l_clause hr_l_clause rfl T.g_l_clause T.F_l_clause.kp T.b_l_clause .nil pass0 (pa_cons (pv 4) pa_nil)) pa_nil)))) pa_nil)))) (pe_op op_mod (pe_op op_fdiv (pv 4) pe_int) pe_int) (fun _ _ => rfl)))
  (pss_cons (ps_expr (pe_bm PySem.F.plainAttrs_list PySem.F.slot_list_append PySem.F.type_list_append mt_append (pv 3) (pa_cons (pe_tup (pa_cons pe_str (pa_cons (pv 5) pa_nil))) pa_nil)))
  (pss_one (ps_if (PW.pt (pw_and (pt_cmpR op_ne (pe_ix ix_tup (pv 5) pe_int (fun _ _ => rfl)) pe_str (nomark _)) (pw_and1 (pt_cmpR op_eq (pe_op op_mod (pe_op op_fdiv (pv 1) pe_int) pe_int) pe_int (nomark _)))))
  (pss_one (ps_expr (pe_bm PySem.F.plainAttrs_list PySem.F.slot_list_append PySem.F.type_list_append mt_append (pv 3) (pa_cons (pe_tup (pa_cons pe_str (pa_cons (pe_tup (pa_cons pe_str (pa_cons pe_int (pa_cons (pe_call G_l_word hr_l_word rfl T.g_l_word T.F_l_word.kp T.b_l_word .nil pass0 (pa_cons (pe_op op_fdiv (pv 4) pe_int) pa_nil)) pa_nil)))) pa_nil))) pa_nil))))
  pss_nil))))
  pss_nil)
  (pss_cons (ps_if (pt_cmpR op_eq (pe_op op_mod (pe_op op_fdiv (pv 1) pe_int) pe_int) pe_int (nomark _))
  (pss_one (ps_expr (pe_bm PySem.F.plainAttrs_list PySem.F.slot_list_append PySem.F.type_list_append mt_append (pv 3) (pa_cons (pe_tup (pa_cons pe_str (pa_cons (pe_op op_add pe_int (pe_op op_mod (pe_op op_fdiv (pv 1) pe_int) (pe_op op_pow pe_int pe_int))) pa_nil))) pa_nil))))
  pss_nil)
  (pss_cons (ps_if (pt_cmpR op_eq (pe_op op_mod (pe_op op_fdiv (pv 1) pe_int) pe_int) pe_int (nomark _))
  (pss_one (ps_expr (pe_bm PySem.F.plainAttrs_list PySem.F.slot_list_append PySem.F.type_list_append mt_append (pv 3) (pa_cons (pe_tup (pa_cons pe_str pa_nil)) pa_nil))))
  pss_nil)
  (pss_one (ps_if (pt_cmpR op_eq (pe_op op_mod (pe_op op_fdiv (pv 1) pe_int) pe_int) pe_int (nomark _))
  (pss_one (ps_expr (pe_bm PySem.F.plainAttrs_list PySem.F.slot_list_append PySem.F.type_list_append mt_append (pv 3) (pa_cons (pe_tup (pa_cons pe_str pa_nil)) pa_nil))))
  pss_nil)))))))
  pss_nil)
  (pss_cons (ps_if (pt_cmpR op_eq (pe_op op_mod (pe_op op_fdiv (pv 1) pe_int) pe_int) pe_int (nomark _))
  (pss_one (ps_expr (pe_bm PySem.F.plainAttrs_list PySem.F.slot_list_append PySem.F.type_list_append mt_append (pv 3) (pa_cons (pe_tup (pa_cons pe_str pa_nil)) pa_nil))))
  pss_nil)
  (pss_cons (ps_if (pt_cmpR op_eq (pe_op op_mod (pe_op op_fdiv (pv 1) pe_int) pe_int) pe_int (nomark _))
  (pss_one (ps_expr (pe_bm PySem.F.plainAttrs_list PySem.F.slot_list_append PySem.F.type_list_append mt_append (pv 3) (pa_cons (pe_tup (pa_cons pe_str (pa_cons (pe_call G_l_clause hr_l_clause rfl T.g_l_clause T.F_l_clause.kp T.b_l_clause .nil pass0 (pa_cons (pe_call G_l_cell_at hr_l_cell_at rfl T.g_l_cell_at T.F_l_cell_at.kp T.b_l_cell_at .nil pass0 (pa_cons (pv 0) (pa_cons pe_int pa_nil))) pa_nil)) pa_nil))) pa_nil))))
  pss_nil)
  (pss_one (ps_ret (pv 3))))))))), ?_⟩
    have lim : sizeLine = 16777216 := by decide
    refine ⟨_, rfl, a, ns, _, rfl, hS, by decide, fun sh => ?_⟩
    refine ⟨_, rfl, _, _, rfl, rfl, (by show (0 : Int) < 3; decide), _, _, rfl, rfl, _, rfl, by omega, by omega, fun L hL => ?_⟩
    dsimp only
    generalize hm : (1 + sh % 3).toNat = m
    have m6 : m ≤ 3 := by omega
    refine comp_range (lo := 0) (n := m) (fun i ys H2 => ∃ xs : List Str, ys = xs.map V.str ∧ xs.length = i ∧ (∀ x ∈ xs, Sh 12 x) ∧ Same H H2 ∧ H2 L = some (.lst ys))
      ⟨[], rfl, rfl, (fun x hx => nomatch hx), same_new hL, upd_same⟩ (by omega) ?_ ?_ ?_
    · rintro i ys H2 hi ⟨xs, rfl, hl, hg, s2, h2⟩
      exact ⟨h2, by rw [List.length_map]; exact hl⟩
    · rintro i ys H2 hi ⟨xs, rfl, hl, hg, s2, h2⟩
      refine ⟨_, rfl, a, ns, _, rfl, s2.seq hS, by decide, fun z1 => ⟨_, rfl, _, _, rfl, rfl, _, _, rfl, rfl, ⟨by show (0 : Int) < 1 + (0 + (i : Int)); omega, by show (1 + (0 + (i : Int)) : Int) < 1073741824; omega⟩, _, rfl, fun x H3 sx s3 => ?_⟩⟩
      refine CompNext.mk hi (s3 _ _ h2) ⟨xs ++ [x], by simp, by simp [hl], fun e he => ?_, (s2.trans s3).own hL, upd_same⟩
      rcases List.mem_append.mp he with he | he
      · exact hg e he
      · rw [List.mem_singleton.mp he]; exact sx
    rintro ys H1 ⟨ws, rfl, hl, hg, s1, hL1⟩
    have hgo : ∀ x ∈ ws, PyData.strOk x = true := fun x hx => (hg x hx).asc.ok
    have hS1 := s1.seq hS
    refine ⟨Nat.zero_le _, fun P hP => ?_⟩
    have pl0 : Pl H1 P L 0 [] [] (upd H1 P (.lst [])) := ⟨same_new hP, upd_same, rfl, Nat.zero_le _, fun m hm => nomatch hm⟩
    generalize upd H1 P (.lst []) = H2 at pl0 ⊢
    -- the matter and what is on it
    dsimp only [gName]
    refine seq_cut (PJ a L P sh H1 6) ?r1 (fun N nN => ?f1)
    case f1 =>
      refine ⟨_, rfl, _, _, rfl, rfl, ⟨by decide, by decide⟩, _, _, rfl, rfl, (by show (0 : Int) < 4; decide), _, _, rfl, rfl, _, rfl, ite2 (fun _ => ?_) (fun _ => ?_)⟩
      · refine ⟨_, rfl, .inl ⟨rfl, _, SqL.of pl0.hP⟩, _, rfl, (by show 2 ≤ sizeLine; decide), fun t ht => ?_⟩
        have p1 := pl0.same (same_new (o := .tup [V.str (Str.ofString "matter"), V.ref L]) ht)
        refine ⟨P, _, _, rfl, rfl, p1.hP, (by show 0 < sizeLine; decide), ?_⟩
        have pl1 := p1.push hP (m := (0, .mat)) (t := t) (fun x hx _ => ⟨(0, .mat), [], rfl, rfl⟩) ⟨trivial, upd_same, trivial⟩
        have h0 : ∃ m0 r, ([] ++ [(0, Wh.mat)] : List Mo) = m0 :: r ∧ m0.1 = 0 := ⟨_, _, rfl, rfl⟩
        generalize upd (upd H2 t (.tup [V.str (Str.ofString "matter"), V.ref L])) P (.lst (List.map V.ref [] ++ [V.ref t])) = H3 at pl1 ⊢
        clear p1 ht
        generalize ([] ++ [t] : List Addr) = ts at pl1
        generalize ([] ++ [(0, Wh.mat)] : List Mo) = ms at pl1 h0
        refine ⟨_, rfl, a, ns, _, rfl, pl1.sm.seq hS1, by decide, fun c => ?_⟩
        -- change, mend
        dsimp only [gName]
        refine seq_cut (PJc a L P sh c H1 3) ?r2 (fun N2 nN2 => ?f2)
        case f2 =>
          refine ⟨_, rfl, _, _, rfl, rfl, ⟨by decide, by decide⟩, _, _, rfl, rfl, (by show (0 : Int) < 2; decide), rfl, _, rfl, ite2 (fun _ => ?_) (fun _ => nN2 _ _ ⟨_, ts, ms, rfl, pl1.wk (by decide)⟩)⟩
          refine ⟨_, rfl, _, rfl, fun x1 Ha sx1 sa => ⟨(by show 3 ≤ sizeLine; decide), fun e1 he1 => ⟨(by show 2 ≤ sizeLine; decide), fun e2 he2 => ⟨_, rfl, _, rfl, fun x3 Hb sx3 sb => ⟨(by show 3 ≤ sizeLine; decide), fun e3 he3 => ⟨(by show 3 ≤ sizeLine; decide), fun l hl => ?_⟩⟩⟩⟩⟩⟩
          dsimp only
          have n12 : e1 ≠ e2 := ne_of_none upd_same he2
          have t1 := sb _ _ ((upd_ne n12).trans (upd_same (H := Ha) (o := .tup [V.str (Str.ofString "put"), V.int 0, V.str x1])))
          have t2 := sb _ _ (upd_same (H := upd Ha e1 (.tup [V.str (Str.ofString "put"), V.int 0, V.str x1])) (a := e2) (o := .tup [V.str (Str.ofString "cut"), V.int 0]))
          have sc := (same_new (o := .tup [V.str (Str.ofString "turn"), V.int 0, V.str x3]) he3).new (o := .lst [V.ref e1, V.ref e2, V.ref e3]) hl
          have n3l : e3 ≠ l := ne_of_none upd_same hl
          have t3 : (upd (upd Hb e3 (.tup [V.str (Str.ofString "turn"), V.int 0, V.str x3])) l (.lst [V.ref e1, V.ref e2, V.ref e3])) e3 = some (.tup [V.str (Str.ofString "turn"), V.int 0, V.str x3]) := (upd_ne n3l).trans upd_same
          have t1' := sc _ _ t1
          have t2' := sc _ _ t2
          have tl : (upd (upd Hb e3 (.tup [V.str (Str.ofString "turn"), V.int 0, V.str x3])) l (.lst [V.ref e1, V.ref e2, V.ref e3])) l = some (.lst [V.ref e1, V.ref e2, V.ref e3]) := upd_same
          have sall : Same H3 (upd (upd Hb e3 (.tup [V.str (Str.ofString "turn"), V.int 0, V.str x3])) l (.lst [V.ref e1, V.ref e2, V.ref e3])) := (((sa.new he1).new he2).trans sb).trans sc
          generalize upd (upd Hb e3 (.tup [V.str (Str.ofString "turn"), V.int 0, V.str x3])) l (.lst [V.ref e1, V.ref e2, V.ref e3]) = H4 at t1' t2' t3 tl sall ⊢
          obtain ⟨e, s0, fl, hfe, hfo, hat⟩ : ∃ (e : Addr) (s0 : Str) (fl : List Fl), H4 e = some (.tup ((Fl.s s0 :: fl).map Fl.v)) ∧ (∀ f ∈ Fl.s s0 :: fl, f.ok) ∧ atI [V.ref e1, V.ref e2, V.ref e3] (c / 4 % 3) = some (.ref e) := by
            have okS : ∀ (x y : Str), PyData.strOk x = true → PyData.strOk y = true → ∀ f ∈ [Fl.s x, Fl.i 0, Fl.s y], f.ok := fun x y hx hy f hf => by
              simp only [List.mem_cons, List.not_mem_nil, or_false] at hf
              rcases hf with rfl | rfl | rfl
              · exact hx
              · trivial
              · exact hy
            have h3 : c / 4 % 3 = 0 ∨ c / 4 % 3 = 1 ∨ c / 4 % 3 = 2 := by omega
            rcases h3 with h3 | h3 | h3
            · exact ⟨e1, _, [Fl.i 0, Fl.s x1], t1', okS _ _ (by decide +kernel) sx1.asc.ok, by rw [h3]; rfl⟩
            · refine ⟨e2, _, [Fl.i 0], t2', fun f hf => ?_, by rw [h3]; rfl⟩
              simp only [List.mem_cons, List.not_mem_nil, or_false] at hf
              rcases hf with rfl | rfl
              · exact (by decide +kernel : PyData.strOk (Str.ofString "cut") = true)
              · trivial
            · exact ⟨e3, _, [Fl.i 0, Fl.s x3], t3, okS _ _ (by decide +kernel) sx3.asc.ok, by rw [h3]; rfl⟩
          refine ⟨_, rfl, _, _, rfl, rfl, ⟨by decide, by decide⟩, _, _, rfl, rfl, (by show (0 : Int) < 3; decide), l, _, _, _, rfl, rfl, SqL.of tl, hat, ?_⟩
          have pl2 := pl1.same sall
          refine ⟨_, rfl, .inl ⟨rfl, _, SqL.of pl2.hP⟩, _, rfl, (by show 2 ≤ sizeLine; decide), fun t' ht' => ?_⟩
          have st' := same_new (o := .tup [V.str (Str.ofString "change"), V.ref e]) ht'
          have p3 := pl2.same st'
          refine ⟨P, _, _, rfl, rfl, p3.hP, (by rw [List.length_map]; have := p3.le; omega), ?_⟩
          have pl3 := p3.push hP (m := (1, .ed e (Fl.s s0 :: fl))) (t := t') (good_push p3.gd (.inr h0)) ⟨⟨hfo, s0, fl, rfl⟩, upd_same, st' _ _ hfe⟩
          have he5 : (upd (upd H4 t' (.tup [V.str (Str.ofString "change"), V.ref e])) P (.lst (ts.map V.ref ++ [V.ref t']))) e = some (.tup ((Fl.s s0 :: fl).map Fl.v)) := (upd_ne (fun z => by have hx := st' _ _ hfe; have hy := p3.hP; rw [← z] at hy; rw [hx] at hy; cases hy)).trans (st' _ _ hfe)
          generalize upd (upd H4 t' (.tup [V.str (Str.ofString "change"), V.ref e])) P (.lst (ts.map V.ref ++ [V.ref t'])) = H5 at pl3 he5 ⊢
          generalize ts ++ [t'] = ts5 at pl3
          generalize ms ++ [(1, Wh.ed e (Fl.s s0 :: fl))] = ms5 at pl3
          have fin : N2 [some (.ref a), some (.int sh), some (.ref L), some (.ref P), some (.int c), some (.ref e)] H5 := nN2 _ _ ⟨_, ts5, ms5, rfl, pl3.wk (by decide)⟩
          refine ⟨_, rfl, e, _, _, _, rfl, rfl, SqT.of he5, atI_nat (j := 0) rfl, rfl, _, rfl, ite2 (fun _ => ?_) (fun _ => iteF fin)⟩
          refine ⟨_, rfl, _, _, rfl, rfl, ⟨by decide, by decide⟩, _, _, rfl, rfl, (by show (0 : Int) < 2; decide), rfl, _, rfl, ite2 (fun _ => ?_) (fun _ => fin)⟩
          refine ⟨_, rfl, .inl ⟨rfl, _, SqL.of pl3.hP⟩, _, rfl, _, _, rfl, rfl, ⟨by decide, by decide⟩, _, rfl, fun x sx => ⟨(by show 3 ≤ sizeLine; decide), fun e4 he4 => ⟨(by show 2 ≤ sizeLine; decide), fun t4 ht4 => ?_⟩⟩⟩
          have s4 := (same_new (o := .tup [V.str (Str.ofString "put"), V.int 0, V.str x]) he4).new (o := .tup [V.str (Str.ofString "mend"), V.ref e4]) ht4
          have n44 : e4 ≠ t4 := ne_of_none upd_same ht4
          have p4 := pl3.same s4
          refine ⟨P, _, _, rfl, rfl, p4.hP, (by rw [List.length_map]; have := p4.le; omega), ?_⟩
          refine nN2 _ _ ⟨_, _, _, rfl, p4.push hP (m := (2, .ed e4 [Fl.s (Str.ofString "put"), Fl.i 0, Fl.s x])) (t := t4) (good_push p4.gd (.inl (by decide : (2 : Nat) ≠ 0 ∧ (2 : Nat) ≠ 1))) ⟨⟨fun f hf => ?_, _, _, rfl⟩, upd_same, (upd_ne n44).trans upd_same⟩⟩
          simp only [List.mem_cons, List.not_mem_nil, or_false] at hf
          rcases hf with rfl | rfl | rfl
          · exact (by decide +kernel : PyData.strOk (Str.ofString "put") = true)
          · trivial
          · exact sx.asc.ok
        case r2 =>
          rintro σ5 H5 ⟨v5, ts, ms, rfl, pl⟩
          refine seq_cut (PJc a L P sh c H1 4) ?r3 (fun N3 nN3 => ?f3)
          case f3 =>
            refine ⟨_, rfl, _, _, rfl, rfl, ⟨by decide, by decide⟩, _, _, rfl, rfl, (by show (0 : Int) < 2; decide), rfl, _, rfl, ite2 (fun _ => ?_) (fun _ => nN3 _ _ ⟨_, ts, ms, rfl, pl.wk (by decide)⟩)⟩
            refine ⟨_, rfl, .inl ⟨rfl, _, SqL.of pl.hP⟩, _, rfl, _, _, rfl, rfl, ⟨by decide, by decide⟩, _, _, rfl, rfl, ⟨by decide, by decide, by decide⟩, _, _, rfl, rfl, (by decide +kernel : (0 : Int) < 10 ^ (8 : Int).toNat), _, _, rfl, rfl, (by show 2 ≤ sizeLine; decide), fun t' ht' => ?_⟩
            have p3 := pl.same (same_new (o := .tup [V.str (Str.ofString "put off"), V.int (2 + sh / 768 % 10 ^ (8 : Int).toNat)]) ht')
            refine ⟨P, _, _, rfl, rfl, p3.hP, (by rw [List.length_map]; have := p3.le; omega), ?_⟩
            exact nN3 _ _ ⟨_, _, _, rfl, p3.push hP (m := (3, .num (2 + sh / 768 % 10 ^ (8 : Int).toNat))) (t := t') (good_push p3.gd (.inl (by decide : (3 : Nat) ≠ 0 ∧ (3 : Nat) ≠ 1))) ⟨wh3 _, upd_same, trivial⟩⟩
          case r3 =>
            rintro σ6 H6 ⟨v5, ts, ms, rfl, pl⟩
            refine seq_cut (PJc a L P sh c H1 5) ?r4 (fun N4 nN4 => ?f4)
            case f4 =>
              refine ⟨_, rfl, _, _, rfl, rfl, ⟨by decide, by decide⟩, _, _, rfl, rfl, (by show (0 : Int) < 2; decide), rfl, _, rfl, ite2 (fun _ => ?_) (fun _ => nN4 _ _ ⟨_, ts, ms, rfl, pl.wk (by decide)⟩)⟩
              refine ⟨_, rfl, .inl ⟨rfl, _, SqL.of pl.hP⟩, (by show 1 ≤ sizeLine; decide), fun t' ht' => ?_⟩
              have p3 := pl.same (same_new (o := .tup [V.str (Str.ofString "close")]) ht')
              refine ⟨P, _, _, rfl, rfl, p3.hP, (by rw [List.length_map]; have := p3.le; omega), ?_⟩
              exact nN4 _ _ ⟨_, _, _, rfl, p3.push hP (m := (4, .no)) (t := t') (good_push p3.gd (.inl (by decide : (4 : Nat) ≠ 0 ∧ (4 : Nat) ≠ 1))) ⟨trivial, upd_same, trivial⟩⟩
            case r4 =>
              rintro σ7 H7 ⟨v5, ts, ms, rfl, pl⟩
              refine ⟨_, rfl, _, _, rfl, rfl, ⟨by decide, by decide⟩, _, _, rfl, rfl, (by show (0 : Int) < 2; decide), rfl, _, rfl, ite2 (fun _ => ?_) (fun _ => nN _ _ ⟨_, _, ts, ms, rfl, pl.wk (by decide)⟩)⟩
              refine ⟨_, rfl, .inl ⟨rfl, _, SqL.of pl.hP⟩, (by show 1 ≤ sizeLine; decide), fun t' ht' => ?_⟩
              have p3 := pl.same (same_new (o := .tup [V.str (Str.ofString "lay")]) ht')
              refine ⟨P, _, _, rfl, rfl, p3.hP, (by rw [List.length_map]; have := p3.le; omega), ?_⟩
              exact nN _ _ ⟨_, _, _, _, rfl, p3.push hP (m := (5, .no)) (t := t') (good_push p3.gd (.inl (by decide : (5 : Nat) ≠ 0 ∧ (5 : Nat) ≠ 1))) ⟨trivial, upd_same, trivial⟩⟩
      · exact nN _ _ ⟨_, _, [], [], rfl, pl0.wk (by decide)⟩
    case r1 =>
      rintro σ3 H3 ⟨v4, v5, ts, ms, rfl, pl⟩
      refine seq_cut (PJ a L P sh H1 7) ?r5 (fun N5 nN5 => ?f5)
      case f5 =>
        refine ⟨_, rfl, _, _, rfl, rfl, ⟨by decide, by decide⟩, _, _, rfl, rfl, (by show (0 : Int) < 2; decide), rfl, _, rfl, ite2 (fun _ => ?_) (fun _ => nN5 _ _ ⟨_, _, ts, ms, rfl, pl.wk (by decide)⟩)⟩
        refine ⟨_, rfl, .inl ⟨rfl, _, SqL.of pl.hP⟩, (by show 1 ≤ sizeLine; decide), fun t' ht' => ?_⟩
        have p3 := pl.same (same_new (o := .tup [V.str (Str.ofString "rest")]) ht')
        refine ⟨P, _, _, rfl, rfl, p3.hP, (by rw [List.length_map]; have := p3.le; omega), ?_⟩
        exact nN5 _ _ ⟨_, _, _, _, rfl, p3.push hP (m := (6, .no)) (t := t') (good_push p3.gd (.inl (by decide : (6 : Nat) ≠ 0 ∧ (6 : Nat) ≠ 1))) ⟨trivial, upd_same, trivial⟩⟩
      case r5 =>
        rintro σ4 H4 ⟨v4, v5, ts, ms, rfl, pl⟩
        refine seq_cut (PJ a L P sh H1 8) ?r6 (fun N6 nN6 => ?f6)
        case f6 =>
          refine ⟨_, rfl, _, _, rfl, rfl, ⟨by decide, by decide⟩, _, _, rfl, rfl, (by show (0 : Int) < 2; decide), rfl, _, rfl, ite2 (fun _ => ?_) (fun _ => nN6 _ _ ⟨_, _, ts, ms, rfl, pl.wk (by decide)⟩)⟩
          refine ⟨_, rfl, .inl ⟨rfl, _, SqL.of pl.hP⟩, _, rfl, a, ns, _, rfl, pl.sm.seq hS1, by decide, fun z => ⟨_, rfl, fun x H5 sx s5 => ⟨(by show 2 ≤ sizeLine; decide), fun t' ht' => ?_⟩⟩⟩
          have p3 := (pl.same s5).same (same_new (o := .tup [V.str (Str.ofString "point"), V.str x]) ht')
          refine ⟨P, _, _, rfl, rfl, p3.hP, (by rw [List.length_map]; have := p3.le; omega), ?_⟩
          exact nN6 _ _ ⟨_, _, _, _, rfl, p3.push hP (m := (7, .txt x)) (t := t') (good_push p3.gd (.inl (by decide : (7 : Nat) ≠ 0 ∧ (7 : Nat) ≠ 1))) ⟨sx.asc.ok, upd_same, trivial⟩⟩
        case r6 =>
          rintro σ5 H5 ⟨v4, v5, ts, ms, rfl, pl⟩
          exact ⟨_, rfl, q P L ws ts ms H5 (s1.trans pl.sm) pl.hP (pl.sm _ _ hL1) hgo pl.at_ (by have := pl.le; omega) pl.gd⟩
end

/-! ### LAWB -/
theorem last_ref (pre : List Addr) (q : Addr) : atI ((pre ++ [q]).map V.ref) (-1) = some (.ref q) := by
  rw [List.map_append]; exact atI_last _ _
def spBar (A : Adr) (K : PySem.W.Frag) : Sp := fun vs H Q _ => ∃ (B : Addr) (cl : Bool) (os : List Addr) (b : Int), vs = [.ref B, .bl cl] ∧ SqL K H B (os.map V.ref) ∧
  ((os = [] ∧ b = -1) ∨ ∃ (pre : List Addr) (m : Addr) (k : Nat) (dx : Addr) (v : V), os = pre ++ [m] ∧ k < 8 ∧ H m = some (.ins (A.C k) dx (fsOf k v)) ∧ b = (k : Int)) ∧ Q (.int (if cl = true then (if (4 : Int) > b then 4 else b) else b)) H
def spToldA (A : Adr) (K : PySem.W.Frag) (k : Nat) : Sp := fun vs H Q E => (k = 0 ∧ spTold0 A K vs H Q E) ∨ spTold A k vs H Q E
def spMotA (A : Adr) (K : PySem.W.Frag) : Sp := fun vs H Q E => spMotOf A vs H Q E ∨ spMotOf0 A K vs H Q E
/-- lists side by side -/
def AllAt (R : Mo → Addr → Prop) : List Addr → List Mo → Prop
  | [], ms => ms = []
  | t :: ts, ms => ∃ m r, ms = m :: r ∧ R m t ∧ AllAt R ts r
theorem AllAt.imp {R R' : Mo → Addr → Prop} (s : ∀ m t, R m t → R' m t) : ∀ {ts : List Addr} {ms : List Mo}, AllAt R ts ms → AllAt R' ts ms
  | [], _, h => h
  | _ :: _, _, ⟨m, r, e, h, t⟩ => ⟨m, r, e, s _ _ h, AllAt.imp s t⟩
theorem AllAt.snoc {R : Mo → Addr → Prop} : ∀ {ts : List Addr} {ms : List Mo} {t : Addr} {m : Mo}, AllAt R ts ms → R m t → AllAt R (ts ++ [t]) (ms ++ [m])
  | [], _, t, m, h, e => by
    have h' : _ = [] := h
    subst h'
    exact ⟨m, [], rfl, e, rfl⟩
  | _ :: _, _, t, m, ⟨m', r, e', h, tl⟩, e => ⟨m', r ++ [m], by rw [e']; rfl, h, AllAt.snoc tl e⟩
theorem AllAt.len {R : Mo → Addr → Prop} : ∀ {ts : List Addr} {ms : List Mo}, AllAt R ts ms → ts.length = ms.length
  | [], _, h => by
    have h' : _ = [] := h
    rw [h']; rfl
  | _ :: _, _, ⟨m, r, e, h, t⟩ => by rw [e, List.length_cons, List.length_cons, AllAt.len t]
theorem AllAt.get {R : Mo → Addr → Prop} : ∀ {ts : List Addr} {ms : List Mo} {i : Nat} {t : Addr}, AllAt R ts ms → ts[i]? = some t → ∃ m, ms[i]? = some m ∧ R m t
  | [], _, _, _, _, g => by simp at g
  | _ :: _, _, 0, t, ⟨m, r, e, h, _⟩, g => by
    obtain rfl := Option.some.inj g
    exact ⟨m, by rw [e]; rfl, h⟩
  | _ :: _, _, i + 1, t, ⟨m, r, e, h, tl⟩, g => by
    obtain ⟨x, h1, h2⟩ := AllAt.get tl (show _ = some t from g)
    exact ⟨x, by rw [e]; exact h1, h2⟩
theorem AllAt.dvs {K : PySem.W.Frag} {H : Hp} {ws : List Str} {R : Mo → Addr → Prop} (s : ∀ m t, R m t → DV K H (moD ws m) (.ref t)) : ∀ {ts : List Addr} {ms : List Mo}, AllAt R ts ms → DVs K H (ms.map (moD ws)) (ts.map V.ref)
  | [], _, h => by
    have h' : _ = [] := h
    subst h'
    simp only [List.map_nil]; unfold DVs; rfl
  | t :: ts, _, ⟨m, r, e, h, g⟩ => by
    rw [e]
    simp only [List.map_cons]
    unfold DVs
    exact ⟨_, _, rfl, s _ _ h, AllAt.dvs s g⟩
/-- the value that an object, or a tuple told anew, has: a matter's list is a copy that is not D -/
def ValAt (H : Hp) (L D : Addr) (ws : List Str) (m : Mo) (v : V) : Prop := (m.1 ≠ 0 ∧ v = m.2.v L) ∨ (m.1 = 0 ∧ ∃ p, v = .ref p ∧ p ≠ D ∧ H p = some (.lst (ws.map V.str)))
theorem ValAt.same {H H' : Hp} (s : Same H H') {L D : Addr} {ws : List Str} {m : Mo} {v : V} (h : ValAt H L D ws m v) : ValAt H' L D ws m v := by
  rcases h with h | ⟨h, p, e, n, hp⟩
  · exact .inl h
  · exact .inr ⟨h, p, e, n, s _ _ hp⟩
theorem ValAt.upd {H : Hp} {L D : Addr} {ws : List Str} {m : Mo} {v : V} {o : HO} (h : ValAt H L D ws m v) : ValAt (upd H D o) L D ws m v := by
  rcases h with h | ⟨h, p, e, n, hp⟩
  · exact .inl h
  · exact .inr ⟨h, p, e, n, (upd_ne n).trans hp⟩
def ObAt (A : Adr) (H : Hp) (L D : Addr) (ws : List Str) (m : Mo) (o : Addr) : Prop := m.1 < 8 ∧ ∃ dx v, H o = some (.ins (A.C m.1) dx (fsOf m.1 v)) ∧ ValAt H L D ws m v
def ToAt (H : Hp) (L D : Addr) (ws : List Str) (m : Mo) (t : Addr) : Prop := ∃ v, H t = some (.tup (rowOf m.1 v)) ∧ ValAt H L D ws m v
theorem ObAt.same {A : Adr} {H H' : Hp} (s : Same H H') {L D : Addr} {ws : List Str} {m : Mo} {o : Addr} (h : ObAt A H L D ws m o) : ObAt A H' L D ws m o := by
  obtain ⟨k, dx, v, e, hv⟩ := h
  exact ⟨k, dx, v, s _ _ e, hv.same s⟩
theorem ObAt.upd {A : Adr} {H : Hp} {L D : Addr} {ws : List Str} {m : Mo} {o : Addr} {u : HO} {xs : List V} (hD : H D = some (.lst xs)) (h : ObAt A H L D ws m o) : ObAt A (upd H D u) L D ws m o := by
  obtain ⟨k, dx, v, e, hv⟩ := h
  exact ⟨k, dx, v, (upd_ne (fun z => by rw [z, hD] at e; cases e)).trans e, hv.upd⟩
theorem ToAt.same {H H' : Hp} (s : Same H H') {L D : Addr} {ws : List Str} {m : Mo} {o : Addr} (h : ToAt H L D ws m o) : ToAt H' L D ws m o := by
  obtain ⟨v, e, hv⟩ := h
  exact ⟨v, s _ _ e, hv.same s⟩
theorem ToAt.upd {H : Hp} {L D : Addr} {ws : List Str} {m : Mo} {o : Addr} {u : HO} {xs : List V} (hD : H D = some (.lst xs)) (h : ToAt H L D ws m o) : ToAt (upd H D u) L D ws m o := by
  obtain ⟨v, e, hv⟩ := h
  exact ⟨v, (upd_ne (fun z => by rw [z, hD] at e; cases e)).trans e, hv.upd⟩
theorem to_dv {K : PySem.W.Frag} {H : Hp} {L D : Addr} {ws : List Str} {m : Mo} {t : Addr} (o : WhOk m.1 m.2) (hw : WhAt H m.2) (hL : SqL K H L (ws.map V.str)) (h : ToAt H L D ws m t) : DV K H (moD ws m) (.ref t) := by
  obtain ⟨v, e, hv⟩ := h
  refine row_dv (SqT.of e) (.inr ?_)
  rcases hv with ⟨_, rfl⟩ | ⟨h0, p, rfl, _, hp⟩
  · exact wh_dv hL hw
  · obtain ⟨k, wh⟩ := m
    obtain rfl : k = 0 := h0
    cases wh with
    | mat => exact dv_strs (SqL.of hp)
    | _ => exact False.elim o
def kinds8 : List Str := [Str.ofString "matter", Str.ofString "change", Str.ofString "mend", Str.ofString "put off", Str.ofString "close", Str.ofString "lay", Str.ofString "rest", Str.ofString "point"]
theorem kinds_at : ∀ k, k < 8 → kinds8[k]? = some (nm k) ∧ ∀ m, m < k → kinds8[m]? ≠ some (nm k) := by decide +kernel
def spLaw (K : PySem.W.Frag) : Sp := fun vs H Q _ => ∃ (a : Addr) (ns : List Int), vs = [.ref a] ∧ SqL K H a (ns.map V.int) ∧ ns.length ≤ 63 ∧ ∀ H', Q (.bl true) H'
section
variable {P : Program} {w : World} {K : PySem.W.Frag} {mg : Str → Option Value} {base : Heap} {A : Adr}
theorem ok_toldA (T : Txt w.params K mg A) : ∀ k, k < 8 → FnOk P w K mg base CX0 2 (A.ft k) (A.ftd k) ["self"] (spToldA A K k)
  | 0, _ => (ok_told0 T).imp fun vs H Q E h => h.elim (fun z => z.2) (fun z => absurd z.1 (by decide))
  | 1, h => (ok_told T 1 h).imp fun vs H Q E h => h.elim (fun z => absurd z.1 (by decide)) id
  | 2, h => (ok_told T 2 h).imp fun vs H Q E h => h.elim (fun z => absurd z.1 (by decide)) id
  | 3, h => (ok_told T 3 h).imp fun vs H Q E h => h.elim (fun z => absurd z.1 (by decide)) id
  | 4, h => (ok_told T 4 h).imp fun vs H Q E h => h.elim (fun z => absurd z.1 (by decide)) id
  | 5, h => (ok_told T 5 h).imp fun vs H Q E h => h.elim (fun z => absurd z.1 (by decide)) id
  | 6, h => (ok_told T 6 h).imp fun vs H Q E h => h.elim (fun z => absurd z.1 (by decide)) id
  | 7, h => (ok_told T 7 h).imp fun vs H Q E h => h.elim (fun z => absurd z.1 (by decide)) id
  | n + 8, h => absurd h (by omega)
theorem ok_motA (T : Txt w.params K mg A) : FnOk P w K mg base CX0 3 A.motion_of A.fd_motion_of ["told"] (spMotA A K) := fn_or (ok_motion_of T) (ok_motion_of0 T)
theorem ok_bar_of (T : Txt w.params K mg A) : FnOk P w K mg base CX0 3 A.bar_of A.fd_bar_of ["pile", "closed"] (spBar A K) := by
  have G_rank : ∀ k, k < 8 → FnOk P w K mg base CX0 2 A.f_r A.fd_r ["self"] (spRank A) := fun _ _ => ok_rank T
  refine T.F_bar_of.ok sc_bar_of (fun vs H Q E h => ?_) (fun cdv A' outer s H vs Q E hr h => ?_)
  · obtain ⟨B, cl, os, b, rfl, _⟩ := h
    rfl
  · obtain ⟨B, cl, os, b, rfl, hB, hb, q⟩ := h
    have hr_rank := hr
    refine ⟨_, (pss_cons (ps_set (i := 2) sc_bar_of.nd rfl (Or.inl rfl) (pe_ifExp (pt_truth (pv 0) (fun _ => rfl)) (pe_meth0F (n := 8) (Cf := A.C) (pe_ix ix_list (pv 0) (pe_un un_neg pe_int) (fun _ _ => rfl)) T.cl T.m_rank G_rank hr_rank T.b_rank pass0) (pe_un un_neg pe_int)))
  (pss_cons (ps_if (pt_val (pv 1))
  (pss_one (ps_ret (pe_callB (call_max2 rfl) (by rfl) T.n_max bt_max (pa_cons (pv 2) (pa_cons (pe_glob (v := V.int 4) rfl T.g_CLOSED_BAR ⟨_, rfl⟩) pa_nil)))))
  pss_nil)
  (pss_one (ps_ret (pv 2))))), ?_⟩
    have fin : ∀ D : Ends, D.rt = Q → True := fun _ _ => trivial
    rcases hb with ⟨rfl, rfl⟩ | ⟨pre, m, k, dx, v, rfl, hk, hm, rfl⟩
    · refine ⟨_, rfl, _, .inl ⟨_, hB, rfl⟩, iteF ⟨_, rfl, ?_⟩⟩
      refine ⟨_, rfl, _, rfl, ?_⟩
      cases cl with
      | true => exact iteT ⟨_, rfl, _, _, rfl, q⟩
      | false => exact iteF ⟨_, rfl, q⟩
    · refine ⟨_, rfl, _, .inl ⟨_, hB, rfl⟩, ite_t (by simp) ⟨_, rfl, _, rfl, B, _, _, _, rfl, rfl, hB, last_ref pre m, k, hk, m, dx, _, rfl, hm, no_rank k v, m, k, dx, _, hk, rfl, hm, no_kind k v, ?_⟩⟩
      refine ⟨_, rfl, _, rfl, ?_⟩
      cases cl with
      | true => exact iteT ⟨_, rfl, _, _, rfl, q⟩
      | false => exact iteF ⟨_, rfl, q⟩
theorem nm_is0 : ∀ k, k < 8 → decide (V.str (nm k) = V.str (Str.ofString "matter")) = decide (k = 0) := by decide +kernel
theorem nm_is1 : ∀ k, k < 8 → decide (V.str (nm k) = V.str (Str.ofString "change")) = decide (k = 1) := by decide +kernel
theorem nm_is2 : ∀ k, k < 8 → decide (V.str (nm k) = V.str (Str.ofString "mend")) = decide (k = 2) := by decide +kernel
def hasM (ms : List Mo) : Bool := ms.any fun m => decide (m.1 = 0)
def notCut : Wh → Bool
  | .ed _ (.s s0 :: _) => !decide (V.str s0 = V.str (Str.ofString "cut"))
  | _ => false
def mendOk (ms : List Mo) : Bool := match ms.getLast? with
  | none => false
  | some m => decide (m.1 = 1) && notCut m.2
def needs (ms : List Mo) (k : Nat) : Bool := if k = 2 then mendOk ms else if k = 1 ∨ k = 3 ∨ k = 4 ∨ k = 5 then hasM ms else true
def spHas (A : Adr) (K : PySem.W.Frag) : Sp := fun vs H Q _ => ∃ (B L D : Addr) (ws : List Str) (os : List Addr) (ms : List Mo), vs = [.ref B] ∧ SqL K H B (os.map V.ref) ∧ AllAt (ObAt A H L D ws) os ms ∧ os.length ≤ 100 ∧ ∀ H', Same H H' → Q (.bl (hasM ms)) H'
def spMend (A : Adr) (K : PySem.W.Frag) : Sp := fun vs H Q _ => ∃ (B L D : Addr) (ws : List Str) (os : List Addr) (ms : List Mo), vs = [.ref B] ∧ SqL K H B (os.map V.ref) ∧ AllAt (ObAt A H L D ws) os ms ∧ (∀ m ∈ ms, WhOk m.1 m.2 ∧ WhAt H m.2) ∧ ∀ H', Same H H' → Q (.bl (mendOk ms)) H'
def spNeeds (A : Adr) (K : PySem.W.Frag) : Sp := fun vs H Q _ => ∃ (k : Nat) (B L D : Addr) (ws : List Str) (os : List Addr) (ms : List Mo), vs = [.str (nm k), .ref B] ∧ k < 8 ∧ SqL K H B (os.map V.ref) ∧ AllAt (ObAt A H L D ws) os ms ∧ os.length ≤ 100 ∧ (∀ m ∈ ms, WhOk m.1 m.2 ∧ WhAt H m.2) ∧ ∀ H', Same H H' → Q (.bl (needs ms k)) H'
theorem ok_has_matter (T : Txt w.params K mg A) : FnOk P w K mg base CX0 2 A.has_matter A.fd_has_matter ["pile"] (spHas A K) := by
  have G_kind : ∀ k, k < 8 → FnOk P w K mg base CX0 1 (A.fk k) (A.fkd k) ["self"] (spKind k) := ok_kind T
  refine T.F_has_matter.ok sc_has_matter (fun vs H Q E h => ?_) (fun cdv A' outer s H vs Q E hr h => ?_)
  · obtain ⟨B, L, D, ws, os, ms, rfl, _⟩ := h
    rfl
  · obtain ⟨B, L, D, ws, os, ms, rfl, hB, ho, hl, q⟩ := h
    have hr_kind := hr
    refine ⟨_, (pss_one (ps_ret (pe_callB (call_any rfl) (by rfl) T.n_any bt_any (pa_cons (pe_comp (scope := kcs_has_matter_0) cs_has_matter_0 rfl (pi_list (pv 0)) (fun _ _ _ _ _ => (pe_cmpR op_eq (pe_meth0F (n := 8) (Cf := A.C) (pv 0) T.cl T.m_kind G_kind hr_kind T.b_kind pass0) pe_str (nomark _)))) pa_nil)))), ?_⟩
    have lim : sizeLine = 16777216 := by decide
    have ol := ho.len
    refine ⟨_, rfl, B, rfl, ⟨_, hB⟩, fun R hR => ?_⟩
    have sR : ∀ {o : HO}, Same H (upd H R o) := same_new hR
    refine comp_list (K := K) (a := B) (xs := os.map V.ref) (fun i ys H2 => ys = (ms.take i).map (fun m => V.bl (decide (m.1 = 0))) ∧ H2 = upd H R (.lst ys)) ⟨rfl, rfl⟩ (by rw [List.length_map]; omega) ?_ ?_ ?_
    · rintro i ys H2 hi ⟨rfl, rfl⟩
      rw [List.length_map] at hi
      exact ⟨sR.seq hB, upd_same, by rw [List.length_map, List.length_take]; omega⟩
    · rintro i y ys H2 hy ⟨rfl, rfl⟩
      obtain ⟨o, ho1, rfl⟩ : ∃ o, os[i]? = some o ∧ V.ref o = y := by
        rw [List.getElem?_map] at hy
        cases ht : os[i]? with
        | none => rw [ht] at hy; cases hy
        | some t => rw [ht] at hy; exact ⟨t, rfl, Option.some.inj hy⟩
      obtain ⟨m, hm1, k8, dx, v, ho2, _⟩ := ho.get ho1
      refine ⟨_, rfl, m.1, k8, o, dx, _, rfl, sR _ _ ho2, no_kind m.1 v, o, rfl, rfl, ?_⟩
      rw [nm_is0 m.1 k8]
      refine CompNext.mk (List.getElem?_eq_some_iff.mp hy).1 upd_same ⟨?_, by rw [upd_upd]⟩
      rw [List.take_succ, hm1, List.map_append]; rfl
    · rintro ys H2 ⟨rfl, rfl⟩
      rw [List.length_map, ol, List.take_length]
      refine ⟨R, ms.map (fun m => decide (m.1 = 0)), rfl, SqL.of (by rw [upd_same, List.map_map]; rfl), ?_⟩
      rw [List.any_map]
      exact q _ sR
theorem ok_can_be_mended (T : Txt w.params K mg A) : FnOk P w K mg base CX0 3 A.can_be_mended A.fd_can_be_mended ["pile"] (spMend A K) := by
  have G_told : ∀ k, k < 8 → FnOk P w K mg base CX0 2 (A.ft k) (A.ftd k) ["self"] (spToldA A K k) := ok_toldA T
  refine T.F_can_be_mended.ok sc_can_be_mended (fun vs H Q E h => ?_) (fun cdv A' outer s H vs Q E hr h => ?_)
  · obtain ⟨B, L, D, ws, os, ms, rfl, _⟩ := h
    rfl
  · obtain ⟨B, L, D, ws, os, ms, rfl, hB, ho, hw, q⟩ := h
    have hr_told := hr
    refine ⟨_, (pss_cons (ps_if (pt_not (pt_truth (pv 0) (fun _ => rfl)))
  (pss_one (ps_ret pe_bl))
  pss_nil)
  (pss_cons (ps_set (i := 1) sc_can_be_mended.nd rfl (Or.inl rfl) (pe_meth0F (n := 8) (Cf := A.C) (pe_ix ix_list (pv 0) (pe_un un_neg pe_int) (fun _ _ => rfl)) T.cl T.m_told G_told hr_told T.b_told pass0))
  (pss_one (ps_ret (pe_and (pe_cmpR op_eq (pe_ix ix_tup (pv 1) pe_int (fun _ _ => rfl)) pe_str (nomark _)) (pe_one (pe_cmpR op_ne (pe_ix ix_tup (pe_ix ix_tup (pv 1) pe_int (fun _ _ => rfl)) pe_int (fun _ _ => rfl)) pe_str (nomark _)))))))), ?_⟩
    have ol := ho.len
    rcases List.eq_nil_or_concat os with h | ⟨pre, o, h⟩
    · subst h
      have hms : ms = [] := ho
      subst hms
      refine ⟨_, rfl, _, .inl ⟨_, hB, rfl⟩, iteT ?_⟩
      exact q H (Same.refl _)
    · rw [List.concat_eq_append] at h
      subst h
      refine ⟨_, rfl, _, .inl ⟨_, hB, rfl⟩, ite_f (by simp) ?_⟩
      obtain ⟨m, g1, k8, dx, v, ho2, hv⟩ := ho.get (i := pre.length) (t := o) (by simp)
      have gl : ms.getLast? = some m := by
        rw [List.getLast?_eq_getElem?, ← ol, List.length_append]
        simpa using g1
      have hmm := hw m (List.mem_of_getElem? g1)
      obtain ⟨k, wh⟩ := m
      dsimp only at k8 ho2 hv hmm
      have mk : mendOk ms = (decide (k = 1) && notCut wh) := by unfold mendOk; rw [gl]
      rw [mk] at q
      refine ⟨_, rfl, _, rfl, B, _, _, _, rfl, rfl, hB, last_ref pre o, k, k8, o, dx, _, rfl, ho2, no_told k v, ?_⟩
      rcases hv with ⟨hk0, hv⟩ | ⟨hk0, p, hv, _, hp⟩
      · refine .inr ⟨by have : k ≠ 0 := hk0; omega, o, dx, v, rfl, ho2, fun u hu => ?_⟩
        have su := same_new (o := .tup (rowOf k v)) hu
        refine ⟨_, rfl, u, _, _, _, rfl, rfl, SqT.of upd_same, row_at0, rfl, _, rfl, ?_⟩
        rw [nm_is1 k k8]
        by_cases h1 : k = 1
        · subst h1
          cases wh with
          | ed e fl =>
            obtain ⟨⟨_, s0, r, rfl⟩, hwa⟩ := hmm
            have hv' : v = .ref e := hv
            subst hv'
            refine ite_t (decide_eq_true rfl) ⟨_, rfl, u, _, _, _, rfl, rfl, SqT.of upd_same, rfl, e, _, _, _, rfl, rfl, SqT.of (su _ _ hwa), atI_nat (j := 0) rfl, rfl, ?_⟩
            exact q _ su
          | _ => exact False.elim hmm.1
        · rw [decide_eq_false h1] at q ⊢
          exact iteF (q _ su)
      · have hk0' : k = 0 := hk0
        subst hk0'
        refine .inl ⟨rfl, o, dx, p, ws.map V.str, rfl, by rw [← hv]; exact ho2, SqL.of hp, fun p2 u hp2 hu npu => ?_⟩
        have nu : (upd H p2 (.lst (ws.map V.str))) u = none := (upd_ne (Ne.symm npu)).trans hu
        refine ⟨_, rfl, u, _, _, _, rfl, rfl, SqT.of upd_same, rfl, rfl, _, rfl, ?_⟩
        rw [nm_is1 0 (by decide)]
        exact iteF (q _ ((same_new hp2).new nu))
theorem ok_has_what_it_needs (T : Txt w.params K mg A) : FnOk P w K mg base CX0 4 A.has_what_it_needs A.fd_has_what_it_needs ["kind", "pile"] (spNeeds A K) := by
  have G_has_matter : FnOk P w K mg base CX0 2 A.has_matter A.fd_has_matter ["pile"] (spHas A K) := ok_has_matter T
  have G_can_be_mended : FnOk P w K mg base CX0 3 A.can_be_mended A.fd_can_be_mended ["pile"] (spMend A K) := ok_can_be_mended T
  refine T.F_has_what_it_needs.ok sc_has_what_it_needs (fun vs H Q E h => ?_) (fun cdv A' outer s H vs Q E hr h => ?_)
  · obtain ⟨k, B, L, D, ws, os, ms, rfl, _⟩ := h
    rfl
  · obtain ⟨k, B, L, D, ws, os, ms, rfl, k8, hB, ho, hl, hw, q⟩ := h
    have hr_has_matter : Room 2 _ := hr.mono (by decide)
    have hr_can_be_mended := hr
    refine ⟨_, (pss_cons (ps_if (pt_cmpR op_eq (pv 0) pe_str (nomark _))
  (pss_one (ps_ret (pe_call G_can_be_mended hr_can_be_mended rfl T.g_can_be_mended T.F_can_be_mended.kp T.b_can_be_mended .nil pass0 (pa_cons (pv 1) pa_nil))))
  pss_nil)
  (pss_cons (ps_if (pt_cmpR op_in_seq (pv 0) (pe_tup (pa_cons pe_str (pa_cons pe_str (pa_cons pe_str (pa_cons pe_str pa_nil))))) rfl)
  (pss_one (ps_ret (pe_call G_has_matter hr_has_matter rfl T.g_has_matter T.F_has_matter.kp T.b_has_matter .nil pass0 (pa_cons (pv 1) pa_nil))))
  pss_nil)
  (pss_one (ps_ret pe_bl)))), ?_⟩
    refine ⟨_, rfl, rfl, _, rfl, ?_⟩
    rw [nm_is2 k k8]
    by_cases h2 : k = 2
    · refine ite_t (decide_eq_true h2) ⟨_, rfl, B, L, D, ws, os, ms, rfl, hB, ho, hw, fun H' s' => ?_⟩
      have := q H' s'
      unfold needs at this
      rw [if_pos h2] at this
      exact this
    · refine ite_f (decide_eq_false h2) ?_
      refine ⟨_, rfl, (by show 4 ≤ sizeLine; decide), fun t ht => ?_⟩
      have st := same_new (o := .tup [V.str (Str.ofString "change"), V.str (Str.ofString "put off"), V.str (Str.ofString "close"), V.str (Str.ofString "lay")]) ht
      refine ⟨t, _, rfl, .inr (SqT.of upd_same), rfl, rfl, _, rfl, ?_⟩
      have ein : (if false = true then !inV (V.str (nm k)) [V.str (Str.ofString "change"), V.str (Str.ofString "put off"), V.str (Str.ofString "close"), V.str (Str.ofString "lay")] else inV (V.str (nm k)) [V.str (Str.ofString "change"), V.str (Str.ofString "put off"), V.str (Str.ofString "close"), V.str (Str.ofString "lay")]) = decide (k = 1 ∨ k = 3 ∨ k = 4 ∨ k = 5) := by
        have : ∀ k, k < 8 → inV (V.str (nm k)) [V.str (Str.ofString "change"), V.str (Str.ofString "put off"), V.str (Str.ofString "close"), V.str (Str.ofString "lay")] = decide (k = 1 ∨ k = 3 ∨ k = 4 ∨ k = 5) := by decide +kernel
        exact this k k8
      rw [ein]
      unfold needs at q
      rw [if_neg h2] at q
      by_cases h3 : k = 1 ∨ k = 3 ∨ k = 4 ∨ k = 5
      · rw [if_pos h3] at q
        exact ite_t (decide_eq_true h3) ⟨_, rfl, B, L, D, ws, os, ms, rfl, st.seq hB, ho.imp (fun m o h => h.same st), hl, fun H' s' => q H' (st.trans s')⟩
      · rw [if_neg h3] at q
        exact ite_f (decide_eq_false h3) (q _ st)
def barV (cl : Bool) (b : Int) : Int := if cl = true then (if (4 : Int) > b then 4 else b) else b
def inF (ms : List Mo) (bb : Int) (k : Nat) : Bool := decide ((k : Int) > bb) && needs ms k
def inUpTo (ms : List Mo) (bb : Int) (n : Nat) : List Str := ((List.range n).filter (inF ms bb)).map nm
theorem inUpTo_succ (ms : List Mo) (bb : Int) (n : Nat) : inUpTo ms bb (n + 1) = inUpTo ms bb n ++ (if inF ms bb n = true then [nm n] else []) := by
  unfold inUpTo
  rw [List.range_succ, List.filter_append, List.map_append]
  congr 1
  by_cases h : inF ms bb n = true
  · rw [if_pos h]; simp [List.filter, h]
  · rw [if_neg h]; simp [List.filter, h]
theorem inUpTo_len (ms : List Mo) (bb : Int) (n : Nat) : (inUpTo ms bb n).length ≤ n := by
  unfold inUpTo
  rw [List.length_map]
  exact Nat.le_trans (List.length_filter_le _ _) (by rw [List.length_range]; exact Nat.le_refl _)
theorem inUpTo_none (ms : List Mo) (bb : Int) : ∀ n : Nat, (n : Int) ≤ bb + 1 → inUpTo ms bb n = []
  | 0, _ => rfl
  | n + 1, h => by
    rw [inUpTo_succ, inUpTo_none ms bb n (by omega)]
    have : inF ms bb n = false := by unfold inF; rw [decide_eq_false (by omega)]; rfl
    rw [this]; rfl
def TopB (A : Adr) (H : Hp) (os : List Addr) (b : Int) : Prop := (os = [] ∧ b = -1) ∨ ∃ (pre : List Addr) (m : Addr) (k : Nat) (dx : Addr) (v : V), os = pre ++ [m] ∧ k < 8 ∧ H m = some (.ins (A.C k) dx (fsOf k v)) ∧ b = (k : Int)
theorem TopB.same {A : Adr} {H H' : Hp} (s : Same H H') {os : List Addr} {b : Int} (h : TopB A H os b) : TopB A H' os b := by
  rcases h with h | ⟨pre, m, k, dx, v, h1, h2, h3, h4⟩
  · exact .inl h
  · exact .inr ⟨pre, m, k, dx, v, h1, h2, s _ _ h3, h4⟩
def spKinds (A : Adr) (K : PySem.W.Frag) : Sp := fun vs H Q _ => ∃ (B L D : Addr) (cl : Bool) (ws : List Str) (os : List Addr) (ms : List Mo) (b : Int), vs = [.ref B, .bl cl] ∧ SqL K H B (os.map V.ref) ∧ AllAt (ObAt A H L D ws) os ms ∧ os.length ≤ 100 ∧ (∀ m ∈ ms, WhOk m.1 m.2 ∧ WhAt H m.2) ∧ TopB A H os b ∧
  ∀ p H', Same H H' → H p = none → H' p = some (.lst ((inUpTo ms (barV cl b) 8).map V.str)) → Q (.ref p) H'
theorem kinds_get {i : Nat} {z : Str} (h : kinds8[i]? = some z) : i < 8 ∧ z = nm i := by
  have hi : i < 8 := (List.getElem?_eq_some_iff.mp h).1
  exact ⟨hi, Option.some.inj (h.symm.trans (kinds_at i hi).1)⟩
theorem wh_same {H H' : Hp} (s : Same H H') {ms : List Mo} (h : ∀ m ∈ ms, WhOk m.1 m.2 ∧ WhAt H m.2) : ∀ m ∈ ms, WhOk m.1 m.2 ∧ WhAt H' m.2 := fun m hm => by
  refine ⟨(h m hm).1, ?_⟩
  have w := (h m hm).2
  cases hw : m.2 with
  | ed e fl => rw [hw] at w; exact s _ _ w
  | _ => trivial
set_option maxHeartbeats 20000000 in
theorem ok_kinds_in_order (T : Txt w.params K mg A) : FnOk P w K mg base CX0 5 A.kinds_in_order A.fd_kinds_in_order ["pile", "closed"] (spKinds A K) := by
  have G_bar_of : FnOk P w K mg base CX0 3 A.bar_of A.fd_bar_of ["pile", "closed"] (spBar A K) := ok_bar_of T
  have G_has_what_it_needs : FnOk P w K mg base CX0 4 A.has_what_it_needs A.fd_has_what_it_needs ["kind", "pile"] (spNeeds A K) := ok_has_what_it_needs T
  refine T.F_kinds_in_order.ok sc_kinds_in_order (fun vs H Q E h => ?_) (fun cdv A' outer s H vs Q E hr h => ?_)
  · obtain ⟨B, L, D, cl, ws, os, ms, b, rfl, _⟩ := h
    rfl
  · obtain ⟨B, L, D, cl, ws, os, ms, b, rfl, hB, ho, hl, hw, hb, q⟩ := h
    have hr_bar_of : Room 3 _ := hr.mono (by decide)
    have hr_has_what_it_needs := hr
    refine ⟨_, (pss_cons (ps_set (i := 2) sc_kinds_in_order.nd rfl (Or.inr rfl) (pe_call G_bar_of hr_bar_of rfl T.g_bar_of T.F_bar_of.kp T.b_bar_of .nil pass0 (pa_cons (pv 0) (pa_cons (pv 1) pa_nil))))
  (pss_one (ps_ret (pe_compI (scope := kcs_kinds_in_order_0) cs_kinds_in_order_0 rfl (pi_tab T.tk rfl T.g_RANKS) (fun _ _ _ _ _ => (PW.pt (pw_and (pt_cmpR op_gt (pe_ix (ix_tabK (K := K) (pr := w.params) rfl rfl) (pe_glob (v := V.ref A.tab) rfl T.g_RANKS rfl) (pv 0) (fun _ _ => rfl)) (pv 3) (nomark _)) (pw_and1 (pt_val (pe_call G_has_what_it_needs hr_has_what_it_needs rfl T.g_has_what_it_needs T.F_has_what_it_needs.kp T.b_has_what_it_needs .nil pass0 (pa_cons (pv 0) (pa_cons (pv 1) pa_nil)))))))) (fun _ _ _ _ _ => (pv 0)))))), ?_⟩
    have lim : sizeLine = 16777216 := by decide
    refine ⟨_, rfl, _, rfl, B, cl, os, b, rfl, hB, hb, ?_⟩
    dsimp only [gName]
    have hbar : (if cl = true then (if (4 : Int) > b then 4 else b) else b) = barV cl b := rfl
    rw [hbar]
    refine (fun R hR => ?_ : ∀ R, H R = none → _)
    have e8 : [Str.ofString "matter", Str.ofString "change", Str.ofString "mend", Str.ofString "put off", Str.ofString "close", Str.ofString "lay", Str.ofString "rest", Str.ofString "point"] = kinds8 := rfl
    rw [e8]
    refine compI_tab (ns := kinds8) (fun i ys H2 => ys = (inUpTo ms (barV cl b) i).map V.str ∧ Same H H2 ∧ H2 R = some (.lst ys)) ⟨rfl, same_new hR, upd_same⟩ (by decide) ?_ ?_ ?_
    · rintro i ys H2 hi ⟨rfl, s2, h2⟩
      exact ⟨h2, by rw [List.length_map]; exact inUpTo_len _ _ _⟩
    · rintro i z ys H2 hz ⟨rfl, s2, h2⟩
      obtain ⟨i8, rfl⟩ := kinds_get hz
      obtain ⟨tk, htk⟩ := T.rk i i8
      have lt8 : i < kinds8.length := i8
      refine ⟨_, rfl, A.tab, nm i, .int i, _, rfl, rfl, T.tb, htk, ⟨_, rfl⟩, _, rfl, _, _, rfl, rfl, _, rfl, ite2 (fun e => ?_) (fun e => ?_)⟩
      · have e' : (i : Int) > barV cl b := of_decide_eq_true e
        refine ⟨_, rfl, _, rfl, i, B, L, D, ws, os, ms, rfl, i8, s2.seq hB, ho.imp (fun m o h => h.same s2), hl, wh_same s2 hw, fun H3 s3 => ⟨_, rfl, ?_⟩⟩
        have ef : inF ms (barV cl b) i = needs ms i := by unfold inF; rw [decide_eq_true e']; rfl
        cases hn : needs ms i with
        | true =>
          refine iteT ⟨_, rfl, CompNext.mk lt8 (s3 _ _ h2) ⟨?_, (s2.trans s3).own hR, upd_same⟩⟩
          rw [inUpTo_succ, ef, hn, if_pos rfl, List.map_append]; rfl
        | false =>
          refine iteF (CompSkip.mk lt8 ⟨?_, s2.trans s3, s3 _ _ h2⟩)
          rw [inUpTo_succ, ef, hn, if_neg Bool.false_ne_true, List.append_nil]
      · have e' : ¬ (i : Int) > barV cl b := fun z => e (decide_eq_true z)
        refine iteF (CompSkip.mk lt8 ⟨?_, s2, h2⟩)
        have ef : inF ms (barV cl b) i = false := by unfold inF; rw [decide_eq_false e']; rfl
        rw [inUpTo_succ, ef, if_neg Bool.false_ne_true, List.append_nil]
    · rintro ys H2 ⟨rfl, s2, h2⟩
      exact q R H2 s2 hR h2
/-! the law's own reckoning -/
def spDue (K : PySem.W.Frag) : Sp := fun vs H Q _ => ∃ (P L : Addr) (cl : Bool) (ws : List Str) (ts : List Addr) (ms : List Mo) (b : Int), vs = [.ref P, .bl cl] ∧ H P = some (.lst (ts.map V.ref)) ∧ H L = some (.lst (ws.map V.str)) ∧ (∀ x ∈ ws, PyData.strOk x = true) ∧ MosAt H L ts ms ∧ ts.length ≤ 20 ∧ Good ms ∧
  ((ts = [] ∧ ms = [] ∧ b = -1) ∨ ∃ (pre : List Addr) (tl : Addr) (m : Mo), ts = pre ++ [tl] ∧ ms[pre.length]? = some m ∧ MoAt H L m tl ∧ b = (m.1 : Int)) ∧
  ∀ p H', Same H H' → H p = none → H' p = some (.lst ((inUpTo ms (barV cl b) 8).map V.str)) → Q (.ref p) H'
theorem good_has {ms : List Mo} (g : Good ms) : hasM ms = match ms with | [] => false | m :: _ => decide (m.1 = 0) := by
  cases ms with
  | nil => rfl
  | cons m r =>
    show hasM (m :: r) = decide (m.1 = 0)
    by_cases h : m.1 = 0
    · unfold hasM; rw [List.any_cons, decide_eq_true h]; rfl
    · rw [decide_eq_false h]
      cases hh : hasM (m :: r) with
      | false => rfl
      | true =>
        unfold hasM at hh
        obtain ⟨x, hx, hk⟩ := List.any_eq_true.mp hh
        obtain ⟨m0, r0, e, z⟩ := g x hx (.inl (of_decide_eq_true hk))
        injection e with e1 _
        rw [e1] at h
        exact absurd z h
theorem good_mend {ms : List Mo} (g : Good ms) (h : mendOk ms = true) : hasM ms = true := by
  unfold mendOk at h
  cases hl : ms.getLast? with
  | none => rw [hl] at h; cases h
  | some m =>
    rw [hl] at h
    have h' := (Bool.and_eq_true_iff.mp h).1
    obtain ⟨m0, r, e, z⟩ := g m (List.mem_of_getLast? hl) (.inr (of_decide_eq_true h'))
    unfold hasM
    rw [e, List.any_cons, decide_eq_true z]; rfl
set_option maxHeartbeats 20000000 in
theorem ok_l_due (T : Txt w.params K mg A) : FnOk P w K mg base CX0 1 A.l_due A.fd_l_due ["_law_told", "_law_closed"] (spDue K) := by
  refine T.F_l_due.ok sc_l_due (fun vs H Q E h => ?_) (fun cdv A' outer s H vs Q E hr h => ?_)
  · obtain ⟨P, L, cl, ws, ts, ms, b, rfl, _⟩ := h
    rfl
  · obtain ⟨P, L, cl, ws, ts, ms, b, rfl, hP, hL, hw, hm, tl, gd, hb, q⟩ := h
    have hu64 := hr.units
    refine ⟨_, (pss_cons (ps_set (i := 2) sc_l_due.nd rfl (Or.inl rfl) (pe_lst (pa_cons pe_str (pa_cons pe_str (pa_cons pe_str (pa_cons pe_str (pa_cons pe_str (pa_cons pe_str (pa_cons pe_str (pa_cons pe_str pa_nil))))))))))
  (pss_cons (ps_set (i := 3) sc_l_due.nd rfl (Or.inl rfl) (pe_un un_neg pe_int))
  (pss_cons (ps_if (pt_cmpR (op_neD hu64) (pv 0) (pe_lst pa_nil) (nomark _))
  (pss_one (ps_set (i := 3) sc_l_due.nd rfl (Or.inl rfl) (pe_bm PySem.F.plainAttrs_list PySem.F.slot_list_index PySem.F.type_list_index mt_index (pv 2) (pa_cons (pe_ix ix_tup (pe_ix ix_list (pv 0) (pe_un un_neg pe_int) (fun _ _ => rfl)) pe_int (fun _ _ => rfl)) pa_nil))))
  pss_nil)
  (pss_cons (ps_if (pt_val (pv 1))
  (pss_one (ps_set (i := 3) sc_l_due.nd rfl (Or.inl rfl) (pe_callB (call_max2 rfl) (by rfl) T.n_max bt_max (pa_cons (pv 3) (pa_cons pe_int pa_nil)))))
  pss_nil)
  (pss_cons (ps_set (i := 4) sc_l_due.nd rfl (Or.inl rfl) (pe_lst pa_nil))
  (pss_cons (ps_for PassesOwn.never rfl (pi_list (pe_slice sl_list (pv 2) (po_some (pe_op op_add (pv 3) pe_int)) po_none)) (pg_name (i := 5) sc_l_due.nd rfl (Or.inl rfl))
  (pss_cons (ps_set (i := 6) sc_l_due.nd rfl (Or.inl rfl) (pe_and (pe_cmpR (op_neD hu64) (pv 0) (pe_lst pa_nil) (nomark _)) (pe_one (pe_cmpR op_eq (pe_ix ix_tup (pe_ix ix_list (pv 0) pe_int (fun _ _ => rfl)) pe_int (fun _ _ => rfl)) pe_str (nomark _)))))
  (pss_one (ps_if (pt_cmpR op_eq (pv 5) pe_str (nomark _))
  (pss_one (ps_if (PW.pt (pw_and (pt_val (pv 6)) (pw_and (pt_cmpR op_eq (pe_ix ix_tup (pe_ix ix_list (pv 0) (pe_un un_neg pe_int) (fun _ _ => rfl)) pe_int (fun _ _ => rfl)) pe_str (nomark _)) (pw_and1 (pt_cmpR op_ne (pe_ix ix_tup (pe_ix ix_tup (pe_ix ix_list (pv 0) (pe_un un_neg pe_int) (fun _ _ => rfl)) pe_int (fun _ _ => rfl)) pe_int (fun _ _ => rfl)) pe_str (nomark _))))))
  (pss_one (ps_expr (pe_bm PySem.F.plainAttrs_list PySem.F.slot_list_append PySem.F.type_list_append mt_append (pv 4) (pa_cons (pv 5) pa_nil))))
  pss_nil))
  (pss_one (ps_if (PW.pt (pw_or (pt_val (pv 6)) (pw_or1 (pt_cmpR op_in_seq (pv 5) (pe_tup (pa_cons pe_str (pa_cons pe_str (pa_cons pe_str pa_nil)))) rfl))))
  (pss_one (ps_expr (pe_bm PySem.F.plainAttrs_list PySem.F.slot_list_append PySem.F.type_list_append mt_append (pv 4) (pa_cons (pv 5) pa_nil))))
  pss_nil))))))
  (pss_one (ps_ret (pv 4))))))))), ?_⟩
    have lim : sizeLine = 16777216 := by decide
    have oks := hm.oks
    have lay := pile_lay hw oks
    have nilD : SeqAt.shaped (.list []) = true := by decide +kernel
    have pdv : ∀ H', Same H H' → DV K H' (pileD ws ms) (.ref P) := fun H' s' => by
      unfold pileD DV
      exact ⟨P, _, rfl, SqL.of (s' _ _ hP), mos_dvs (SqL.of (s' _ _ hL)) (hm.keep fun t xs e => s' _ _ e)⟩
    have ndv : ∀ (H' : Hp) (l : Addr), H' l = some (.lst []) → DV K H' (.list []) (.ref l) := fun H' l e => by
      unfold DV
      exact ⟨l, [], rfl, SqL.of e, by unfold DVs; rfl⟩
    refine ⟨(by show 8 ≤ sizeLine; decide), fun R hR => ?_⟩
    have e8 : (HO.lst [V.str (Str.ofString "matter"), V.str (Str.ofString "change"), V.str (Str.ofString "mend"), V.str (Str.ofString "put off"), V.str (Str.ofString "close"), V.str (Str.ofString "lay"), V.str (Str.ofString "rest"), V.str (Str.ofString "point")]) = .lst (kinds8.map V.str) := rfl
    rw [e8]
    have s3 := same_new (o := .lst (kinds8.map V.str)) hR
    have hR3 : (upd H R (.lst (kinds8.map V.str))) R = some (.lst (kinds8.map V.str)) := upd_same
    generalize upd H R (.lst (kinds8.map V.str)) = H3 at s3 hR3 ⊢
    refine ⟨_, rfl, ?_⟩
    dsimp only [gName]
    refine seq_cut (fun σ' H' => σ' = [some (.ref P), some (.bl cl), some (.ref R), some (.int b), none, none, none] ∧ Same H H' ∧ H' R = some (.lst (kinds8.map V.str))) ?r2 (fun N nN => ?f2)
    case f2 =>
      refine ⟨_, rfl, Nat.zero_le _, fun l hl => ⟨_, _, pdv _ (s3.new hl), ndv _ l upd_same, lay.2, nilD, _, rfl, ?_⟩⟩
      have s4 := s3.new (o := .lst []) hl
      have hR4 := (same_new (o := .lst []) hl) _ _ hR3
      rcases hb with ⟨h1, h2, h3⟩ | ⟨pre, tl', m, h1, h2, h3, h4⟩
      · subst h2 h3
        exact ite_f (by simp [pileD, PyData.eqv, PyData.eqvAll]) (nN _ _ ⟨rfl, s4, hR4⟩)
      · refine ite_t ?_ ?_
        · have : ms ≠ [] := fun z => by rw [z] at h2; simp at h2
          cases hms : ms with
          | nil => exact absurd hms this
          | cons x r => rw [pileD, List.map_cons]; simp [PyData.eqv, PyData.eqvAll]
        · have hk := kinds_at m.1 (wh_k8 h3.ok)
          have hP4 : (upd H3 l (.lst [])) P = some (.lst ((pre ++ [tl']).map V.ref)) := by rw [← h1]; exact s4 _ _ hP
          refine ⟨_, rfl, .inl ⟨rfl, _, SqL.of hR4⟩, _, rfl, _, rfl, P, _, _, _, rfl, rfl, SqL.of hP4, last_ref pre tl', tl', _, _, _, rfl, rfl, SqT.of (s4 _ _ h3.row), row_at0, R, kinds8, nm m.1, m.1, rfl, rfl, SqL.of hR4, hk.1, hk.2, ?_⟩
          rw [← h4]
          exact nN _ _ ⟨rfl, s4, hR4⟩
    case r2 =>
      rintro σ4 H4 ⟨rfl, s4, hR4⟩
      refine seq_cut (fun σ' H' => σ' = [some (.ref P), some (.bl cl), some (.ref R), some (.int (barV cl b)), none, none, none] ∧ H' = H4) ?r3 (fun N nN => ?f3)
      case f3 =>
        refine ⟨_, rfl, _, rfl, ?_⟩
        cases cl with
        | false => exact iteF (nN _ _ ⟨rfl, rfl⟩)
        | true => exact iteT ⟨_, rfl, _, _, rfl, nN _ _ ⟨rfl, rfl⟩⟩
      case r3 =>
        rintro σ5 H5 ⟨rfl, rfl⟩
        have bb1 : -1 ≤ b ∧ b < 8 := by
          rcases hb with ⟨_, _, h3⟩ | ⟨pre, tl', m, _, _, h3, h4⟩
          · omega
          · have := wh_k8 h3.ok
            omega
        have bb2 : -1 ≤ barV cl b ∧ barV cl b < 8 := by
          unfold barV
          split
          · split <;> omega
          · omega
        generalize barV cl b = bb at bb2 q ⊢
        refine ⟨Nat.zero_le _, fun Dd hDd => ?_⟩
        have nDd : H Dd = none := s4.free hDd
        have nRD : R ≠ Dd := ne_of_none hR4 hDd
        obtain ⟨n0, hn0⟩ : ∃ n0 : Nat, bb + 1 = (n0 : Int) := ⟨(bb + 1).toNat, by omega⟩
        refine ⟨_, rfl, _, rfl, _, _, rfl, rfl, _, rfl, R, _, rfl, SqL.of ((upd_ne nRD).trans hR4), fun c hc => ?_⟩
        rw [hn0, cut_from]
        have ecut : (kinds8.map V.str).drop n0 = (kinds8.drop n0).map V.str := by rw [List.map_drop]
        rw [ecut]
        have ncD : Dd ≠ c := ne_of_none upd_same hc
        have n8 : n0 ≤ 8 := by omega
        refine ⟨c, rfl, ⟨_, SqL.of upd_same⟩, ?_⟩
        refine for_list (K := K) (a := c) (xs := (kinds8.drop n0).map V.str) (fun i σ Hi => ∃ v5 v6 : Option V, σ = [some (.ref P), some (.bl cl), some (.ref R), some (.int bb), some (.ref Dd), v5, v6] ∧ Same H Hi ∧ Hi c = some (.lst ((kinds8.drop n0).map V.str)) ∧ Hi Dd = some (.lst ((inUpTo ms bb (n0 + i)).map V.str)))
          ⟨_, _, rfl, (s4.own nDd).new hc, upd_same, ?_⟩ (fun i σ Hi _ ⟨_, _, _, _, h, _⟩ => SqL.of h) ?_ ?_
        · rw [upd_ne ncD, upd_same, Nat.add_zero, inUpTo_none ms bb n0 (by omega)]; rfl
        · rintro i y σ Hi hy ⟨v5, v6, rfl, si, hci, hDi⟩
          obtain ⟨z, hz, rfl⟩ : ∃ z, kinds8[n0 + i]? = some z ∧ V.str z = y := by
            rw [List.getElem?_map] at hy
            cases ht : (kinds8.drop n0)[i]? with
            | none => rw [ht] at hy; cases hy
            | some z => rw [ht] at hy; rw [List.getElem?_drop] at ht; exact ⟨z, ht, Option.some.inj hy⟩
          obtain ⟨k8, rfl⟩ := kinds_get hz
          generalize hk : n0 + i = k at hDi hz k8 ⊢
          have gtb : (k : Int) > bb := by omega
          have ef : inF ms bb k = needs ms k := by unfold inF; rw [decide_eq_true gtb]; rfl
          have step : ∀ (t : Bool), needs ms k = t → inUpTo ms bb (k + 1) = if t = true then inUpTo ms bb k ++ [nm k] else inUpTo ms bb k := fun t ht => by
            rw [inUpTo_succ, ef, ht]
            cases t
            · rw [if_neg Bool.false_ne_true, if_neg Bool.false_ne_true, List.append_nil]
            · rw [if_pos rfl, if_pos rfl]
          have dl := inUpTo_len ms bb k
          have gh := good_has gd
          -- the matter
          refine asg_cut (fun v H' => v = .bl (hasM ms) ∧ Same Hi H') ?r4 (fun N nN => ?f4)
          case f4 =>
            refine ⟨_, rfl, Nat.zero_le _, fun l hl => ⟨_, _, pdv _ (si.new hl), ndv _ l upd_same, lay.2, nilD, _, rfl, ?_⟩⟩
            have sl := same_new (o := .lst []) hl
            cases ts with
            | nil =>
              have h' : ms = [] := hm
              subst h'
              exact ite_f (by simp [pileD, PyData.eqv, PyData.eqvAll]) (nN _ _ ⟨rfl, sl⟩)
            | cons t0 tr =>
              obtain ⟨m0, mr, rfl, h0, _⟩ := id hm
              refine ite_t (by rw [pileD, List.map_cons]; simp [PyData.eqv, PyData.eqvAll]) ?_
              refine ⟨_, rfl, P, _, _, _, rfl, rfl, SqL.of (sl _ _ (si _ _ hP)), atI_nat (j := 0) rfl, t0, _, _, _, rfl, rfl, SqT.of (sl _ _ (si _ _ h0.row)), row_at0, rfl, ?_⟩
              rw [nm_is0 m0.1 (wh_k8 h0.ok)]
              refine nN _ _ ⟨?_, sl⟩
              rw [gh]
          case r4 =>
            rintro v H6 ⟨rfl, s6⟩
            dsimp only [gName]
            have hD6 := s6 _ _ hDi
            have fin : ∀ (t : Bool) (σ' : St) (H7 : Hp), needs ms k = t → Same Hi H7 → ∀ N : St → Hp → Prop, (∀ σ'' H'', (∃ v5 v6 : Option V, σ'' = [some (.ref P), some (.bl cl), some (.ref R), some (.int bb), some (.ref Dd), v5, v6] ∧ Same H H'' ∧ H'' c = some (.lst ((kinds8.drop n0).map V.str)) ∧ H'' Dd = some (.lst ((inUpTo ms bb (k + 1)).map V.str))) → N σ'' H'') → True := fun _ _ _ _ _ _ _ => trivial
            refine ⟨_, rfl, rfl, _, rfl, ?_⟩
            rw [nm_is2 k k8]
            have app : ∀ {H7 : Hp}, Same Hi H7 → needs ms k = true → Same H (upd H7 Dd (.lst ((inUpTo ms bb k).map V.str ++ [V.str (nm k)]))) ∧ (upd H7 Dd (.lst ((inUpTo ms bb k).map V.str ++ [V.str (nm k)]))) c = some (.lst ((kinds8.drop n0).map V.str)) ∧ (upd H7 Dd (.lst ((inUpTo ms bb k).map V.str ++ [V.str (nm k)]))) Dd = some (.lst ((inUpTo ms bb (n0 + (i + 1))).map V.str)) := fun {H7} s7 ht =>
              ⟨(si.trans s7).own nDd, (upd_ne (Ne.symm ncD)).trans (s7 _ _ hci), by rw [upd_same, show n0 + (i + 1) = k + 1 by omega, step true ht, if_pos rfl, List.map_append]; rfl⟩
            have skip : ∀ {H7 : Hp}, Same Hi H7 → needs ms k = false → Same H H7 ∧ H7 c = some (.lst ((kinds8.drop n0).map V.str)) ∧ H7 Dd = some (.lst ((inUpTo ms bb (n0 + (i + 1))).map V.str)) := fun {H7} s7 ht =>
              ⟨si.trans s7, s7 _ _ hci, by rw [s7 _ _ hDi, show n0 + (i + 1) = k + 1 by omega, step false ht, if_neg Bool.false_ne_true]⟩
            by_cases h2 : k = 2
            · refine ite_t (decide_eq_true h2) ⟨_, rfl, _, rfl, ?_⟩
              have nd2 : needs ms k = mendOk ms := by unfold needs; rw [if_pos h2]
              cases hM : hasM ms with
              | false =>
                have : needs ms k = false := by
                  rw [nd2]
                  cases hh : mendOk ms with
                  | false => rfl
                  | true => exact absurd (hM.symm.trans (good_mend gd hh)) (by decide)
                exact iteF (iteF ⟨_, _, rfl, skip s6 this⟩)
              | true =>
                rcases hb with ⟨h1, h2', h3⟩ | ⟨pre, tl', m, h1, h2', h3, h4⟩
                · rw [h2'] at hM; cases hM
                · have gl : ms.getLast? = some m := by
                    rw [List.getLast?_eq_getElem?, ← hm.len, h1, List.length_append]
                    simpa using h2'
                  obtain ⟨km, whm⟩ := m
                  have mk : mendOk ms = (decide (km = 1) && notCut whm) := by unfold mendOk; rw [gl]
                  rw [mk] at nd2
                  have hP6 : H6 P = some (.lst ((pre ++ [tl']).map V.ref)) := by rw [← h1]; exact s6 _ _ (si _ _ hP)
                  have row6 := s6 _ _ (si _ _ h3.row)
                  have km8 : km < 8 := wh_k8 h3.ok
                  refine iteT ⟨_, rfl, _, rfl, P, _, _, _, rfl, rfl, SqL.of hP6, last_ref pre tl', tl', _, _, _, rfl, rfl, SqT.of row6, row_at0, rfl, _, rfl, ?_⟩
                  rw [nm_is1 km km8]
                  by_cases hk1 : km = 1
                  · subst hk1
                    have okm := h3.ok
                    have wam := h3.wh
                    cases whm with
                    | ed e fl =>
                      obtain ⟨_, s0, r, rfl⟩ := okm
                      refine ite_t (decide_eq_true rfl) ⟨_, rfl, _, rfl, P, _, _, _, rfl, rfl, SqL.of hP6, last_ref pre tl', tl', _, _, _, rfl, rfl, SqT.of row6, rfl, e, _, _, _, rfl, rfl, SqT.of (s6 _ _ (si _ _ wam)), atI_nat (j := 0) rfl, rfl, _, rfl, ?_⟩
                      have nd3 : needs ms k = !decide (V.str s0 = V.str (Str.ofString "cut")) := nd2
                      refine ite2 (fun e' => ?_) (fun e' => ?_)
                      · exact ⟨_, rfl, .inl ⟨rfl, _, SqL.of hD6⟩, _, rfl, Dd, _, _, rfl, rfl, hD6, (by rw [List.length_map]; omega), _, _, rfl, app s6 (nd3.trans e')⟩
                      · exact ⟨_, _, rfl, skip s6 (by rw [nd3]; exact Bool.eq_false_iff.mpr e')⟩
                    | _ => exact False.elim okm
                  · rw [decide_eq_false hk1] at nd2 ⊢
                    exact iteF (iteF ⟨_, _, rfl, skip s6 nd2⟩)
            · refine ite_f (decide_eq_false h2) ⟨_, rfl, _, rfl, ?_⟩
              cases hM : hasM ms with
              | true =>
                have nd2 : needs ms k = true := by
                  unfold needs
                  rw [if_neg h2]
                  split
                  · exact hM
                  · rfl
                exact iteT (iteT ⟨_, rfl, .inl ⟨rfl, _, SqL.of hD6⟩, _, rfl, Dd, _, _, rfl, rfl, hD6, (by rw [List.length_map]; omega), _, _, rfl, app s6 nd2⟩)
              | false =>
                refine iteF ⟨_, rfl, (by show 3 ≤ sizeLine; decide), fun t ht => ?_⟩
                have s7 := s6.new (o := .tup [V.str (Str.ofString "matter"), V.str (Str.ofString "rest"), V.str (Str.ofString "point")]) ht
                have hD7 := (same_new (o := .tup [V.str (Str.ofString "matter"), V.str (Str.ofString "rest"), V.str (Str.ofString "point")]) ht) _ _ hD6
                refine ⟨t, _, rfl, .inr (SqT.of upd_same), rfl, rfl, _, rfl, ?_⟩
                have ein : inV (V.str (nm k)) [V.str (Str.ofString "matter"), V.str (Str.ofString "rest"), V.str (Str.ofString "point")] = decide (k = 0 ∨ k = 6 ∨ k = 7) := by
                  have : ∀ k, k < 8 → inV (V.str (nm k)) [V.str (Str.ofString "matter"), V.str (Str.ofString "rest"), V.str (Str.ofString "point")] = decide (k = 0 ∨ k = 6 ∨ k = 7) := by decide +kernel
                  exact this k k8
                simp only [Bool.false_eq_true, if_false]
                rw [ein]
                by_cases h3 : k = 0 ∨ k = 6 ∨ k = 7
                · have nd2 : needs ms k = true := by
                    unfold needs
                    rw [if_neg h2, if_neg (by omega)]
                  exact ite_t (decide_eq_true h3) ⟨_, rfl, .inl ⟨rfl, _, SqL.of hD7⟩, _, rfl, Dd, _, _, rfl, rfl, hD7, (by rw [List.length_map]; omega), _, _, rfl, app s7 nd2⟩
                · have nd2 : needs ms k = false := by
                    unfold needs
                    rw [if_neg h2, if_pos (by omega), hM]
                  exact ite_f (decide_eq_false h3) ⟨_, _, rfl, skip s7 nd2⟩
        · rintro σ Hi ⟨v5, v6, rfl, si, hci, hDi⟩
          rw [List.length_map, List.length_drop, show n0 + (kinds8.length - n0) = 8 by show n0 + (8 - n0) = 8; omega] at hDi
          exact ⟨_, rfl, q Dd Hi si nDd hDi⟩
set_option maxHeartbeats 20000000 in
theorem ok_law {f : Addr} {fd : FuncData} (F : Fun K "law" "law" s_law f fd) (T : Txt w.params K mg A) : FnOk P w K mg base CX0 6 f fd ["_law_script"] (spLaw K) := by
  have G_l_pile : FnOk P w K mg base CX0 3 A.l_pile A.fd_l_pile ["_law_script"] (spPile K) := ok_l_pile T
  have G_l_cell_at : FnOk P w K mg base CX0 1 A.l_cell_at A.fd_l_cell_at ["_law_script", "_law_k"] (spCell K) := ok_l_cell_at T
  have G_motion_of : FnOk P w K mg base CX0 3 A.motion_of A.fd_motion_of ["told"] (spMotA A K) := ok_motA T
  have G_l_due : FnOk P w K mg base CX0 1 A.l_due A.fd_l_due ["_law_told", "_law_closed"] (spDue K) := ok_l_due T
  have G_kinds_in_order : FnOk P w K mg base CX0 5 A.kinds_in_order A.fd_kinds_in_order ["pile", "closed"] (spKinds A K) := ok_kinds_in_order T
  have G_told : ∀ k, k < 8 → FnOk P w K mg base CX0 2 (A.ft k) (A.ftd k) ["self"] (spToldA A K k) := ok_toldA T
  refine F.ok sc_law (fun vs H Q E h => ?_) (fun cdv A' outer s H vs Q E hr h => ?_)
  · obtain ⟨a, ns, rfl, _⟩ := h
    rfl
  · obtain ⟨a, ns, rfl, hS, hlen, q⟩ := h
    have hr_l_pile : Room 3 _ := hr.mono (by decide)
    have hr_l_cell_at : Room 1 _ := hr.mono (by decide)
    have hr_motion_of : Room 3 _ := hr.mono (by decide)
    have hr_l_due : Room 1 _ := hr.mono (by decide)
    have hr_kinds_in_order := hr
    have hr_told : Room 2 _ := hr.mono (by decide)
    have hu64 := hr.units
    have hu200 : (A'.deeper (PyProof.Rows.envOfC (Str.ofString "law") (defScope s_law) s.heap.objs.size f cdv)).units + 200 < cLine := by have := hr.un; omega
    refine ⟨_, (pss_cons (ps_set (i := 1) sc_law.nd rfl (Or.inl rfl) (pe_call G_l_pile hr_l_pile rfl T.g_l_pile T.F_l_pile.kp T.b_l_pile .nil pass0 (pa_cons (pv 0) pa_nil)))
  (pss_cons (ps_set (i := 2) sc_law.nd rfl (Or.inl rfl) (pe_and (pe_cmpR op_eq (pe_op op_mod (pe_call G_l_cell_at hr_l_cell_at rfl T.g_l_cell_at T.F_l_cell_at.kp T.b_l_cell_at .nil pass0 (pa_cons (pv 0) (pa_cons pe_int pa_nil))) pe_int) pe_int (nomark _)) (pe_and (pe_cmpR (op_neD hu64) (pv 1) (pe_lst pa_nil) (nomark _)) (pe_and (pe_cmpR op_eq (pe_ix ix_tup (pe_ix ix_list (pv 1) pe_int (fun _ _ => rfl)) pe_int (fun _ _ => rfl)) pe_str (nomark _)) (pe_one (pe_cmpR (op_notInD hu200) (pe_tup (pa_cons pe_str pa_nil)) (pv 1) rfl))))))
  (pss_cons (ps_setComp (i := 3) (scope := kcs_law_0) cs_law_0 rfl rfl (Or.inl rfl) (pi_list (pv 1)) (fun _ _ _ _ _ => (pe_call G_motion_of hr_motion_of rfl T.g_motion_of T.F_motion_of.kp T.b_motion_of .nil pass0 (pa_cons (pv 0) pa_nil))))
  (pss_cons (ps_set (i := 4) sc_law.nd rfl (Or.inl rfl) (pe_call G_l_due hr_l_due rfl T.g_l_due T.F_l_due.kp T.b_l_due .nil pass0 (pa_cons (pv 1) (pa_cons (pv 2) pa_nil))))
  (pss_cons (ps_set (i := 5) sc_law.nd rfl (Or.inl rfl) (pe_call G_kinds_in_order hr_kinds_in_order rfl T.g_kinds_in_order T.F_kinds_in_order.kp T.b_kinds_in_order .nil pass0 (pa_cons (pv 3) (pa_cons (pv 2) pa_nil))))
  (pss_cons (ps_if (PW.pt (pw_or (pt_not (pt_val (pe_callB call_isi (by rfl) T.n_isinstance bt_isinstance (pa_cons (pv 5) (pa_cons (pe_bltn (v := V.ty "list") rfl T.n_list bt_list rfl) pa_nil))))) (pw_or1 (pt_cmpR (op_neD hu64) (pv 5) (pv 4) (nomark _)))))
  (pss_one (ps_ret pe_bl))
  pss_nil)
  (pss_cons (ps_expr (pe_bm PySem.F.plainAttrs_list PySem.F.slot_list_append PySem.F.type_list_append mt_append (pv 5) (pa_cons pe_str pa_nil)))
  (pss_one (ps_ret (pe_and (pe_cmpR (op_eqD hu64) (pe_call G_kinds_in_order hr_kinds_in_order rfl T.g_kinds_in_order T.F_kinds_in_order.kp T.b_kinds_in_order .nil pass0 (pa_cons (pv 3) (pa_cons (pv 2) pa_nil))) (pv 4) (nomark _)) (pe_one (pe_cmpR (op_eqD hu64) (pe_comp (scope := kcs_law_1) cs_law_1 rfl (pi_list (pv 3)) (fun _ _ _ _ _ => (pe_meth0F (n := 8) (Cf := A.C) (pv 0) T.cl T.m_told G_told hr_told T.b_told pass0))) (pv 1) (nomark _))))))))))))), ?_⟩
    have lim : sizeLine = 16777216 := by decide
    refine ⟨_, rfl, a, ns, rfl, hS, fun P L ws ts ms H1 s1 hP hL hw hm tl gd => ?_⟩
    have hS1 := s1.seq hS
    have ml := hm.len
    have oks := hm.oks
    have lay := pile_lay hw oks
    have nilD : SeqAt.shaped (.list []) = true := by decide +kernel
    have pdv : ∀ H', Same H1 H' → DV K H' (pileD ws ms) (.ref P) := fun H' s' => by
      unfold pileD DV
      exact ⟨P, _, rfl, SqL.of (s' _ _ hP), mos_dvs (SqL.of (s' _ _ hL)) (hm.keep fun t xs e => s' _ _ e)⟩
    have ndv : ∀ (H' : Hp) (l : Addr), H' l = some (.lst []) → DV K H' (.list []) (.ref l) := fun H' l e => by
      unfold DV
      exact ⟨l, [], rfl, SqL.of e, by unfold DVs; rfl⟩
    dsimp only [gName]
    -- closed
    refine asg_cut (fun v H' => ∃ b : Bool, v = .bl b ∧ Same H1 H') ?r1 (fun N nN => ?f1)
    case f1 =>
      refine ⟨_, rfl, a, ns, _, rfl, hS1, by decide, fun z => ⟨_, _, rfl, rfl, (by show (0 : Int) < 2; decide), rfl, _, rfl, ite2 (fun _ => ?_) (fun _ => nN _ _ ⟨false, rfl, Same.refl _⟩)⟩⟩
      refine ⟨_, rfl, Nat.zero_le _, fun l hl => ⟨_, _, pdv _ (same_new hl), ndv _ l upd_same, lay.2, nilD, _, rfl, ite2 (fun e => ?_) (fun _ => nN _ _ ⟨false, rfl, same_new hl⟩)⟩⟩
      cases ts with
      | nil =>
        have h' : ms = [] := hm
        subst h'
        exact absurd e (by simp [pileD, PyData.eqv, PyData.eqvAll])
      | cons t0 tr =>
        obtain ⟨m0, mr, rfl, h0, _⟩ := id hm
        have sl := same_new (o := .lst []) hl
        refine ⟨_, rfl, P, _, _, _, rfl, rfl, SqL.of (sl _ _ hP), atI_nat (j := 0) rfl, t0, _, _, _, rfl, rfl, SqT.of (sl _ _ h0.row), row_at0, rfl, _, rfl, ite2 (fun _ => ?_) (fun _ => nN _ _ ⟨false, rfl, sl⟩)⟩
        refine ⟨(by show 1 ≤ sizeLine; decide), fun t ht => ?_⟩
        have st := sl.new (o := .tup [V.str (Str.ofString "close")]) ht
        refine ⟨_, rfl, P, _, _, .tuple [.str (Str.ofString "close")], rfl, SqL.of (st _ _ hP), mos_dvs (SqL.of (st _ _ hL)) (hm.keep fun t xs e => st _ _ e), ?_, by decide +kernel, fun e he => ?_, fun b => nN _ _ ⟨b, rfl, st⟩⟩
        · unfold DV
          exact ⟨t, _, rfl, SqT.of upd_same, by unfold DVs; exact ⟨_, _, rfl, by unfold DV; rfl, by unfold DVs; rfl⟩⟩
        · obtain ⟨mm, hmm, rfl⟩ := List.mem_map.mp he
          exact mo_shaped hw (oks mm hmm)
    case r1 =>
      rintro v H2 ⟨cl, rfl, s2⟩
      dsimp only [gName]
      generalize H2 = H5 at s2 ⊢
      have hP5 := s2 _ _ hP
      refine ⟨_, rfl, P, rfl, ⟨_, SqL.of hP5⟩, fun D hD => ?_⟩
      have mk5 := hm.keep (H' := H5) fun t xs e => s2 _ _ e
      have nPD : P ≠ D := ne_of_none hP5 hD
      refine comp_list (K := K) (a := P) (xs := ts.map V.ref) (fun i ys H6 => ∃ os : List Addr, ys = os.map V.ref ∧ os.length = i ∧ AllAt (ObAt A H6 L D ws) os (ms.take i) ∧ Same H5 H6 ∧ H6 D = some (.lst ys)) ⟨[], rfl, rfl, rfl, same_new hD, upd_same⟩ (by rw [List.length_map]; omega) ?_ ?_ ?_
      · rintro i ys H6 hi ⟨os, rfl, hl, ho, s6, h6⟩
        exact ⟨SqL.of (s6 _ _ hP5), h6, by rw [List.length_map]; exact hl⟩
      · rintro i y ys H6 hy ⟨os, rfl, hl, ho, s6, h6⟩
        obtain ⟨t, ht1, rfl⟩ : ∃ t, ts[i]? = some t ∧ V.ref t = y := by
          rw [List.getElem?_map] at hy
          cases ht : ts[i]? with
          | none => rw [ht] at hy; cases hy
          | some t => rw [ht] at hy; exact ⟨t, rfl, Option.some.inj hy⟩
        obtain ⟨m, hm1, hm2⟩ := mk5.get ht1
        have k8 := wh_k8 hm2.ok
        have row6 := s6 _ _ hm2.row
        have tk : ms.take (i + 1) = ms.take i ++ [m] := by rw [List.take_succ, hm1]; rfl
        have done : ∀ (o : Addr) (H7 : Hp), Same H6 H7 → H6 o = none → ObAt A H7 L D ws m o → CompNext D (ts.map V.ref).length (fun i ys H6 => ∃ os : List Addr, ys = os.map V.ref ∧ os.length = i ∧ AllAt (ObAt A H6 L D ws) os (ms.take i) ∧ Same H5 H6 ∧ H6 D = some (.lst ys)) i (os.map V.ref) (.ref o) H7 := fun o H7 s7 no ho7 => by
          refine CompNext.mk (List.getElem?_eq_some_iff.mp hy).1 (s7 _ _ h6) ⟨os ++ [o], by rw [List.map_append]; rfl, by rw [List.length_append, hl]; rfl, ?_, (s6.trans s7).own hD, upd_same⟩
          rw [tk]
          exact ((ho.imp fun m' o' h' => (h'.same s7).upd (s7 _ _ h6)).snoc (ho7.upd (s7 _ _ h6)))
        by_cases hk0 : m.1 = 0
        · have wm : m.2 = .mat := by
            have o := hm2.ok
            rw [hk0] at o
            cases hmm : m.2 with
            | mat => rfl
            | _ => rw [hmm] at o; exact False.elim o
          have row0 : H6 t = some (.tup [.str (nm 0), .ref L]) := by rw [row6, hk0, wm]; rfl
          refine ⟨_, rfl, .inr ⟨t, L, ws.map V.str, rfl, row0, SqL.of (s6 _ _ (s2 _ _ hL)), fun o p H7 s7 no np hp ⟨dx, ho7⟩ => done o H7 s7 no ⟨k8, dx, .ref p, by rw [hk0]; exact ho7, .inr ⟨hk0, p, rfl, fun z => ?_, hp⟩⟩⟩⟩
          rw [z, h6] at np; cases np
        · exact ⟨_, rfl, .inl ⟨t, m.1, m.2.v L, by omega, k8, rfl, row6, fun o H7 s7 no ⟨dx, ho7⟩ => done o H7 s7 no ⟨k8, dx, _, ho7, .inl ⟨hk0, rfl⟩⟩⟩⟩
      rintro ys H6 ⟨os, rfl, hl, ho, s6, h6⟩
      rw [List.length_map] at hl
      rw [List.length_map, ml, List.take_length] at ho
      have ol := ho.len
      have s46 := s2.trans s6
      dsimp only [gName]
      -- due
      obtain ⟨b0, hb0⟩ : ∃ b0 : Int, (ts = [] ∧ ms = [] ∧ b0 = -1) ∨ ∃ (pre : List Addr) (tl : Addr) (m : Mo), ts = pre ++ [tl] ∧ ms[pre.length]? = some m ∧ MoAt H1 L m tl ∧ b0 = (m.1 : Int) := by
        rcases List.eq_nil_or_concat ts with h | ⟨pre, tl, h⟩
        · subst h
          have h' : ms = [] := hm
          exact ⟨-1, .inl ⟨rfl, h', rfl⟩⟩
        · rw [List.concat_eq_append] at h
          obtain ⟨m, h1, h2⟩ := hm.get (i := pre.length) (t := tl) (by rw [h]; simp)
          exact ⟨m.1, .inr ⟨pre, tl, m, h, h1, h2, rfl⟩⟩
      have topb : TopB A H6 os b0 := by
        rcases hb0 with ⟨h1, h2, h3⟩ | ⟨pre, tl', m, h1, h2, h3, h4⟩
        · refine .inl ⟨?_, h3⟩
          rw [h1] at hl
          exact List.length_eq_zero_iff.mp hl
        · rcases List.eq_nil_or_concat os with h | ⟨pre', o, h⟩
          · rw [h, h1, List.length_append] at hl
            simp at hl
          · rw [List.concat_eq_append] at h
            have lp : pre'.length = pre.length := by
              rw [h, h1, List.length_append, List.length_append] at hl
              simpa using hl
            obtain ⟨m', g1, g2⟩ := ho.get (i := pre'.length) (t := o) (by rw [h]; simp)
            rw [lp, h2] at g1
            obtain rfl := Option.some.inj g1
            obtain ⟨k8, dx, v, g3, _⟩ := g2
            exact .inr ⟨pre', o, m.1, dx, v, h, k8, g3, h4⟩
      have mk6 : MosAt H6 L ts ms := hm.keep fun t xs e => s46 _ _ e
      have whs : ∀ m ∈ ms, WhOk m.1 m.2 ∧ WhAt H6 m.2 := by
        have go : ∀ (ts : List Addr) (ms : List Mo), MosAt H6 L ts ms → ∀ m ∈ ms, WhOk m.1 m.2 ∧ WhAt H6 m.2 := by
          intro ts
          induction ts with
          | nil => intro ms h m hm'; have h' : ms = [] := h; rw [h'] at hm'; cases hm'
          | cons t ts ih =>
            rintro ms ⟨m', r, rfl, h, tl''⟩ m hm'
            rcases List.mem_cons.mp hm' with rfl | hm'
            · exact ⟨h.ok, h.wh⟩
            · exact ih r tl'' m hm'
        exact go ts ms mk6
      have hb6 : (ts = [] ∧ ms = [] ∧ b0 = -1) ∨ ∃ (pre : List Addr) (tl : Addr) (m : Mo), ts = pre ++ [tl] ∧ ms[pre.length]? = some m ∧ MoAt H6 L m tl ∧ b0 = (m.1 : Int) := by
        rcases hb0 with h | ⟨pre, tl', m, h1, h2, h3, h4⟩
        · exact .inl h
        · exact .inr ⟨pre, tl', m, h1, h2, h3.keep fun t xs e => s46 _ _ e, h4⟩
      generalize hX : inUpTo ms (barV cl b0) 8 = due
      have dok : ∀ x ∈ due, PyData.strOk x = true := fun x hx => by
        rw [← hX] at hx
        obtain ⟨k, hk, rfl⟩ := List.mem_map.mp hx
        exact nm_ok k (by have := List.mem_range.mp (List.mem_filter.mp hk).1; omega)
      refine ⟨_, rfl, _, rfl, P, L, cl, ws, ts, ms, b0, rfl, s46 _ _ hP, s46 _ _ hL, hw, mk6, tl, gd, hb6, fun Du H8 s8 nDu hDu => ?_⟩
      rw [hX] at hDu
      dsimp only [gName]
      refine ⟨_, rfl, _, rfl, D, L, D, cl, ws, os, ms, b0, rfl, SqL.of (s8 _ _ h6), ho.imp (fun m o h => h.same s8), by omega, wh_same s8 whs, topb.same s8, fun Fo H9 s9 nFo hFo => ?_⟩
      rw [hX] at hFo
      dsimp only [gName]
      refine ⟨_, rfl, _, _, _, true, rfl, rfl, .lst hFo, rfl, _, rfl, iteF ?_⟩
      refine ⟨_, rfl, _, rfl, _, _, dv_strs (SqL.of hFo), dv_strs (SqL.of (s9 _ _ hDu)), shaped_strs dok, shaped_strs dok, _, rfl, ite_ne (eqv_strs _) ?_⟩
      have dl : due.length ≤ 8 := by rw [← hX]; exact inUpTo_len _ _ _
      refine ⟨_, rfl, .inl ⟨rfl, _, SqL.of hFo⟩, Fo, _, _, rfl, rfl, hFo, (by rw [List.length_map]; omega), ?_⟩
      have sA : Same H8 (upd H9 Fo (.lst (due.map V.str ++ [V.str (Str.ofString "x")]))) := s9.own nFo
      generalize upd H9 Fo (.lst (due.map V.str ++ [V.str (Str.ofString "x")])) = HA at sA ⊢
      have s8A := s8.trans sA
      refine ⟨_, rfl, _, rfl, D, L, D, cl, ws, os, ms, b0, rfl, SqL.of (s8A _ _ h6), ho.imp (fun m o h => h.same s8A), by omega, wh_same s8A whs, topb.same s8A, fun Fp HB sB nFp hFp => ?_⟩
      rw [hX] at hFp
      refine ⟨_, rfl, _, _, dv_strs (SqL.of hFp), dv_strs (SqL.of (sB _ _ (sA _ _ hDu))), shaped_strs dok, shaped_strs dok, _, rfl, ite_t (eqv_strs _) ?_⟩
      have s6B := s8A.trans sB
      replace h6 := s6B _ _ h6
      replace ho := ho.imp (fun m o h => h.same s6B)
      replace s6 := s6.trans s6B
      clear s46 topb mk6 whs hb6 sA s8A sB s6B s8 s9 hDu hFo hFp nDu nFo nFp
      generalize HB = H6 at h6 ho s6 ⊢
      -- told again
      refine ⟨_, rfl, D, rfl, ⟨_, SqL.of h6⟩, fun D2 hD2 => ?_⟩
      refine comp_list (K := K) (a := D) (xs := os.map V.ref) (fun i ys H7 => ∃ us : List Addr, ys = us.map V.ref ∧ us.length = i ∧ AllAt (ToAt H7 L D2 ws) us (ms.take i) ∧ Same H6 H7 ∧ H7 D2 = some (.lst ys)) ⟨[], rfl, rfl, rfl, same_new hD2, upd_same⟩ (by rw [List.length_map]; omega) ?_ ?_ ?_
      · rintro i ys H7 hi ⟨us, rfl, hl7, ho7, s7, h7⟩
        exact ⟨SqL.of (s7 _ _ h6), h7, by rw [List.length_map]; exact hl7⟩
      · rintro i y ys H7 hy ⟨us, rfl, hl7, hu7, s7, h7⟩
        obtain ⟨o, ho1, rfl⟩ : ∃ o, os[i]? = some o ∧ V.ref o = y := by
          rw [List.getElem?_map] at hy
          cases ht : os[i]? with
          | none => rw [ht] at hy; cases hy
          | some t => rw [ht] at hy; exact ⟨t, rfl, Option.some.inj hy⟩
        obtain ⟨m, hm1, hm2⟩ := ho.get ho1
        obtain ⟨k8, dx, v, ho2, hv⟩ := hm2
        have ho8 := s7 _ _ ho2
        have tk : ms.take (i + 1) = ms.take i ++ [m] := by rw [List.take_succ, hm1]; rfl
        have done : ∀ (u : Addr) (H8 : Hp), Same H7 H8 → ToAt H8 L D2 ws m u → CompNext D2 (os.map V.ref).length (fun i ys H7 => ∃ us : List Addr, ys = us.map V.ref ∧ us.length = i ∧ AllAt (ToAt H7 L D2 ws) us (ms.take i) ∧ Same H6 H7 ∧ H7 D2 = some (.lst ys)) i (us.map V.ref) (.ref u) H8 := fun u H8 s8 hu8 => by
          refine CompNext.mk (List.getElem?_eq_some_iff.mp hy).1 (s8 _ _ h7) ⟨us ++ [u], by rw [List.map_append]; rfl, by rw [List.length_append, hl7]; rfl, ?_, (s7.trans s8).own hD2, upd_same⟩
          rw [tk]
          exact ((hu7.imp fun m' o' h' => (h'.same s8).upd (s8 _ _ h7)).snoc (hu8.upd (s8 _ _ h7)))
        refine ⟨_, rfl, m.1, k8, o, dx, _, rfl, ho8, no_told m.1 v, ?_⟩
        rcases hv with ⟨hk0, hv⟩ | ⟨hk0, p, hv, npD, hp⟩
        · refine .inr ⟨by omega, o, dx, v, rfl, ho8, fun u hu => done u _ (same_new hu) ⟨v, upd_same, .inl ⟨hk0, hv⟩⟩⟩
        · refine .inl ⟨hk0, o, dx, p, ws.map V.str, rfl, by rw [← hv, ← hk0]; exact ho8, SqL.of (s7 _ _ hp), fun p2 u hp2 hu npu => ?_⟩
          have nu : (upd H7 p2 (.lst (ws.map V.str))) u = none := (upd_ne (Ne.symm npu)).trans hu
          refine done u _ ((same_new hp2).new nu) ⟨.ref p2, by rw [upd_same, hk0]; rfl, .inr ⟨hk0, p2, rfl, fun z => ?_, (upd_ne npu).trans upd_same⟩⟩
          rw [z, h7] at hp2; cases hp2
      rintro ys H7 ⟨us, rfl, hl7, hu7, s7, h7⟩
      rw [List.length_map, ol, List.take_length] at hu7
      have s17 := (s2.trans s6).trans s7
      have d1 : DV K H7 (pileD ws ms) (.ref D2) := by
        unfold pileD DV
        refine ⟨D2, _, rfl, SqL.of h7, ?_⟩
        have both : AllAt (fun m t => ToAt H7 L D2 ws m t ∧ WhOk m.1 m.2 ∧ WhAt H7 m.2) us ms := by
          have go : ∀ (us ts : List Addr) (ms : List Mo), AllAt (ToAt H7 L D2 ws) us ms → MosAt H1 L ts ms → AllAt (fun m t => ToAt H7 L D2 ws m t ∧ WhOk m.1 m.2 ∧ WhAt H7 m.2) us ms := by
            intro us
            induction us with
            | nil => intro ts ms h _; exact h
            | cons u us ih =>
              rintro ts ms ⟨m, r, rfl, hu, hr'⟩ hts
              cases ts with
              | nil => exact absurd (show m :: r = [] from hts) (List.cons_ne_nil _ _)
              | cons t ts =>
                obtain ⟨m', r', e, h, tl⟩ := hts
                injection e with e1 e2
                subst e1 e2
                exact ⟨m, r, rfl, ⟨hu, h.ok, (h.keep (H' := H7) fun t xs e => s17 _ _ e).wh⟩, ih ts r hr' tl⟩
          exact go us ts ms hu7 hm
        exact both.dvs fun m t h => to_dv h.2.1 h.2.2 (SqL.of (s17 _ _ hL)) h.1
      refine ⟨_, rfl, _, _, d1, pdv _ s17, lay.2, lay.2, ?_⟩
      rw [eqv_self _ lay.1]
      exact q _
end


set_option maxHeartbeats 0 in
theorem all_mk {l : PySem.W.OpenLaw} {w : World} {K : PySem.W.Frag} {h : Heap} {mg : Str → Option Value} {P : Params} {fa f_1 f_2 f_3 f_4 f_5 f_6 f_7 f_8 f_9 f_10 f_11 f_12 c0 c1 c2 c3 c4 c5 c6 c7 cm tb f_k0 f_k1 f_k2 f_k3 f_k4 f_k5 f_k6 f_k7 f_r f_n f_n4 f_t f_t0 f_t1 f_t2 f_t3 f_t7 f_i0 f_i1 f_i2 f_i3 f_i7 : Addr} (X : K.In h) (G : h.Ns mainGlobals mg) (hfa : mg "law" = some (.ref fa)) (hP : w.params = P)
    {od_1 an_1 od_2 an_2 od_3 an_3 od_4 an_4 od_5 an_5 od_6 an_6 od_7 an_7 od_8 an_8 od_9 an_9 od_10 an_10 od_11 an_11 od_12 an_12 od_k0 an_k0 od_k1 an_k1 od_k2 an_k2 od_k3 an_k3 od_k4 an_k4 od_k5 an_k5 od_k6 an_k6 od_k7 an_k7 od_r an_r od_n an_n od_n4 an_n4 od_t an_t od_t0 an_t0 od_t1 an_t1 od_t2 an_t2 od_t3 an_t3 od_t7 an_t7 od_i0 an_i0 od_i1 an_i1 od_i2 an_i2 od_i3 an_i3 od_i7 an_i7 : Option Addr} {sl_1 sl_2 sl_3 sl_4 sl_5 sl_6 sl_7 sl_8 sl_9 sl_10 sl_11 sl_12 sl_k0 sl_k1 sl_k2 sl_k3 sl_k4 sl_k5 sl_k6 sl_k7 sl_r sl_n sl_n4 sl_t sl_t0 sl_t1 sl_t2 sl_t3 sl_t7 sl_i0 sl_i1 sl_i2 sl_i3 sl_i7 : Array (Option Value)} {oc_1 kV_1 dc_1 pm_1 cd_1 ct_1 oc_2 kV_2 dc_2 pm_2 cd_2 ct_2 oc_3 kV_3 dc_3 pm_3 cd_3 ct_3 oc_4 kV_4 dc_4 pm_4 cd_4 ct_4 oc_5 kV_5 dc_5 pm_5 cd_5 ct_5 oc_6 kV_6 dc_6 pm_6 cd_6 ct_6 oc_7 kV_7 dc_7 pm_7 cd_7 ct_7 oc_8 kV_8 dc_8 pm_8 cd_8 ct_8 oc_9 kV_9 dc_9 pm_9 cd_9 ct_9 oc_10 kV_10 dc_10 pm_10 cd_10 ct_10 oc_11 kV_11 dc_11 pm_11 cd_11 ct_11 oc_12 kV_12 dc_12 pm_12 cd_12 ct_12 oc_k0 kV_k0 dc_k0 pm_k0 cd_k0 ct_k0 oc_k1 kV_k1 dc_k1 pm_k1 cd_k1 ct_k1 oc_k2 kV_k2 dc_k2 pm_k2 cd_k2 ct_k2 oc_k3 kV_k3 dc_k3 pm_k3 cd_k3 ct_k3 oc_k4 kV_k4 dc_k4 pm_k4 cd_k4 ct_k4 oc_k5 kV_k5 dc_k5 pm_k5 cd_k5 ct_k5 oc_k6 kV_k6 dc_k6 pm_k6 cd_k6 ct_k6 oc_k7 kV_k7 dc_k7 pm_k7 cd_k7 ct_k7 oc_r kV_r dc_r pm_r cd_r ct_r oc_n kV_n dc_n pm_n cd_n ct_n oc_n4 kV_n4 dc_n4 pm_n4 cd_n4 ct_n4 oc_t kV_t dc_t pm_t cd_t ct_t oc_t0 kV_t0 dc_t0 pm_t0 cd_t0 ct_t0 oc_t1 kV_t1 dc_t1 pm_t1 cd_t1 ct_t1 oc_t2 kV_t2 dc_t2 pm_t2 cd_t2 ct_t2 oc_t3 kV_t3 dc_t3 pm_t3 cd_t3 ct_t3 oc_t7 kV_t7 dc_t7 pm_t7 cd_t7 ct_t7 oc_i0 kV_i0 dc_i0 pm_i0 cd_i0 ct_i0 oc_i1 kV_i1 dc_i1 pm_i1 cd_i1 ct_i1 oc_i2 kV_i2 dc_i2 pm_i2 cd_i2 ct_i2 oc_i3 kV_i3 dc_i3 pm_i3 cd_i3 ct_i3 oc_i7 kV_i7 dc_i7 pm_i7 cd_i7 ct_i7 : Value} {est : Array DictEntry} {nt : Nat} {tk_CLOSED_BAR tq0 tq1 tq2 tq3 tq4 tq5 tq6 tq7 tr0 tr1 tr2 tr3 tr4 tr5 tr6 tr7 : Tok}
    (a_1 : PySem.W.nsIn K mainGlobals "motion_of" = some (some (.ref f_1)))
    (l_1 : K.lookup f_1 = some ⟨oc_1, od_1, .func (PySem.W.fnOf "motion_of" "motion_of" (defArgs s_motion_of) (defBody s_motion_of) (defScope s_motion_of) .none kV_1 dc_1 pm_1 an_1 cd_1 ct_1), sl_1⟩)
    (cc_1 : PySem.W.codeIn K cd_1 "motion_of" = true)
    (kp_1 : PySem.W.keepIn K (.ref f_1) = true)
    (a_2 : PySem.W.nsIn K mainGlobals "bar_of" = some (some (.ref f_2)))
    (l_2 : K.lookup f_2 = some ⟨oc_2, od_2, .func (PySem.W.fnOf "bar_of" "bar_of" (defArgs s_bar_of) (defBody s_bar_of) (defScope s_bar_of) .none kV_2 dc_2 pm_2 an_2 cd_2 ct_2), sl_2⟩)
    (cc_2 : PySem.W.codeIn K cd_2 "bar_of" = true)
    (kp_2 : PySem.W.keepIn K (.ref f_2) = true)
    (a_3 : PySem.W.nsIn K mainGlobals "has_matter" = some (some (.ref f_3)))
    (l_3 : K.lookup f_3 = some ⟨oc_3, od_3, .func (PySem.W.fnOf "has_matter" "has_matter" (defArgs s_has_matter) (defBody s_has_matter) (defScope s_has_matter) .none kV_3 dc_3 pm_3 an_3 cd_3 ct_3), sl_3⟩)
    (cc_3 : PySem.W.codeIn K cd_3 "has_matter" = true)
    (kp_3 : PySem.W.keepIn K (.ref f_3) = true)
    (a_4 : PySem.W.nsIn K mainGlobals "can_be_mended" = some (some (.ref f_4)))
    (l_4 : K.lookup f_4 = some ⟨oc_4, od_4, .func (PySem.W.fnOf "can_be_mended" "can_be_mended" (defArgs s_can_be_mended) (defBody s_can_be_mended) (defScope s_can_be_mended) .none kV_4 dc_4 pm_4 an_4 cd_4 ct_4), sl_4⟩)
    (cc_4 : PySem.W.codeIn K cd_4 "can_be_mended" = true)
    (kp_4 : PySem.W.keepIn K (.ref f_4) = true)
    (a_5 : PySem.W.nsIn K mainGlobals "has_what_it_needs" = some (some (.ref f_5)))
    (l_5 : K.lookup f_5 = some ⟨oc_5, od_5, .func (PySem.W.fnOf "has_what_it_needs" "has_what_it_needs" (defArgs s_has_what_it_needs) (defBody s_has_what_it_needs) (defScope s_has_what_it_needs) .none kV_5 dc_5 pm_5 an_5 cd_5 ct_5), sl_5⟩)
    (cc_5 : PySem.W.codeIn K cd_5 "has_what_it_needs" = true)
    (kp_5 : PySem.W.keepIn K (.ref f_5) = true)
    (a_6 : PySem.W.nsIn K mainGlobals "kinds_in_order" = some (some (.ref f_6)))
    (l_6 : K.lookup f_6 = some ⟨oc_6, od_6, .func (PySem.W.fnOf "kinds_in_order" "kinds_in_order" (defArgs s_kinds_in_order) (defBody s_kinds_in_order) (defScope s_kinds_in_order) .none kV_6 dc_6 pm_6 an_6 cd_6 ct_6), sl_6⟩)
    (cc_6 : PySem.W.codeIn K cd_6 "kinds_in_order" = true)
    (kp_6 : PySem.W.keepIn K (.ref f_6) = true)
    (a_7 : PySem.W.nsIn K mainGlobals "_law_cell_at" = some (some (.ref f_7)))
    (l_7 : K.lookup f_7 = some ⟨oc_7, od_7, .func (PySem.W.fnOf "_law_cell_at" "_law_cell_at" (defArgs s_l_cell_at) (defBody s_l_cell_at) (defScope s_l_cell_at) .none kV_7 dc_7 pm_7 an_7 cd_7 ct_7), sl_7⟩)
    (cc_7 : PySem.W.codeIn K cd_7 "_law_cell_at" = true)
    (kp_7 : PySem.W.keepIn K (.ref f_7) = true)
    (a_8 : PySem.W.nsIn K mainGlobals "_law_word" = some (some (.ref f_8)))
    (l_8 : K.lookup f_8 = some ⟨oc_8, od_8, .func (PySem.W.fnOf "_law_word" "_law_word" (defArgs s_l_word) (defBody s_l_word) (defScope s_l_word) .none kV_8 dc_8 pm_8 an_8 cd_8 ct_8), sl_8⟩)
    (cc_8 : PySem.W.codeIn K cd_8 "_law_word" = true)
    (kp_8 : PySem.W.keepIn K (.ref f_8) = true)
    (a_9 : PySem.W.nsIn K mainGlobals "_law_clause" = some (some (.ref f_9)))
    (l_9 : K.lookup f_9 = some ⟨oc_9, od_9, .func (PySem.W.fnOf "_law_clause" "_law_clause" (defArgs s_l_clause) (defBody s_l_clause) (defScope s_l_clause) .none kV_9 dc_9 pm_9 an_9 cd_9 ct_9), sl_9⟩)
    (cc_9 : PySem.W.codeIn K cd_9 "_law_clause" = true)
    (kp_9 : PySem.W.keepIn K (.ref f_9) = true)
    (a_10 : PySem.W.nsIn K mainGlobals "_law_pile" = some (some (.ref f_10)))
    (l_10 : K.lookup f_10 = some ⟨oc_10, od_10, .func (PySem.W.fnOf "_law_pile" "_law_pile" (defArgs s_l_pile) (defBody s_l_pile) (defScope s_l_pile) .none kV_10 dc_10 pm_10 an_10 cd_10 ct_10), sl_10⟩)
    (cc_10 : PySem.W.codeIn K cd_10 "_law_pile" = true)
    (kp_10 : PySem.W.keepIn K (.ref f_10) = true)
    (a_11 : PySem.W.nsIn K mainGlobals "_law_due" = some (some (.ref f_11)))
    (l_11 : K.lookup f_11 = some ⟨oc_11, od_11, .func (PySem.W.fnOf "_law_due" "_law_due" (defArgs s_l_due) (defBody s_l_due) (defScope s_l_due) .none kV_11 dc_11 pm_11 an_11 cd_11 ct_11), sl_11⟩)
    (cc_11 : PySem.W.codeIn K cd_11 "_law_due" = true)
    (kp_11 : PySem.W.keepIn K (.ref f_11) = true)
    (a_12 : PySem.W.nsIn K mainGlobals "law" = some (some (.ref f_12)))
    (l_12 : K.lookup f_12 = some ⟨oc_12, od_12, .func (PySem.W.fnOf "law" "law" (defArgs s_law) (defBody s_law) (defScope s_law) .none kV_12 dc_12 pm_12 an_12 cd_12 ct_12), sl_12⟩)
    (cc_12 : PySem.W.codeIn K cd_12 "law" = true)
    (kp_12 : PySem.W.keepIn K (.ref f_12) = true)
    (z1 : PySem.W.nsIn K mainGlobals "range" = some none)
    (z2 : PySem.W.nsIn K mainGlobals "list" = some none)
    (z3 : PySem.W.nsIn K mainGlobals "isinstance" = some none)
    (z4 : PySem.W.nsIn K mainGlobals "len" = some none)
    (z5 : PySem.W.nsIn K mainGlobals "max" = some none)
    (z6 : PySem.W.nsIn K mainGlobals "any" = some none)
    (ak_CLOSED_BAR : PySem.W.nsIn K mainGlobals "CLOSED_BAR" = some (some (.int 4 tk_CLOSED_BAR)))
    (ac0 : PySem.W.nsIn K mainGlobals "Matter" = some (some (.ref c0)))
    (ac1 : PySem.W.nsIn K mainGlobals "Change" = some (some (.ref c1)))
    (ac2 : PySem.W.nsIn K mainGlobals "Mend" = some (some (.ref c2)))
    (ac3 : PySem.W.nsIn K mainGlobals "PutOff" = some (some (.ref c3)))
    (ac4 : PySem.W.nsIn K mainGlobals "Close" = some (some (.ref c4)))
    (ac5 : PySem.W.nsIn K mainGlobals "Lay" = some (some (.ref c5)))
    (ac6 : PySem.W.nsIn K mainGlobals "Rest" = some (some (.ref c6)))
    (ac7 : PySem.W.nsIn K mainGlobals "Point" = some (some (.ref c7)))
    (acm : PySem.W.nsIn K mainGlobals "Motion" = some (some (.ref cm)))
    (atb : PySem.W.nsIn K mainGlobals "RANKS" = some (some (.ref tb)))
    (ltb : K.lookup tb = some ⟨.type "dict", none, .dict est nt, #[]⟩)
    (ktb : PySem.W.KeysLit P est.toList)
    (kas : est.toList.map DictEntry.key = [.str (Str.ofString "matter") tq0, .str (Str.ofString "change") tq1, .str (Str.ofString "mend") tq2, .str (Str.ofString "put off") tq3, .str (Str.ofString "close") tq4, .str (Str.ofString "lay") tq5, .str (Str.ofString "rest") tq6, .str (Str.ofString "point") tq7])
    (tlo : (tb == sysModules) = false)
    (rk0 : PySem.W.nsIn K tb (Str.ofString "matter") = some (some (.int 0 tr0)))
    (rk1 : PySem.W.nsIn K tb (Str.ofString "change") = some (some (.int 1 tr1)))
    (rk2 : PySem.W.nsIn K tb (Str.ofString "mend") = some (some (.int 2 tr2)))
    (rk3 : PySem.W.nsIn K tb (Str.ofString "put off") = some (some (.int 3 tr3)))
    (rk4 : PySem.W.nsIn K tb (Str.ofString "close") = some (some (.int 4 tr4)))
    (rk5 : PySem.W.nsIn K tb (Str.ofString "lay") = some (some (.int 5 tr5)))
    (rk6 : PySem.W.nsIn K tb (Str.ofString "rest") = some (some (.int 6 tr6)))
    (rk7 : PySem.W.nsIn K tb (Str.ofString "point") = some (some (.int 7 tr7)))
    (pg0 : PySem.W.plainGet K c0 Str.empty = true)
    (hd0 : PySem.W.hasDictIn K c0 = true)
    (po0 : PySem.W.plainOver K c0 = true)
    (sa0 : PySem.W.findIn K (.ref c0) "__setattr__" = some (some (.builtin "object.__setattr__")))
    (ha0 : PySem.W.findIn K (.ref c0) "__class__" = some (some (.builtin "object.__class__")))
    (hm0 : PySem.W.mroIn K c0 (.type "object") = some true)
    (mk0 : PySem.W.makesIn K c0 = true)
    (kc0 : PySem.W.keepIn K (.ref c0) = true)
    (pg1 : PySem.W.plainGet K c1 Str.empty = true)
    (hd1 : PySem.W.hasDictIn K c1 = true)
    (po1 : PySem.W.plainOver K c1 = true)
    (sa1 : PySem.W.findIn K (.ref c1) "__setattr__" = some (some (.builtin "object.__setattr__")))
    (ha1 : PySem.W.findIn K (.ref c1) "__class__" = some (some (.builtin "object.__class__")))
    (hm1 : PySem.W.mroIn K c1 (.type "object") = some true)
    (mk1 : PySem.W.makesIn K c1 = true)
    (kc1 : PySem.W.keepIn K (.ref c1) = true)
    (pg2 : PySem.W.plainGet K c2 Str.empty = true)
    (hd2 : PySem.W.hasDictIn K c2 = true)
    (po2 : PySem.W.plainOver K c2 = true)
    (sa2 : PySem.W.findIn K (.ref c2) "__setattr__" = some (some (.builtin "object.__setattr__")))
    (ha2 : PySem.W.findIn K (.ref c2) "__class__" = some (some (.builtin "object.__class__")))
    (hm2 : PySem.W.mroIn K c2 (.type "object") = some true)
    (mk2 : PySem.W.makesIn K c2 = true)
    (kc2 : PySem.W.keepIn K (.ref c2) = true)
    (pg3 : PySem.W.plainGet K c3 Str.empty = true)
    (hd3 : PySem.W.hasDictIn K c3 = true)
    (po3 : PySem.W.plainOver K c3 = true)
    (sa3 : PySem.W.findIn K (.ref c3) "__setattr__" = some (some (.builtin "object.__setattr__")))
    (ha3 : PySem.W.findIn K (.ref c3) "__class__" = some (some (.builtin "object.__class__")))
    (hm3 : PySem.W.mroIn K c3 (.type "object") = some true)
    (mk3 : PySem.W.makesIn K c3 = true)
    (kc3 : PySem.W.keepIn K (.ref c3) = true)
    (pg4 : PySem.W.plainGet K c4 Str.empty = true)
    (hd4 : PySem.W.hasDictIn K c4 = true)
    (po4 : PySem.W.plainOver K c4 = true)
    (sa4 : PySem.W.findIn K (.ref c4) "__setattr__" = some (some (.builtin "object.__setattr__")))
    (ha4 : PySem.W.findIn K (.ref c4) "__class__" = some (some (.builtin "object.__class__")))
    (hm4 : PySem.W.mroIn K c4 (.type "object") = some true)
    (mk4 : PySem.W.makesIn K c4 = true)
    (kc4 : PySem.W.keepIn K (.ref c4) = true)
    (pg5 : PySem.W.plainGet K c5 Str.empty = true)
    (hd5 : PySem.W.hasDictIn K c5 = true)
    (po5 : PySem.W.plainOver K c5 = true)
    (sa5 : PySem.W.findIn K (.ref c5) "__setattr__" = some (some (.builtin "object.__setattr__")))
    (ha5 : PySem.W.findIn K (.ref c5) "__class__" = some (some (.builtin "object.__class__")))
    (hm5 : PySem.W.mroIn K c5 (.type "object") = some true)
    (mk5 : PySem.W.makesIn K c5 = true)
    (kc5 : PySem.W.keepIn K (.ref c5) = true)
    (pg6 : PySem.W.plainGet K c6 Str.empty = true)
    (hd6 : PySem.W.hasDictIn K c6 = true)
    (po6 : PySem.W.plainOver K c6 = true)
    (sa6 : PySem.W.findIn K (.ref c6) "__setattr__" = some (some (.builtin "object.__setattr__")))
    (ha6 : PySem.W.findIn K (.ref c6) "__class__" = some (some (.builtin "object.__class__")))
    (hm6 : PySem.W.mroIn K c6 (.type "object") = some true)
    (mk6 : PySem.W.makesIn K c6 = true)
    (kc6 : PySem.W.keepIn K (.ref c6) = true)
    (pg7 : PySem.W.plainGet K c7 Str.empty = true)
    (hd7 : PySem.W.hasDictIn K c7 = true)
    (po7 : PySem.W.plainOver K c7 = true)
    (sa7 : PySem.W.findIn K (.ref c7) "__setattr__" = some (some (.builtin "object.__setattr__")))
    (ha7 : PySem.W.findIn K (.ref c7) "__class__" = some (some (.builtin "object.__class__")))
    (hm7 : PySem.W.mroIn K c7 (.type "object") = some true)
    (mk7 : PySem.W.makesIn K c7 = true)
    (kc7 : PySem.W.keepIn K (.ref c7) = true)
    (hn : PySem.W.specialIn K (.builtin "object.__class__") "__get__" = some (some (.builtin "getset_descriptor.__get__")))
    (htk : PySem.W.takesIn K (.builtin "object.__class__") = some true)
    (m_k0_0 : PySem.W.findIn K (.ref c0) "kind" = some (some (.ref f_k0)))
    (fn_k0 : PySem.W.isFn K (.ref f_k0) = true)
    (l_k0 : K.lookup f_k0 = some ⟨oc_k0, od_k0, .func (PySem.W.fnOf "kind" "Matter.kind" (defArgs s_Matter_kind) (defBody s_Matter_kind) (defScope s_Matter_kind) .none kV_k0 dc_k0 pm_k0 an_k0 cd_k0 ct_k0), sl_k0⟩)
    (cc_k0 : PySem.W.codeIn K cd_k0 "Matter.kind" = true)
    (kp_k0 : PySem.W.keepIn K (.ref f_k0) = true)
    (m_k1_1 : PySem.W.findIn K (.ref c1) "kind" = some (some (.ref f_k1)))
    (fn_k1 : PySem.W.isFn K (.ref f_k1) = true)
    (l_k1 : K.lookup f_k1 = some ⟨oc_k1, od_k1, .func (PySem.W.fnOf "kind" "Change.kind" (defArgs s_Change_kind) (defBody s_Change_kind) (defScope s_Change_kind) .none kV_k1 dc_k1 pm_k1 an_k1 cd_k1 ct_k1), sl_k1⟩)
    (cc_k1 : PySem.W.codeIn K cd_k1 "Change.kind" = true)
    (kp_k1 : PySem.W.keepIn K (.ref f_k1) = true)
    (m_k2_2 : PySem.W.findIn K (.ref c2) "kind" = some (some (.ref f_k2)))
    (fn_k2 : PySem.W.isFn K (.ref f_k2) = true)
    (l_k2 : K.lookup f_k2 = some ⟨oc_k2, od_k2, .func (PySem.W.fnOf "kind" "Mend.kind" (defArgs s_Mend_kind) (defBody s_Mend_kind) (defScope s_Mend_kind) .none kV_k2 dc_k2 pm_k2 an_k2 cd_k2 ct_k2), sl_k2⟩)
    (cc_k2 : PySem.W.codeIn K cd_k2 "Mend.kind" = true)
    (kp_k2 : PySem.W.keepIn K (.ref f_k2) = true)
    (m_k3_3 : PySem.W.findIn K (.ref c3) "kind" = some (some (.ref f_k3)))
    (fn_k3 : PySem.W.isFn K (.ref f_k3) = true)
    (l_k3 : K.lookup f_k3 = some ⟨oc_k3, od_k3, .func (PySem.W.fnOf "kind" "PutOff.kind" (defArgs s_PutOff_kind) (defBody s_PutOff_kind) (defScope s_PutOff_kind) .none kV_k3 dc_k3 pm_k3 an_k3 cd_k3 ct_k3), sl_k3⟩)
    (cc_k3 : PySem.W.codeIn K cd_k3 "PutOff.kind" = true)
    (kp_k3 : PySem.W.keepIn K (.ref f_k3) = true)
    (m_k4_4 : PySem.W.findIn K (.ref c4) "kind" = some (some (.ref f_k4)))
    (fn_k4 : PySem.W.isFn K (.ref f_k4) = true)
    (l_k4 : K.lookup f_k4 = some ⟨oc_k4, od_k4, .func (PySem.W.fnOf "kind" "Close.kind" (defArgs s_Close_kind) (defBody s_Close_kind) (defScope s_Close_kind) .none kV_k4 dc_k4 pm_k4 an_k4 cd_k4 ct_k4), sl_k4⟩)
    (cc_k4 : PySem.W.codeIn K cd_k4 "Close.kind" = true)
    (kp_k4 : PySem.W.keepIn K (.ref f_k4) = true)
    (m_k5_5 : PySem.W.findIn K (.ref c5) "kind" = some (some (.ref f_k5)))
    (fn_k5 : PySem.W.isFn K (.ref f_k5) = true)
    (l_k5 : K.lookup f_k5 = some ⟨oc_k5, od_k5, .func (PySem.W.fnOf "kind" "Lay.kind" (defArgs s_Lay_kind) (defBody s_Lay_kind) (defScope s_Lay_kind) .none kV_k5 dc_k5 pm_k5 an_k5 cd_k5 ct_k5), sl_k5⟩)
    (cc_k5 : PySem.W.codeIn K cd_k5 "Lay.kind" = true)
    (kp_k5 : PySem.W.keepIn K (.ref f_k5) = true)
    (m_k6_6 : PySem.W.findIn K (.ref c6) "kind" = some (some (.ref f_k6)))
    (fn_k6 : PySem.W.isFn K (.ref f_k6) = true)
    (l_k6 : K.lookup f_k6 = some ⟨oc_k6, od_k6, .func (PySem.W.fnOf "kind" "Rest.kind" (defArgs s_Rest_kind) (defBody s_Rest_kind) (defScope s_Rest_kind) .none kV_k6 dc_k6 pm_k6 an_k6 cd_k6 ct_k6), sl_k6⟩)
    (cc_k6 : PySem.W.codeIn K cd_k6 "Rest.kind" = true)
    (kp_k6 : PySem.W.keepIn K (.ref f_k6) = true)
    (m_k7_7 : PySem.W.findIn K (.ref c7) "kind" = some (some (.ref f_k7)))
    (fn_k7 : PySem.W.isFn K (.ref f_k7) = true)
    (l_k7 : K.lookup f_k7 = some ⟨oc_k7, od_k7, .func (PySem.W.fnOf "kind" "Point.kind" (defArgs s_Point_kind) (defBody s_Point_kind) (defScope s_Point_kind) .none kV_k7 dc_k7 pm_k7 an_k7 cd_k7 ct_k7), sl_k7⟩)
    (cc_k7 : PySem.W.codeIn K cd_k7 "Point.kind" = true)
    (kp_k7 : PySem.W.keepIn K (.ref f_k7) = true)
    (m_r_0 : PySem.W.findIn K (.ref c0) "rank" = some (some (.ref f_r)))
    (m_r_1 : PySem.W.findIn K (.ref c1) "rank" = some (some (.ref f_r)))
    (m_r_2 : PySem.W.findIn K (.ref c2) "rank" = some (some (.ref f_r)))
    (m_r_3 : PySem.W.findIn K (.ref c3) "rank" = some (some (.ref f_r)))
    (m_r_4 : PySem.W.findIn K (.ref c4) "rank" = some (some (.ref f_r)))
    (m_r_5 : PySem.W.findIn K (.ref c5) "rank" = some (some (.ref f_r)))
    (m_r_6 : PySem.W.findIn K (.ref c6) "rank" = some (some (.ref f_r)))
    (m_r_7 : PySem.W.findIn K (.ref c7) "rank" = some (some (.ref f_r)))
    (fn_r : PySem.W.isFn K (.ref f_r) = true)
    (l_r : K.lookup f_r = some ⟨oc_r, od_r, .func (PySem.W.fnOf "rank" "Motion.rank" (defArgs s_Motion_rank) (defBody s_Motion_rank) (defScope s_Motion_rank) .none kV_r dc_r pm_r an_r cd_r ct_r), sl_r⟩)
    (cc_r : PySem.W.codeIn K cd_r "Motion.rank" = true)
    (kp_r : PySem.W.keepIn K (.ref f_r) = true)
    (m_n_0 : PySem.W.findIn K (.ref c0) "need" = some (some (.ref f_n)))
    (m_n_1 : PySem.W.findIn K (.ref c1) "need" = some (some (.ref f_n)))
    (m_n_2 : PySem.W.findIn K (.ref c2) "need" = some (some (.ref f_n)))
    (m_n_3 : PySem.W.findIn K (.ref c3) "need" = some (some (.ref f_n)))
    (m_n_5 : PySem.W.findIn K (.ref c5) "need" = some (some (.ref f_n)))
    (m_n_6 : PySem.W.findIn K (.ref c6) "need" = some (some (.ref f_n)))
    (m_n_7 : PySem.W.findIn K (.ref c7) "need" = some (some (.ref f_n)))
    (fn_n : PySem.W.isFn K (.ref f_n) = true)
    (l_n : K.lookup f_n = some ⟨oc_n, od_n, .func (PySem.W.fnOf "need" "Motion.need" (defArgs s_Motion_need) (defBody s_Motion_need) (defScope s_Motion_need) .none kV_n dc_n pm_n an_n cd_n ct_n), sl_n⟩)
    (cc_n : PySem.W.codeIn K cd_n "Motion.need" = true)
    (kp_n : PySem.W.keepIn K (.ref f_n) = true)
    (m_n4_4 : PySem.W.findIn K (.ref c4) "need" = some (some (.ref f_n4)))
    (fn_n4 : PySem.W.isFn K (.ref f_n4) = true)
    (l_n4 : K.lookup f_n4 = some ⟨oc_n4, od_n4, .func (PySem.W.fnOf "need" "Close.need" (defArgs s_Close_need) (defBody s_Close_need) (defScope s_Close_need) .none kV_n4 dc_n4 pm_n4 an_n4 cd_n4 ct_n4), sl_n4⟩)
    (cc_n4 : PySem.W.codeIn K cd_n4 "Close.need" = true)
    (kp_n4 : PySem.W.keepIn K (.ref f_n4) = true)
    (m_t_4 : PySem.W.findIn K (.ref c4) "told" = some (some (.ref f_t)))
    (m_t_5 : PySem.W.findIn K (.ref c5) "told" = some (some (.ref f_t)))
    (m_t_6 : PySem.W.findIn K (.ref c6) "told" = some (some (.ref f_t)))
    (fn_t : PySem.W.isFn K (.ref f_t) = true)
    (l_t : K.lookup f_t = some ⟨oc_t, od_t, .func (PySem.W.fnOf "told" "Motion.told" (defArgs s_Motion_told) (defBody s_Motion_told) (defScope s_Motion_told) .none kV_t dc_t pm_t an_t cd_t ct_t), sl_t⟩)
    (cc_t : PySem.W.codeIn K cd_t "Motion.told" = true)
    (kp_t : PySem.W.keepIn K (.ref f_t) = true)
    (m_t0_0 : PySem.W.findIn K (.ref c0) "told" = some (some (.ref f_t0)))
    (fn_t0 : PySem.W.isFn K (.ref f_t0) = true)
    (l_t0 : K.lookup f_t0 = some ⟨oc_t0, od_t0, .func (PySem.W.fnOf "told" "Matter.told" (defArgs s_Matter_told) (defBody s_Matter_told) (defScope s_Matter_told) .none kV_t0 dc_t0 pm_t0 an_t0 cd_t0 ct_t0), sl_t0⟩)
    (cc_t0 : PySem.W.codeIn K cd_t0 "Matter.told" = true)
    (kp_t0 : PySem.W.keepIn K (.ref f_t0) = true)
    (m_t1_1 : PySem.W.findIn K (.ref c1) "told" = some (some (.ref f_t1)))
    (fn_t1 : PySem.W.isFn K (.ref f_t1) = true)
    (l_t1 : K.lookup f_t1 = some ⟨oc_t1, od_t1, .func (PySem.W.fnOf "told" "Change.told" (defArgs s_Change_told) (defBody s_Change_told) (defScope s_Change_told) .none kV_t1 dc_t1 pm_t1 an_t1 cd_t1 ct_t1), sl_t1⟩)
    (cc_t1 : PySem.W.codeIn K cd_t1 "Change.told" = true)
    (kp_t1 : PySem.W.keepIn K (.ref f_t1) = true)
    (m_t2_2 : PySem.W.findIn K (.ref c2) "told" = some (some (.ref f_t2)))
    (fn_t2 : PySem.W.isFn K (.ref f_t2) = true)
    (l_t2 : K.lookup f_t2 = some ⟨oc_t2, od_t2, .func (PySem.W.fnOf "told" "Mend.told" (defArgs s_Mend_told) (defBody s_Mend_told) (defScope s_Mend_told) .none kV_t2 dc_t2 pm_t2 an_t2 cd_t2 ct_t2), sl_t2⟩)
    (cc_t2 : PySem.W.codeIn K cd_t2 "Mend.told" = true)
    (kp_t2 : PySem.W.keepIn K (.ref f_t2) = true)
    (m_t3_3 : PySem.W.findIn K (.ref c3) "told" = some (some (.ref f_t3)))
    (fn_t3 : PySem.W.isFn K (.ref f_t3) = true)
    (l_t3 : K.lookup f_t3 = some ⟨oc_t3, od_t3, .func (PySem.W.fnOf "told" "PutOff.told" (defArgs s_PutOff_told) (defBody s_PutOff_told) (defScope s_PutOff_told) .none kV_t3 dc_t3 pm_t3 an_t3 cd_t3 ct_t3), sl_t3⟩)
    (cc_t3 : PySem.W.codeIn K cd_t3 "PutOff.told" = true)
    (kp_t3 : PySem.W.keepIn K (.ref f_t3) = true)
    (m_t7_7 : PySem.W.findIn K (.ref c7) "told" = some (some (.ref f_t7)))
    (fn_t7 : PySem.W.isFn K (.ref f_t7) = true)
    (l_t7 : K.lookup f_t7 = some ⟨oc_t7, od_t7, .func (PySem.W.fnOf "told" "Point.told" (defArgs s_Point_told) (defBody s_Point_told) (defScope s_Point_told) .none kV_t7 dc_t7 pm_t7 an_t7 cd_t7 ct_t7), sl_t7⟩)
    (cc_t7 : PySem.W.codeIn K cd_t7 "Point.told" = true)
    (kp_t7 : PySem.W.keepIn K (.ref f_t7) = true)
    (m_i0_0 : PySem.W.findIn K (.ref c0) "__init__" = some (some (.ref f_i0)))
    (fn_i0 : PySem.W.isFn K (.ref f_i0) = true)
    (l_i0 : K.lookup f_i0 = some ⟨oc_i0, od_i0, .func (PySem.W.fnOf "__init__" "Matter.__init__" (defArgs s_Matter_init) (defBody s_Matter_init) (defScope s_Matter_init) .none kV_i0 dc_i0 pm_i0 an_i0 cd_i0 ct_i0), sl_i0⟩)
    (cc_i0 : PySem.W.codeIn K cd_i0 "Matter.__init__" = true)
    (kp_i0 : PySem.W.keepIn K (.ref f_i0) = true)
    (m_i1_1 : PySem.W.findIn K (.ref c1) "__init__" = some (some (.ref f_i1)))
    (fn_i1 : PySem.W.isFn K (.ref f_i1) = true)
    (l_i1 : K.lookup f_i1 = some ⟨oc_i1, od_i1, .func (PySem.W.fnOf "__init__" "Change.__init__" (defArgs s_Change_init) (defBody s_Change_init) (defScope s_Change_init) .none kV_i1 dc_i1 pm_i1 an_i1 cd_i1 ct_i1), sl_i1⟩)
    (cc_i1 : PySem.W.codeIn K cd_i1 "Change.__init__" = true)
    (kp_i1 : PySem.W.keepIn K (.ref f_i1) = true)
    (m_i2_2 : PySem.W.findIn K (.ref c2) "__init__" = some (some (.ref f_i2)))
    (fn_i2 : PySem.W.isFn K (.ref f_i2) = true)
    (l_i2 : K.lookup f_i2 = some ⟨oc_i2, od_i2, .func (PySem.W.fnOf "__init__" "Mend.__init__" (defArgs s_Mend_init) (defBody s_Mend_init) (defScope s_Mend_init) .none kV_i2 dc_i2 pm_i2 an_i2 cd_i2 ct_i2), sl_i2⟩)
    (cc_i2 : PySem.W.codeIn K cd_i2 "Mend.__init__" = true)
    (kp_i2 : PySem.W.keepIn K (.ref f_i2) = true)
    (m_i3_3 : PySem.W.findIn K (.ref c3) "__init__" = some (some (.ref f_i3)))
    (fn_i3 : PySem.W.isFn K (.ref f_i3) = true)
    (l_i3 : K.lookup f_i3 = some ⟨oc_i3, od_i3, .func (PySem.W.fnOf "__init__" "PutOff.__init__" (defArgs s_PutOff_init) (defBody s_PutOff_init) (defScope s_PutOff_init) .none kV_i3 dc_i3 pm_i3 an_i3 cd_i3 ct_i3), sl_i3⟩)
    (cc_i3 : PySem.W.codeIn K cd_i3 "PutOff.__init__" = true)
    (kp_i3 : PySem.W.keepIn K (.ref f_i3) = true)
    (m_i7_7 : PySem.W.findIn K (.ref c7) "__init__" = some (some (.ref f_i7)))
    (fn_i7 : PySem.W.isFn K (.ref f_i7) = true)
    (l_i7 : K.lookup f_i7 = some ⟨oc_i7, od_i7, .func (PySem.W.fnOf "__init__" "Point.__init__" (defArgs s_Point_init) (defBody s_Point_init) (defScope s_Point_init) .none kV_i7 dc_i7 pm_i7 an_i7 cd_i7 ct_i7), sl_i7⟩)
    (cc_i7 : PySem.W.codeIn K cd_i7 "Point.__init__" = true)
    (kp_i7 : PySem.W.keepIn K (.ref f_i7) = true)
    (na0 : PySem.W.findIn K (.ref c0) "text" = some none)
    (na1 : PySem.W.findIn K (.ref c1) "edit" = some none)
    (na2 : PySem.W.findIn K (.ref c2) "edit" = some none)
    (na3 : PySem.W.findIn K (.ref c3) "sitting" = some none)
    (na7 : PySem.W.findIn K (.ref c7) "clause" = some none)
    (ni4 : PySem.W.findIn K (.ref c4) "__init__" = some (some (.builtin "object.__init__")))
    (ni5 : PySem.W.findIn K (.ref c5) "__init__" = some (some (.builtin "object.__init__")))
    (ni6 : PySem.W.findIn K (.ref c6) "__init__" = some (some (.builtin "object.__init__"))) :
    ∃ fd : FuncData, (∀ (s : Shared) (v : Value), BindsTo s fd ⟨[v], []⟩ [("_law_script", v)]) ∧ ∀ base : Heap, K.In base → base.Ns mainGlobals mg → FnOk l.prog w K mg base CX0 6 fa fd ["_law_script"] (spLaw K) := by
  have e := hfa.symm.trans (PySem.W.mg_of X G a_12)
  cases e
  have F_1 := fun_mk (st := s_motion_of) l_1 cc_1 kp_1
  have F_2 := fun_mk (st := s_bar_of) l_2 cc_2 kp_2
  have F_3 := fun_mk (st := s_has_matter) l_3 cc_3 kp_3
  have F_4 := fun_mk (st := s_can_be_mended) l_4 cc_4 kp_4
  have F_5 := fun_mk (st := s_has_what_it_needs) l_5 cc_5 kp_5
  have F_6 := fun_mk (st := s_kinds_in_order) l_6 cc_6 kp_6
  have F_7 := fun_mk (st := s_l_cell_at) l_7 cc_7 kp_7
  have F_8 := fun_mk (st := s_l_word) l_8 cc_8 kp_8
  have F_9 := fun_mk (st := s_l_clause) l_9 cc_9 kp_9
  have F_10 := fun_mk (st := s_l_pile) l_10 cc_10 kp_10
  have F_11 := fun_mk (st := s_l_due) l_11 cc_11 kp_11
  have F_12 := fun_mk (st := s_law) l_12 cc_12 kp_12
  have b_1 := F_1.binds (ps := ["told"]) fun _ _ _ _ _ _ us hl => match us, hl with | [_], _ => rfl
  have b_2 := F_2.binds (ps := ["pile", "closed"]) fun _ _ _ _ _ _ us hl => match us, hl with | [_, _], _ => rfl
  have b_3 := F_3.binds (ps := ["pile"]) fun _ _ _ _ _ _ us hl => match us, hl with | [_], _ => rfl
  have b_4 := F_4.binds (ps := ["pile"]) fun _ _ _ _ _ _ us hl => match us, hl with | [_], _ => rfl
  have b_5 := F_5.binds (ps := ["kind", "pile"]) fun _ _ _ _ _ _ us hl => match us, hl with | [_, _], _ => rfl
  have b_6 := F_6.binds (ps := ["pile", "closed"]) fun _ _ _ _ _ _ us hl => match us, hl with | [_, _], _ => rfl
  have b_7 := F_7.binds (ps := ["_law_script", "_law_k"]) fun _ _ _ _ _ _ us hl => match us, hl with | [_, _], _ => rfl
  have b_8 := F_8.binds (ps := ["_law_cell"]) fun _ _ _ _ _ _ us hl => match us, hl with | [_], _ => rfl
  have b_9 := F_9.binds (ps := ["_law_cell"]) fun _ _ _ _ _ _ us hl => match us, hl with | [_], _ => rfl
  have b_10 := F_10.binds (ps := ["_law_script"]) fun _ _ _ _ _ _ us hl => match us, hl with | [_], _ => rfl
  have b_11 := F_11.binds (ps := ["_law_told", "_law_closed"]) fun _ _ _ _ _ _ us hl => match us, hl with | [_, _], _ => rfl
  have F_k0 := fun_mk (st := s_Matter_kind) l_k0 cc_k0 kp_k0
  have b_k0 := F_k0.binds (ps := ["self"]) fun _ _ _ _ _ _ us hl => match us, hl with | [_], _ => rfl
  have F_k1 := fun_mk (st := s_Change_kind) l_k1 cc_k1 kp_k1
  have b_k1 := F_k1.binds (ps := ["self"]) fun _ _ _ _ _ _ us hl => match us, hl with | [_], _ => rfl
  have F_k2 := fun_mk (st := s_Mend_kind) l_k2 cc_k2 kp_k2
  have b_k2 := F_k2.binds (ps := ["self"]) fun _ _ _ _ _ _ us hl => match us, hl with | [_], _ => rfl
  have F_k3 := fun_mk (st := s_PutOff_kind) l_k3 cc_k3 kp_k3
  have b_k3 := F_k3.binds (ps := ["self"]) fun _ _ _ _ _ _ us hl => match us, hl with | [_], _ => rfl
  have F_k4 := fun_mk (st := s_Close_kind) l_k4 cc_k4 kp_k4
  have b_k4 := F_k4.binds (ps := ["self"]) fun _ _ _ _ _ _ us hl => match us, hl with | [_], _ => rfl
  have F_k5 := fun_mk (st := s_Lay_kind) l_k5 cc_k5 kp_k5
  have b_k5 := F_k5.binds (ps := ["self"]) fun _ _ _ _ _ _ us hl => match us, hl with | [_], _ => rfl
  have F_k6 := fun_mk (st := s_Rest_kind) l_k6 cc_k6 kp_k6
  have b_k6 := F_k6.binds (ps := ["self"]) fun _ _ _ _ _ _ us hl => match us, hl with | [_], _ => rfl
  have F_k7 := fun_mk (st := s_Point_kind) l_k7 cc_k7 kp_k7
  have b_k7 := F_k7.binds (ps := ["self"]) fun _ _ _ _ _ _ us hl => match us, hl with | [_], _ => rfl
  have F_r := fun_mk (st := s_Motion_rank) l_r cc_r kp_r
  have b_r := F_r.binds (ps := ["self"]) fun _ _ _ _ _ _ us hl => match us, hl with | [_], _ => rfl
  have F_n := fun_mk (st := s_Motion_need) l_n cc_n kp_n
  have b_n := F_n.binds (ps := ["self"]) fun _ _ _ _ _ _ us hl => match us, hl with | [_], _ => rfl
  have F_n4 := fun_mk (st := s_Close_need) l_n4 cc_n4 kp_n4
  have b_n4 := F_n4.binds (ps := ["self"]) fun _ _ _ _ _ _ us hl => match us, hl with | [_], _ => rfl
  have F_t := fun_mk (st := s_Motion_told) l_t cc_t kp_t
  have b_t := F_t.binds (ps := ["self"]) fun _ _ _ _ _ _ us hl => match us, hl with | [_], _ => rfl
  have F_t0 := fun_mk (st := s_Matter_told) l_t0 cc_t0 kp_t0
  have b_t0 := F_t0.binds (ps := ["self"]) fun _ _ _ _ _ _ us hl => match us, hl with | [_], _ => rfl
  have F_t1 := fun_mk (st := s_Change_told) l_t1 cc_t1 kp_t1
  have b_t1 := F_t1.binds (ps := ["self"]) fun _ _ _ _ _ _ us hl => match us, hl with | [_], _ => rfl
  have F_t2 := fun_mk (st := s_Mend_told) l_t2 cc_t2 kp_t2
  have b_t2 := F_t2.binds (ps := ["self"]) fun _ _ _ _ _ _ us hl => match us, hl with | [_], _ => rfl
  have F_t3 := fun_mk (st := s_PutOff_told) l_t3 cc_t3 kp_t3
  have b_t3 := F_t3.binds (ps := ["self"]) fun _ _ _ _ _ _ us hl => match us, hl with | [_], _ => rfl
  have F_t7 := fun_mk (st := s_Point_told) l_t7 cc_t7 kp_t7
  have b_t7 := F_t7.binds (ps := ["self"]) fun _ _ _ _ _ _ us hl => match us, hl with | [_], _ => rfl
  have F_i0 := fun_mk (st := s_Matter_init) l_i0 cc_i0 kp_i0
  have b_i0 := F_i0.binds (ps := ["self", "text"]) fun _ _ _ _ _ _ us hl => match us, hl with | [_, _], _ => rfl
  have F_i1 := fun_mk (st := s_Change_init) l_i1 cc_i1 kp_i1
  have b_i1 := F_i1.binds (ps := ["self", "edit"]) fun _ _ _ _ _ _ us hl => match us, hl with | [_, _], _ => rfl
  have F_i2 := fun_mk (st := s_Mend_init) l_i2 cc_i2 kp_i2
  have b_i2 := F_i2.binds (ps := ["self", "edit"]) fun _ _ _ _ _ _ us hl => match us, hl with | [_, _], _ => rfl
  have F_i3 := fun_mk (st := s_PutOff_init) l_i3 cc_i3 kp_i3
  have b_i3 := F_i3.binds (ps := ["self", "sitting"]) fun _ _ _ _ _ _ us hl => match us, hl with | [_, _], _ => rfl
  have F_i7 := fun_mk (st := s_Point_init) l_i7 cc_i7 kp_i7
  have b_i7 := F_i7.binds (ps := ["self", "clause"]) fun _ _ _ _ _ _ us hl => match us, hl with | [_, _], _ => rfl
  have T : Txt P K mg ⟨f_1, _, f_2, _, f_3, _, f_4, _, f_5, _, f_6, _, f_7, _, f_8, _, f_9, _, f_10, _, f_11, _, c0, c1, c2, c3, c4, c5, c6, c7, cm, tb, f_k0, _, f_k1, _, f_k2, _, f_k3, _, f_k4, _, f_k5, _, f_k6, _, f_k7, _, f_r, _, f_n, _, f_n4, _, f_t, _, f_t0, _, f_t1, _, f_t2, _, f_t3, _, f_t7, _, f_i0, _, f_i1, _, f_i2, _, f_i3, _, f_i7, _, tk_CLOSED_BAR⟩ := {
    F_motion_of := F_1,
    b_motion_of := b_1,
    g_motion_of := PySem.W.mg_of X G a_1,
    F_bar_of := F_2,
    b_bar_of := b_2,
    g_bar_of := PySem.W.mg_of X G a_2,
    F_has_matter := F_3,
    b_has_matter := b_3,
    g_has_matter := PySem.W.mg_of X G a_3,
    F_can_be_mended := F_4,
    b_can_be_mended := b_4,
    g_can_be_mended := PySem.W.mg_of X G a_4,
    F_has_what_it_needs := F_5,
    b_has_what_it_needs := b_5,
    g_has_what_it_needs := PySem.W.mg_of X G a_5,
    F_kinds_in_order := F_6,
    b_kinds_in_order := b_6,
    g_kinds_in_order := PySem.W.mg_of X G a_6,
    F_l_cell_at := F_7,
    b_l_cell_at := b_7,
    g_l_cell_at := PySem.W.mg_of X G a_7,
    F_l_word := F_8,
    b_l_word := b_8,
    g_l_word := PySem.W.mg_of X G a_8,
    F_l_clause := F_9,
    b_l_clause := b_9,
    g_l_clause := PySem.W.mg_of X G a_9,
    F_l_pile := F_10,
    b_l_pile := b_10,
    g_l_pile := PySem.W.mg_of X G a_10,
    F_l_due := F_11,
    b_l_due := b_11,
    g_l_due := PySem.W.mg_of X G a_11,
    n_range := PySem.W.mg_none_of X G z1,
    n_list := PySem.W.mg_none_of X G z2,
    n_isinstance := PySem.W.mg_none_of X G z3,
    n_len := PySem.W.mg_none_of X G z4,
    n_max := PySem.W.mg_none_of X G z5,
    n_any := PySem.W.mg_none_of X G z6,
    g_CLOSED_BAR := PySem.W.mg_of X G ak_CLOSED_BAR,
    cl := fun k hk => match k, hk with | 0, _ => ⟨pg0, hd0, po0, sa0⟩ | 1, _ => ⟨pg1, hd1, po1, sa1⟩ | 2, _ => ⟨pg2, hd2, po2, sa2⟩ | 3, _ => ⟨pg3, hd3, po3, sa3⟩ | 4, _ => ⟨pg4, hd4, po4, sa4⟩ | 5, _ => ⟨pg5, hd5, po5, sa5⟩ | 6, _ => ⟨pg6, hd6, po6, sa6⟩ | 7, _ => ⟨pg7, hd7, po7, sa7⟩ | n + 8, h => absurd h (by omega),
    tyc := fun k hk => match k, hk with | 0, _ => ⟨ha0, hn, htk, hm0⟩ | 1, _ => ⟨ha1, hn, htk, hm1⟩ | 2, _ => ⟨ha2, hn, htk, hm2⟩ | 3, _ => ⟨ha3, hn, htk, hm3⟩ | 4, _ => ⟨ha4, hn, htk, hm4⟩ | 5, _ => ⟨ha5, hn, htk, hm5⟩ | 6, _ => ⟨ha6, hn, htk, hm6⟩ | 7, _ => ⟨ha7, hn, htk, hm7⟩ | n + 8, h => absurd h (by omega),
    g_Matter := PySem.W.mg_of X G ac0,
    g_Change := PySem.W.mg_of X G ac1,
    g_Mend := PySem.W.mg_of X G ac2,
    g_PutOff := PySem.W.mg_of X G ac3,
    g_Close := PySem.W.mg_of X G ac4,
    g_Lay := PySem.W.mg_of X G ac5,
    g_Rest := PySem.W.mg_of X G ac6,
    g_Point := PySem.W.mg_of X G ac7,
    g_Motion := PySem.W.mg_of X G acm,
    g_RANKS := PySem.W.mg_of X G atb,
    tb := ⟨est, nt, ltb, ktb⟩,
    rk := fun k hk => match k, hk with | 0, _ => ⟨_, rk0⟩ | 1, _ => ⟨_, rk1⟩ | 2, _ => ⟨_, rk2⟩ | 3, _ => ⟨_, rk3⟩ | 4, _ => ⟨_, rk4⟩ | 5, _ => ⟨_, rk5⟩ | 6, _ => ⟨_, rk6⟩ | 7, _ => ⟨_, rk7⟩ | n + 8, h => absurd h (by omega),
    tk := ⟨⟨est, nt, ltb, ktb, keysAre_of (xs := [(Str.ofString "matter", tq0), (Str.ofString "change", tq1), (Str.ofString "mend", tq2), (Str.ofString "put off", tq3), (Str.ofString "close", tq4), (Str.ofString "lay", tq5), (Str.ofString "rest", tq6), (Str.ofString "point", tq7)]) kas⟩, by decide +kernel, tlo⟩,
    m_kind := fun k hk => match k, hk with | 0, _ => ⟨m_k0_0, fn_k0, kp_k0⟩ | 1, _ => ⟨m_k1_1, fn_k1, kp_k1⟩ | 2, _ => ⟨m_k2_2, fn_k2, kp_k2⟩ | 3, _ => ⟨m_k3_3, fn_k3, kp_k3⟩ | 4, _ => ⟨m_k4_4, fn_k4, kp_k4⟩ | 5, _ => ⟨m_k5_5, fn_k5, kp_k5⟩ | 6, _ => ⟨m_k6_6, fn_k6, kp_k6⟩ | 7, _ => ⟨m_k7_7, fn_k7, kp_k7⟩ | n + 8, h => absurd h (by omega),
    b_kind := fun k hk => match k, hk with | 0, _ => b_k0 | 1, _ => b_k1 | 2, _ => b_k2 | 3, _ => b_k3 | 4, _ => b_k4 | 5, _ => b_k5 | 6, _ => b_k6 | 7, _ => b_k7 | n + 8, h => absurd h (by omega),
    m_need := fun k hk => match k, hk with | 0, _ => ⟨m_n_0, fn_n, kp_n⟩ | 1, _ => ⟨m_n_1, fn_n, kp_n⟩ | 2, _ => ⟨m_n_2, fn_n, kp_n⟩ | 3, _ => ⟨m_n_3, fn_n, kp_n⟩ | 4, _ => ⟨m_n4_4, fn_n4, kp_n4⟩ | 5, _ => ⟨m_n_5, fn_n, kp_n⟩ | 6, _ => ⟨m_n_6, fn_n, kp_n⟩ | 7, _ => ⟨m_n_7, fn_n, kp_n⟩ | n + 8, h => absurd h (by omega),
    b_need := fun k hk => match k, hk with | 0, _ => b_n | 1, _ => b_n | 2, _ => b_n | 3, _ => b_n | 4, _ => b_n4 | 5, _ => b_n | 6, _ => b_n | 7, _ => b_n | n + 8, h => absurd h (by omega),
    m_told := fun k hk => match k, hk with | 0, _ => ⟨m_t0_0, fn_t0, kp_t0⟩ | 1, _ => ⟨m_t1_1, fn_t1, kp_t1⟩ | 2, _ => ⟨m_t2_2, fn_t2, kp_t2⟩ | 3, _ => ⟨m_t3_3, fn_t3, kp_t3⟩ | 4, _ => ⟨m_t_4, fn_t, kp_t⟩ | 5, _ => ⟨m_t_5, fn_t, kp_t⟩ | 6, _ => ⟨m_t_6, fn_t, kp_t⟩ | 7, _ => ⟨m_t7_7, fn_t7, kp_t7⟩ | n + 8, h => absurd h (by omega),
    b_told := fun k hk => match k, hk with | 0, _ => b_t0 | 1, _ => b_t1 | 2, _ => b_t2 | 3, _ => b_t3 | 4, _ => b_t | 5, _ => b_t | 6, _ => b_t | 7, _ => b_t7 | n + 8, h => absurd h (by omega),
    m_rank := fun k hk => match k, hk with | 0, _ => ⟨m_r_0, fn_r, kp_r⟩ | 1, _ => ⟨m_r_1, fn_r, kp_r⟩ | 2, _ => ⟨m_r_2, fn_r, kp_r⟩ | 3, _ => ⟨m_r_3, fn_r, kp_r⟩ | 4, _ => ⟨m_r_4, fn_r, kp_r⟩ | 5, _ => ⟨m_r_5, fn_r, kp_r⟩ | 6, _ => ⟨m_r_6, fn_r, kp_r⟩ | 7, _ => ⟨m_r_7, fn_r, kp_r⟩ | n + 8, h => absurd h (by omega),
    b_rank := fun _ _ => b_r,
    F_k0 := F_k0,
    F_k1 := F_k1,
    F_k2 := F_k2,
    F_k3 := F_k3,
    F_k4 := F_k4,
    F_k5 := F_k5,
    F_k6 := F_k6,
    F_k7 := F_k7,
    F_r := F_r,
    F_n := F_n,
    F_n4 := F_n4,
    F_t := F_t,
    F_t0 := F_t0,
    F_t1 := F_t1,
    F_t2 := F_t2,
    F_t3 := F_t3,
    F_t7 := F_t7,
    F_i0 := F_i0,
    F_i1 := F_i1,
    F_i2 := F_i2,
    F_i3 := F_i3,
    F_i7 := F_i7,
    M_Matter := ⟨mk0, m_i0_0, fn_i0, kc0⟩,
    b_i0 := b_i0,
    na0 := na0,
    M_Change := ⟨mk1, m_i1_1, fn_i1, kc1⟩,
    b_i1 := b_i1,
    na1 := na1,
    M_Mend := ⟨mk2, m_i2_2, fn_i2, kc2⟩,
    b_i2 := b_i2,
    na2 := na2,
    M_PutOff := ⟨mk3, m_i3_3, fn_i3, kc3⟩,
    b_i3 := b_i3,
    na3 := na3,
    M_Point := ⟨mk7, m_i7_7, fn_i7, kc7⟩,
    b_i7 := b_i7,
    na7 := na7,
    mkn := fun k hk => by
      rcases hk with rfl | rfl | rfl
      · exact ⟨mk4, ni4, kc4⟩
      · exact ⟨mk5, ni5, kc5⟩
      · exact ⟨mk6, ni6, kc6⟩ }
  subst hP
  exact ⟨PySem.W.fnOf "law" "law" (defArgs s_law) (defBody s_law) (defScope s_law) .none kV_12 dc_12 pm_12 an_12 cd_12 ct_12, fun s v => .of_eq rfl, fun base _ _ => ok_law F_12 T⟩
theorem walk {l : PySem.W.OpenLaw} {q : Program} {loose : List Str} {XP : (Str → Option Value) → Heap → Prop} {YP : World → Heap → Prop} {d : DefRec} {K : Params → PySem.W.Frag} (hn : l.most = some 63) (hdf : d.params.defaults = [])
    (hY : ∀ (w : World) (h : Heap), YP w h → (K w.params).In h)
    (F : ∀ (w : World) (mg : Str → Option Value) (fa : Addr) (h : Heap), (K w.params).In h → h.Ns mainGlobals mg → mg d.name = some (.ref fa) →
      ∃ fd : FuncData, (∀ (s : Shared) (u : Value), BindsTo s fd ⟨[u], []⟩ [("_law_script", u)]) ∧ ∀ base : Heap, (K w.params).In base → base.Ns mainGlobals mg → FnOk l.prog w (K w.params) mg base CX0 6 fa fd ["_law_script"] (spLaw (K w.params))) :
    PySem.W.WalkO q loose XP YP l.row.toRowW d [] (fun f vs => PySem.call f vs) :=
  L2.walk_of (n := 63) (k := 6) (x := "_law_script") (CX := fun _ => CX0) (sp := fun w => spLaw (K w.params)) hn (by decide) hdf ⟨rfl, by decide, by decide, rfl⟩ hY F (fun _ _ a ns hl _ hS => ⟨a, ns, rfl, hS, hl, fun _ => rfl⟩) fun _ _ _ _ _ z => z
end My
def PySem.W.Fast.tw4252562849884616492 : Unit := ()
def PySem.W.Fast.tw1913361585482150795 : Unit := ()
def PySem.W.Fast.tw596856599417232641 : Unit := ()
def PySem.W.Fast.tw5604039872668015577 : Unit := ()
def PySem.W.Fast.tw18089684914422274532 : Unit := ()
def PySem.W.Fast.tw5432183867689112411 : Unit := ()
def PySem.W.Fast.tw15074309701375545828 : Unit := ()
def PySem.W.Fast.tw10432720813051266684 : Unit := ()
def PySem.W.Fast.tw3182739952282252487 : Unit := ()
def PySem.W.Fast.tw10622668773396368208 : Unit := ()
def PySem.W.Fast.tw8743191352925449467 : Unit := ()
def PySem.W.Fast.tw13275290833071084663 : Unit := ()
def PySem.W.Fast.tw9749815795151685758 : Unit := ()
def PySem.W.Fast.tw18163049583449888997 : Unit := ()
def PySem.W.Fast.tw14779122481534643585 : Unit := ()
def PySem.W.Fast.tw7174488286334097977 : Unit := ()
def PySem.W.Fast.tw9348847918908135188 : Unit := ()
def PySem.W.Fast.tw15937417412962912917 : Unit := ()
def PySem.W.Fast.tw10252003674234463265 : Unit := ()
def PySem.W.Fast.tw7956699148567102408 : Unit := ()
def PySem.W.Fast.tw1188810614046106128 : Unit := ()
def PySem.W.Fast.tw13473738436404099826 : Unit := ()
def PySem.W.Fast.tw8178080150121941043 : Unit := ()
def PySem.W.Fast.tw4641661816366675321 : Unit := ()
def PySem.W.Fast.tw18444951352513345418 : Unit := ()
def PySem.W.Fast.tw15555416363349940786 : Unit := ()
def PySem.W.Fast.tw824069279853783035 : Unit := ()
def PySem.W.Fast.tw13196586127147265590 : Unit := ()
def PySem.W.Fast.tw9937733430185611003 : Unit := ()
def PySem.W.Fast.tw14317898947071557198 : Unit := ()
def PySem.W.Fast.tw132158664221849586 : Unit := ()
def PySem.W.Fast.tw13950292450909222817 : Unit := ()
def PySem.W.Fast.tw7875358195057319443 : Unit := ()
def PySem.W.Fast.tw10654661136745759889 : Unit := ()
def PySem.W.Fast.tw12640711111997280984 : Unit := ()
def PySem.W.Fast.tw14640632817508004652 : Unit := ()
def PySem.W.Fast.tw18023369123542250832 : Unit := ()
def PySem.W.Fast.tw12996840244037032791 : Unit := ()
def PySem.W.Fast.tw13468731203141811270 : Unit := ()
def PySem.W.Fast.tw3355811309073236004 : Unit := ()
def PySem.W.Fast.tw12178433053716509554 : Unit := ()
def PySem.W.Fast.tw157811632555404432 : Unit := ()
def PySem.W.Fast.tw2133140505073849778 : Unit := ()
def PySem.W.Fast.tw17406184021557208876 : Unit := ()
def PySem.W.Fast.tw2125643874175276820 : Unit := ()
def PySem.W.Fast.tw10610384334477537473 : Unit := ()
def PySem.W.Fast.tw10775213753099017752 : Unit := ()
def PySem.W.Fast.tw1970923009161595869 : Unit := ()
def PySem.W.Fast.tw8757873979148581845 : Unit := ()
def PySem.W.Fast.tw4085890584032463436 : Unit := ()
def PySem.W.Fast.tw11767067323247200988 : Unit := ()
def PySem.W.Fast.tw16335949137758210235 : Unit := ()
def PySem.W.Fast.tw10552443969728785654 : Unit := ()
def PySem.W.Fast.tw6061461832068403576 : Unit := ()
def PySem.W.Fast.tw2929529737506253972 : Unit := ()
def PySem.W.Fast.tw9838898638479698300 : Unit := ()
def PySem.W.Fast.tw8215706604355441489 : Unit := ()
def PySem.W.Fast.tw17463140293200376564 : Unit := ()
def PySem.W.Fast.tw4044419970886110688 : Unit := ()
def PySem.W.Fast.tw2923082510079055377 : Unit := ()
def PySem.W.Fast.tw17884390923760219161 : Unit := ()
open PySem PySem.W PyProof.Rows
set_option maxRecDepth 100000 in
set_option maxHeartbeats 0 in
theorem PySem.Challenge.cw_moot_k10_kinds_in_order_holds : PySem.Challenge.rw_moot_k10_kinds_in_order.Holds := by
  w_on; o_law; k_head; (case hw => w_witness2)
  k_fill
  refine My.walk (l := PySem.Challenge.rw_moot_k10_kinds_in_order) rfl rfl (fun w h Y => PySem.W.kIn_of Y) ?F
  case F =>
    intro w mg fa h KX G hmg
    refine' My.all_mk KX G hmg rfl ?a_1 ?l_1 ?cc_1 ?kp_1 ?a_2 ?l_2 ?cc_2 ?kp_2 ?a_3 ?l_3 ?cc_3 ?kp_3 ?a_4 ?l_4 ?cc_4 ?kp_4 ?a_5 ?l_5 ?cc_5 ?kp_5 ?a_6 ?l_6 ?cc_6 ?kp_6 ?a_7 ?l_7 ?cc_7 ?kp_7 ?a_8 ?l_8 ?cc_8 ?kp_8 ?a_9 ?l_9 ?cc_9 ?kp_9 ?a_10 ?l_10 ?cc_10 ?kp_10 ?a_11 ?l_11 ?cc_11 ?kp_11 ?a_12 ?l_12 ?cc_12 ?kp_12 ?z1 ?z2 ?z3 ?z4 ?z5 ?z6 ?ak_CLOSED_BAR ?ac0 ?ac1 ?ac2 ?ac3 ?ac4 ?ac5 ?ac6 ?ac7 ?acm ?atb ?ltb ?ktb ?kas ?tlo ?rk0 ?rk1 ?rk2 ?rk3 ?rk4 ?rk5 ?rk6 ?rk7 ?pg0 ?hd0 ?po0 ?sa0 ?ha0 ?hm0 ?mk0 ?kc0 ?pg1 ?hd1 ?po1 ?sa1 ?ha1 ?hm1 ?mk1 ?kc1 ?pg2 ?hd2 ?po2 ?sa2 ?ha2 ?hm2 ?mk2 ?kc2 ?pg3 ?hd3 ?po3 ?sa3 ?ha3 ?hm3 ?mk3 ?kc3 ?pg4 ?hd4 ?po4 ?sa4 ?ha4 ?hm4 ?mk4 ?kc4 ?pg5 ?hd5 ?po5 ?sa5 ?ha5 ?hm5 ?mk5 ?kc5 ?pg6 ?hd6 ?po6 ?sa6 ?ha6 ?hm6 ?mk6 ?kc6 ?pg7 ?hd7 ?po7 ?sa7 ?ha7 ?hm7 ?mk7 ?kc7 ?hn ?htk ?m_k0_0 ?fn_k0 ?l_k0 ?cc_k0 ?kp_k0 ?m_k1_1 ?fn_k1 ?l_k1 ?cc_k1 ?kp_k1 ?m_k2_2 ?fn_k2 ?l_k2 ?cc_k2 ?kp_k2 ?m_k3_3 ?fn_k3 ?l_k3 ?cc_k3 ?kp_k3 ?m_k4_4 ?fn_k4 ?l_k4 ?cc_k4 ?kp_k4 ?m_k5_5 ?fn_k5 ?l_k5 ?cc_k5 ?kp_k5 ?m_k6_6 ?fn_k6 ?l_k6 ?cc_k6 ?kp_k6 ?m_k7_7 ?fn_k7 ?l_k7 ?cc_k7 ?kp_k7 ?m_r_0 ?m_r_1 ?m_r_2 ?m_r_3 ?m_r_4 ?m_r_5 ?m_r_6 ?m_r_7 ?fn_r ?l_r ?cc_r ?kp_r ?m_n_0 ?m_n_1 ?m_n_2 ?m_n_3 ?m_n_5 ?m_n_6 ?m_n_7 ?fn_n ?l_n ?cc_n ?kp_n ?m_n4_4 ?fn_n4 ?l_n4 ?cc_n4 ?kp_n4 ?m_t_4 ?m_t_5 ?m_t_6 ?fn_t ?l_t ?cc_t ?kp_t ?m_t0_0 ?fn_t0 ?l_t0 ?cc_t0 ?kp_t0 ?m_t1_1 ?fn_t1 ?l_t1 ?cc_t1 ?kp_t1 ?m_t2_2 ?fn_t2 ?l_t2 ?cc_t2 ?kp_t2 ?m_t3_3 ?fn_t3 ?l_t3 ?cc_t3 ?kp_t3 ?m_t7_7 ?fn_t7 ?l_t7 ?cc_t7 ?kp_t7 ?m_i0_0 ?fn_i0 ?l_i0 ?cc_i0 ?kp_i0 ?m_i1_1 ?fn_i1 ?l_i1 ?cc_i1 ?kp_i1 ?m_i2_2 ?fn_i2 ?l_i2 ?cc_i2 ?kp_i2 ?m_i3_3 ?fn_i3 ?l_i3 ?cc_i3 ?kp_i3 ?m_i7_7 ?fn_i7 ?l_i7 ?cc_i7 ?kp_i7 ?na0 ?na1 ?na2 ?na3 ?na7 ?ni4 ?ni5 ?ni6
    (case a_1 => k_is)
    (case l_1 => k_is)
    (case cc_1 => k_is)
    (case kp_1 => k_is)
    (case a_2 => k_is)
    (case l_2 => k_is)
    (case cc_2 => k_is)
    (case kp_2 => k_is)
    (case a_3 => k_is)
    (case l_3 => k_is)
    (case cc_3 => k_is)
    (case kp_3 => k_is)
    (case a_4 => k_is)
    (case l_4 => k_is)
    (case cc_4 => k_is)
    (case kp_4 => k_is)
    (case a_5 => k_is)
    (case l_5 => k_is)
    (case cc_5 => k_is)
    (case kp_5 => k_is)
    (case a_6 => k_is)
    (case l_6 => k_is)
    (case cc_6 => k_is)
    (case kp_6 => k_is)
    (case a_7 => k_is)
    (case l_7 => k_is)
    (case cc_7 => k_is)
    (case kp_7 => k_is)
    (case a_8 => k_is)
    (case l_8 => k_is)
    (case cc_8 => k_is)
    (case kp_8 => k_is)
    (case a_9 => k_is)
    (case l_9 => k_is)
    (case cc_9 => k_is)
    (case kp_9 => k_is)
    (case a_10 => k_is)
    (case l_10 => k_is)
    (case cc_10 => k_is)
    (case kp_10 => k_is)
    (case a_11 => k_is)
    (case l_11 => k_is)
    (case cc_11 => k_is)
    (case kp_11 => k_is)
    (case a_12 => k_is)
    (case l_12 => k_is)
    (case cc_12 => k_is)
    (case kp_12 => k_is)
    (case z1 => k_is)
    (case z2 => k_is)
    (case z3 => k_is)
    (case z4 => k_is)
    (case z5 => k_is)
    (case z6 => k_is)
    (case ak_CLOSED_BAR => k_is)
    (case ac0 => k_is)
    (case ac1 => k_is)
    (case ac2 => k_is)
    (case ac3 => k_is)
    (case ac4 => k_is)
    (case ac5 => k_is)
    (case ac6 => k_is)
    (case ac7 => k_is)
    (case acm => k_is)
    (case atb => k_is)
    (case ltb => k_is)
    (case ktb => k_keys)
    (case kas => rfl)
    (case tlo => rfl)
    (case rk0 => k_is)
    (case rk1 => k_is)
    (case rk2 => k_is)
    (case rk3 => k_is)
    (case rk4 => k_is)
    (case rk5 => k_is)
    (case rk6 => k_is)
    (case rk7 => k_is)
    (case pg0 => k_is)
    (case hd0 => k_is)
    (case po0 => k_is)
    (case sa0 => k_is)
    (case ha0 => k_is)
    (case hm0 => k_is)
    (case mk0 => k_is)
    (case kc0 => k_is)
    (case pg1 => k_is)
    (case hd1 => k_is)
    (case po1 => k_is)
    (case sa1 => k_is)
    (case ha1 => k_is)
    (case hm1 => k_is)
    (case mk1 => k_is)
    (case kc1 => k_is)
    (case pg2 => k_is)
    (case hd2 => k_is)
    (case po2 => k_is)
    (case sa2 => k_is)
    (case ha2 => k_is)
    (case hm2 => k_is)
    (case mk2 => k_is)
    (case kc2 => k_is)
    (case pg3 => k_is)
    (case hd3 => k_is)
    (case po3 => k_is)
    (case sa3 => k_is)
    (case ha3 => k_is)
    (case hm3 => k_is)
    (case mk3 => k_is)
    (case kc3 => k_is)
    (case pg4 => k_is)
    (case hd4 => k_is)
    (case po4 => k_is)
    (case sa4 => k_is)
    (case ha4 => k_is)
    (case hm4 => k_is)
    (case mk4 => k_is)
    (case kc4 => k_is)
    (case pg5 => k_is)
    (case hd5 => k_is)
    (case po5 => k_is)
    (case sa5 => k_is)
    (case ha5 => k_is)
    (case hm5 => k_is)
    (case mk5 => k_is)
    (case kc5 => k_is)
    (case pg6 => k_is)
    (case hd6 => k_is)
    (case po6 => k_is)
    (case sa6 => k_is)
    (case ha6 => k_is)
    (case hm6 => k_is)
    (case mk6 => k_is)
    (case kc6 => k_is)
    (case pg7 => k_is)
    (case hd7 => k_is)
    (case po7 => k_is)
    (case sa7 => k_is)
    (case ha7 => k_is)
    (case hm7 => k_is)
    (case mk7 => k_is)
    (case kc7 => k_is)
    (case hn => k_is)
    (case htk => k_is)
    (case m_k0_0 => k_is)
    (case fn_k0 => k_is)
    (case l_k0 => k_is)
    (case cc_k0 => k_is)
    (case kp_k0 => k_is)
    (case m_k1_1 => k_is)
    (case fn_k1 => k_is)
    (case l_k1 => k_is)
    (case cc_k1 => k_is)
    (case kp_k1 => k_is)
    (case m_k2_2 => k_is)
    (case fn_k2 => k_is)
    (case l_k2 => k_is)
    (case cc_k2 => k_is)
    (case kp_k2 => k_is)
    (case m_k3_3 => k_is)
    (case fn_k3 => k_is)
    (case l_k3 => k_is)
    (case cc_k3 => k_is)
    (case kp_k3 => k_is)
    (case m_k4_4 => k_is)
    (case fn_k4 => k_is)
    (case l_k4 => k_is)
    (case cc_k4 => k_is)
    (case kp_k4 => k_is)
    (case m_k5_5 => k_is)
    (case fn_k5 => k_is)
    (case l_k5 => k_is)
    (case cc_k5 => k_is)
    (case kp_k5 => k_is)
    (case m_k6_6 => k_is)
    (case fn_k6 => k_is)
    (case l_k6 => k_is)
    (case cc_k6 => k_is)
    (case kp_k6 => k_is)
    (case m_k7_7 => k_is)
    (case fn_k7 => k_is)
    (case l_k7 => k_is)
    (case cc_k7 => k_is)
    (case kp_k7 => k_is)
    (case m_r_0 => k_is)
    (case m_r_1 => k_is)
    (case m_r_2 => k_is)
    (case m_r_3 => k_is)
    (case m_r_4 => k_is)
    (case m_r_5 => k_is)
    (case m_r_6 => k_is)
    (case m_r_7 => k_is)
    (case fn_r => k_is)
    (case l_r => k_is)
    (case cc_r => k_is)
    (case kp_r => k_is)
    (case m_n_0 => k_is)
    (case m_n_1 => k_is)
    (case m_n_2 => k_is)
    (case m_n_3 => k_is)
    (case m_n_5 => k_is)
    (case m_n_6 => k_is)
    (case m_n_7 => k_is)
    (case fn_n => k_is)
    (case l_n => k_is)
    (case cc_n => k_is)
    (case kp_n => k_is)
    (case m_n4_4 => k_is)
    (case fn_n4 => k_is)
    (case l_n4 => k_is)
    (case cc_n4 => k_is)
    (case kp_n4 => k_is)
    (case m_t_4 => k_is)
    (case m_t_5 => k_is)
    (case m_t_6 => k_is)
    (case fn_t => k_is)
    (case l_t => k_is)
    (case cc_t => k_is)
    (case kp_t => k_is)
    (case m_t0_0 => k_is)
    (case fn_t0 => k_is)
    (case l_t0 => k_is)
    (case cc_t0 => k_is)
    (case kp_t0 => k_is)
    (case m_t1_1 => k_is)
    (case fn_t1 => k_is)
    (case l_t1 => k_is)
    (case cc_t1 => k_is)
    (case kp_t1 => k_is)
    (case m_t2_2 => k_is)
    (case fn_t2 => k_is)
    (case l_t2 => k_is)
    (case cc_t2 => k_is)
    (case kp_t2 => k_is)
    (case m_t3_3 => k_is)
    (case fn_t3 => k_is)
    (case l_t3 => k_is)
    (case cc_t3 => k_is)
    (case kp_t3 => k_is)
    (case m_t7_7 => k_is)
    (case fn_t7 => k_is)
    (case l_t7 => k_is)
    (case cc_t7 => k_is)
    (case kp_t7 => k_is)
    (case m_i0_0 => k_is)
    (case fn_i0 => k_is)
    (case l_i0 => k_is)
    (case cc_i0 => k_is)
    (case kp_i0 => k_is)
    (case m_i1_1 => k_is)
    (case fn_i1 => k_is)
    (case l_i1 => k_is)
    (case cc_i1 => k_is)
    (case kp_i1 => k_is)
    (case m_i2_2 => k_is)
    (case fn_i2 => k_is)
    (case l_i2 => k_is)
    (case cc_i2 => k_is)
    (case kp_i2 => k_is)
    (case m_i3_3 => k_is)
    (case fn_i3 => k_is)
    (case l_i3 => k_is)
    (case cc_i3 => k_is)
    (case kp_i3 => k_is)
    (case m_i7_7 => k_is)
    (case fn_i7 => k_is)
    (case l_i7 => k_is)
    (case cc_i7 => k_is)
    (case kp_i7 => k_is)
    (case na0 => k_is)
    (case na1 => k_is)
    (case na2 => k_is)
    (case na3 => k_is)
    (case na7 => k_is)
    (case ni4 => k_is)
    (case ni5 => k_is)
    (case ni6 => k_is)

