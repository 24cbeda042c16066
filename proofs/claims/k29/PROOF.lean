import PyProof.Rows.All
import Wide.All
import OpenK.AllK
import Wide.FinOn
import Lean
import PyProof.EqAt
import PyProof.EqKinds
import PyProof.TupleCall
import PySem.Challenge.RW_moot_k29_rows_refused
set_option Elab.async false
set_option linter.all false
set_option maxRecDepth 100000
/-! THE HAND LAYER, for ints, bools, texts, own classes, LISTS and tuples (index, slices, in, append, pop ..), calls, loops. Paste it whole ahead of your own text; what your proof does not reach may be deleted. -/
namespace L2
open PySem PySem.Spec PyProof.Rows

/-- a key: an int or a str -/
abbrev Key := Sum Int Str
def keyIs : Key → Value → Bool
  | .inl k, v => Value.isInt k v
  | .inr x, v => Value.isStrOf x v
def keyH (w : World) : Key → Int
  | .inl k => hashInt k
  | .inr x => hashStr w x
theorem keyIs_shape : ∀ {k : Key} {v : Value}, keyIs k v = true → (∃ i t, k = Sum.inl i ∧ v = Value.int i t) ∨ (∃ x t, k = Sum.inr x ∧ v = Value.str x t)
  | .inl i, v, h => by
    obtain ⟨t, e⟩ := Value.isInt_shape (k := i) (v := v) h
    exact .inl ⟨i, t, rfl, e⟩
  | .inr x, v, h => by
    obtain ⟨t, e⟩ := Value.isStrOf_shape (x := x) (v := v) h
    exact .inr ⟨x, t, rfl, e⟩
theorem keyIs_int (i : Int) (t : Tok) : keyIs (.inl i) (.int i t) = true := by simp [keyIs, Value.isInt]
theorem keyIs_str (x : Str) (t : Tok) : keyIs (.inr x) (.str x t) = true := by simp [keyIs, Value.isStrOf]
theorem key_ll (a b : Int) : decide ((Sum.inl a : Key) = Sum.inl b) = (a == b) := by
  by_cases e : a = b
  · subst e; simp
  · have h : ¬ (Sum.inl a : Key) = Sum.inl b := fun q => e (Sum.inl.inj q)
    rw [decide_eq_false h]
    exact (beq_eq_false_iff_ne.mpr e).symm
theorem key_rr (a b : Str) : decide ((Sum.inr a : Key) = Sum.inr b) = decide (a = b) := by
  by_cases e : a = b
  · subst e; simp
  · have h : ¬ (Sum.inr a : Key) = Sum.inr b := fun q => e (Sum.inr.inj q)
    rw [decide_eq_false h, decide_eq_false e]
theorem key_lr (a : Int) (b : Str) : decide ((Sum.inl a : Key) = Sum.inr b) = false := decide_eq_false (fun q => nomatch q)
theorem key_rl (a : Str) (b : Int) : decide ((Sum.inr a : Key) = Sum.inl b) = false := decide_eq_false (fun q => nomatch q)

def mixKind (prog : Program) (w : World) : PySem.KeyKind prog w Key where
  is := keyIs
  hash := keyH w
  inj := fun v a b ha hb => by
    rcases keyIs_shape ha with ⟨i, t, rfl, rfl⟩ | ⟨x, t, rfl, rfl⟩
    · rcases keyIs_shape hb with ⟨j, u, rfl, e⟩ | ⟨y, u, rfl, e⟩
      · injection e with e1 _; rw [e1]
      · exact nomatch e
    · rcases keyIs_shape hb with ⟨j, u, rfl, e⟩ | ⟨y, u, rfl, e⟩
      · exact nomatch e
      · injection e with e1 _; rw [e1]
  byValue := fun k v h => by
    rcases keyIs_shape h with ⟨i, t, rfl, rfl⟩ | ⟨x, t, rfl, rfl⟩ <;> rfl
  pyHash := fun hv h => by
    rcases keyIs_shape hv with ⟨i, t, rfl, rfl⟩ | ⟨x, t, rfl, rfl⟩
    · exact wpAny_pyHash_int h
    · exact wpAny_pyHash_str h
  eqBool := fun hu hv h => by
    rcases keyIs_shape hu with ⟨i, t, rfl, rfl⟩ | ⟨x, t, rfl, rfl⟩
    · rcases keyIs_shape hv with ⟨j, u, rfl, rfl⟩ | ⟨y, u, rfl, rfl⟩
      · rw [key_ll] at h; exact wpAny_eqBool_int h
      · rw [key_lr] at h; exact SeqAt.EqAt.int_str i t y u _ _ _ _ h
    · rcases keyIs_shape hv with ⟨j, u, rfl, rfl⟩ | ⟨y, u, rfl, rfl⟩
      · rw [key_rl] at h; exact SeqAt.EqAt.str_int x t j u _ _ _ _ h
      · rw [key_rr] at h; exact wpAny_eqBool_str h
  «strs» := fun k x t v h => by
    rcases keyIs_shape h with ⟨i, u, rfl, e⟩ | ⟨y, u, rfl, e⟩
    · exact nomatch e
    · injection e with e1 _
      subst e1
      cases v <;> rfl

theorem mixKind_is (prog : Program) (w : World) (k : Key) (v : Value) : (mixKind prog w).is k v = keyIs k v := rfl
theorem mixKind_int (prog : Program) (w : World) (i : Int) (t : Tok) : (mixKind prog w).is (.inl i) (.int i t) = true := keyIs_int i t
theorem mixKind_str (prog : Program) (w : World) (x : Str) (t : Tok) : (mixKind prog w).is (.inr x) (.str x t) = true := keyIs_str x t
end L2

namespace L2
open PySem PySem.Spec PyProof.Rows

/-- a value, without the heap -/
inductive V where
  | non | bl (b : Bool) | int (i : Int) | str (x : Str) | byt (b : Array UInt8) | flt (b : UInt64) | ref (a : Addr) | ty (n : String)
  deriving DecidableEq

def RelV : V → Value → Prop
  | .non, u => u = Value.none
  | .bl b, u => u = Value.bool b
  | .int i, u => ∃ t, u = Value.int i t
  | .str x, u => ∃ t, u = Value.str x t
  | .byt b, u => ∃ t, u = Value.bytes b t
  | .flt b, u => ∃ t, u = Value.float b t
  | .ref a, u => u = Value.ref a
  | .ty n, u => u = Value.type n

abbrev Vals : List V → List Value → Prop := Paired RelV
theorem Vals.length {xs : List V} {us : List Value} (r : Vals xs us) : xs.length = us.length := Paired.length r
theorem Vals.get : ∀ {xs : List V} {us : List Value} {i : Nat} {x : V}, Vals xs us → xs[i]? = some x → ∃ u, us[i]? = some u ∧ RelV x u
  | _, _, _, _, .nil, e => by simp at e
  | _, _, 0, _, .cons r _, e => by simp at e; subst e; exact ⟨_, rfl, r⟩
  | _, _, i + 1, x, .cons _ t, e => by
    obtain ⟨u, h1, h2⟩ := Vals.get (i := i) (x := x) t (by simpa using e)
    exact ⟨u, by simpa using h1, h2⟩
theorem Vals.set {x : V} {u : Value} (r : RelV x u) : ∀ {xs : List V} {us : List Value} (i : Nat), Vals xs us → Vals (xs.set i x) (us.set i u)
  | _, _, _, .nil => .nil
  | _, _, 0, .cons _ t => .cons r t
  | _, _, i + 1, .cons q t => .cons q (Vals.set r i t)
theorem Vals.append : ∀ {xs ys : List V} {us ws : List Value}, Vals xs us → Vals ys ws → Vals (xs ++ ys) (us ++ ws)
  | _, _, _, _, .nil, s => s
  | _, _, _, _, .cons r t, s => .cons r (Vals.append t s)
theorem Vals.take : ∀ {xs : List V} {us : List Value} (n : Nat), Vals xs us → Vals (xs.take n) (us.take n)
  | _, _, 0, _ => .nil
  | _, _, _ + 1, .nil => .nil
  | _, _, n + 1, .cons r t => .cons r (Vals.take n t)
theorem Vals.drop : ∀ {xs : List V} {us : List Value} (n : Nat), Vals xs us → Vals (xs.drop n) (us.drop n)
  | _, _, 0, r => r
  | _, _, _ + 1, .nil => .nil
  | _, _, n + 1, .cons _ t => Vals.drop n t
theorem Vals.none_of : ∀ {xs : List V} {us : List Value} {i : Nat}, Vals xs us → xs[i]? = none → us[i]? = none := fun {xs us i} r e => by
  have h1 := r.length
  have h2 : xs.length ≤ i := List.getElem?_eq_none_iff.mp e
  exact List.getElem?_eq_none_iff.mpr (by omega)

def RelO : Option V → Option Value → Prop
  | some v, some u => RelV v u
  | none, none => True
  | _, _ => False
def KV {κ : Type} : List (κ × V) → List (κ × Value) → Prop := Paired fun (p : κ × V) (q : κ × Value) => p.1 = q.1 ∧ RelV p.2 q.2

/-- a key of a dict (00_mix): an int or a text -/
def kV : Key → V
  | .inl i => .int i
  | .inr x => .str x

/-- what stands at a tracked address -/
inductive HO where
  /-- a list -/
  | lst (xs : List V)
  /-- a tuple (never changes) -/
  | tup (xs : List V)
  /-- a dict whose keys are ints and texts; one whose keys are tuples of ints and texts (the empty one is both) -/
  | dK (kvs : List (Key × V)) | dT (kvs : List (List Key × V))
  /-- a set of ints: its members, its size -/
  | set (S : Int → Bool) (n : Nat)
  /-- an instance of the class at C, its dict at dx, its attributes -/
  | ins (C dx : Addr) (fs : List (Str × V))
  /-- the dict of the instance at x -/
  | own (x : Addr)
  /-- the dict of an exception -/
  | xd (fs : List (Str × V))
  /-- a bound method, f of x -/
  | met (f x : Addr)
  /-- a range object lo, lo + 1, .. below hi -/
  | rng (lo hi : Int)
  /-- a thing that is known to the object (the script; a dict while a loop walks it): read, never written while it is so -/
  | frz (o : Obj) (u : HO)
  /-- a code object's table -/
  | tbl (ps : Array Value)
  /-- any other thing, by what is true of its one object (a def of one's own: SetO a S n := HO.ext fun h => ..) -/
  | ext (φ : Heap → Prop)

abbrev Hp := Addr → Option HO
def upd (H : Hp) (a : Addr) (o : HO) : Hp := fun b => if b = a then some o else H b
theorem upd_same {H : Hp} {a : Addr} {o : HO} : upd H a o a = some o := by unfold upd; rw [if_pos rfl]
theorem upd_ne {H : Hp} {a b : Addr} {o : HO} (h : b ≠ a) : upd H a o b = H b := by unfold upd; rw [if_neg h]
theorem upd_upd {H : Hp} {a : Addr} {o u : HO} : upd (upd H a o) a u = upd H a u := by
  funext b; unfold upd; split <;> rfl
/-- two objects of different content stand apart -/
theorem ne_of {H : Hp} {a b : Addr} {o u : HO} (h : H a = some o) (h' : H b = some u) (d : o ≠ u) : a ≠ b := by
  intro e; subst e; rw [h] at h'; exact d (Option.some.inj h')
theorem ne_of_none {H : Hp} {a b : Addr} {o : HO} (h : H a = some o) (h' : H b = none) : a ≠ b := by
  intro e; subst e; rw [h] at h'; cases h'

section
variable (P : Program) (w : World)
def ObjOk (H : Hp) (h : Heap) (a : Addr) : HO → Prop
  | .lst xs => xs.length ≤ sizeLine ∧ ∃ (its : List Value) (n : Nat), Vals xs its ∧ h.get? a = some { cls := .type "list", data := .seq its.toArray n }
  | .tup xs => xs.length ≤ sizeLine ∧ ∃ its : List Value, Vals xs its ∧ IsTup h a its.toArray
  | .dK kvs => kvs.length ≤ sizeLine ∧ (a == sysModules) = false ∧ ∃ vs, KV kvs vs ∧ h.DictOf (mixKind P w) a vs
  | .dT kvs => kvs.length ≤ sizeLine ∧ (a == sysModules) = false ∧ ∃ xs : List (List Key × Addr × Value),
      Paired (fun (p : List Key × V) (q : List Key × Addr × Value) => p.1 = q.1 ∧ H q.2.1 = some (.tup (p.1.map kV)) ∧ RelV p.2 q.2.2) kvs xs ∧
      ∃ o es ep, h.get? a = some o ∧ o.ExactDict ∧ o.data = .dict es ep ∧ es.toList = xs.map (entryOfKey (tupleKind (mixKind P w))) ∧ (xs.map (·.1)).Nodup
  | .set S n => h.SetOf (intKind P w) a S n
  | .ins C dx fs => H dx = some (.own a) ∧ fs.length ≤ 1000 ∧ dx ≠ a ∧ h.get? a = some (PySem.W.instObj C dx) ∧
      ∃ mA, h.Ns1 dx mA ∧ (∀ f, RelO (fs.lookup f) (mA f)) ∧ PySem.Within mA (fs.map (·.1))
  | .own _ => ∃ o, h.get? a = some o
  | .xd fs => ∃ mA, h.Ns1 a mA ∧ ∀ f, RelO (fs.lookup f) (mA f)
  | .rng lo hi => ∃ t u v, h.get? a = some { cls := .type "range", data := .fields #[.int lo t, .int hi u, .int 1 v] }
  | .frz o u => h.get? a = some o ∧ ObjOk H h a u
  | .tbl ps => h.get? a = some { cls := .none, data := .fields ps }
  | .met f x => h.get? a = some (PySem.W.methodObj (.ref f) (.ref x))
  | .ext φ => φ h ∧ (∃ o, h.get? a = some o) ∧ ∀ h1 h2 : Heap, φ h1 → (∀ o, h1.get? a = some o → h2.get? a = some o) → φ h2
/-- the abstract heap is held -/
def HOk (H : Hp) (h : Heap) : Prop := ∀ a o, H a = some o → ObjOk P w H h a o
end

section
variable {P : Program} {w : World} {H H' : Hp} {h h' : Heap} {a : Addr} {o : HO}
theorem ObjOk.lt (x : ObjOk P w H h a o) : a < h.objs.size := by
  cases o with
  | lst xs => obtain ⟨_, _, _, _, e⟩ := x; exact Heap.lt_size e
  | tup xs => obtain ⟨_, _, _, p⟩ := x; exact p.lt
  | dK kvs => obtain ⟨_, _, _, _, o, _, _, e, _⟩ := x; exact Heap.lt_size e
  | dT kvs => obtain ⟨_, _, _, _, o, _, _, e, _⟩ := x; exact Heap.lt_size e
  | set S n => obtain ⟨o, _, _, _, e, _⟩ := x; exact Heap.lt_size e
  | ins C dx fs => obtain ⟨_, _, _, e, _⟩ := x; exact Heap.lt_size e
  | own y => obtain ⟨_, e⟩ := x; exact Heap.lt_size e
  | xd fs => obtain ⟨_, ⟨_, _, _, e, _⟩, _⟩ := x; exact Heap.lt_size e
  | rng lo hi => obtain ⟨_, _, _, e⟩ := x; exact Heap.lt_size e
  | frz ob u => obtain ⟨e, _⟩ := x; exact Heap.lt_size e
  | tbl ps => exact Heap.lt_size (show h.get? a = some _ from x)
  | met f y => exact Heap.lt_size (show h.get? a = some _ from x)
  | ext φ => obtain ⟨_, ⟨_, e⟩, _⟩ := x; exact Heap.lt_size e
theorem Paired.mapP {α β : Type} {F G : α → β → Prop} : ∀ {l₁ : List α} {l₂ : List β}, Paired F l₁ l₂ → (∀ a b, F a b → G a b) → Paired G l₁ l₂
  | _, _, .nil, _ => .nil
  | _, _, .cons r t, f => .cons (f _ _ r) (Paired.mapP t f)
theorem Paired.imp' {α β : Type} {F G : α → β → Prop} (f : ∀ a b, F a b → G a b) {l₁ : List α} {l₂ : List β} (r : Paired F l₁ l₂) : Paired G l₁ l₂ := Paired.mapP r f
/-- what an object's description leans on: its own object, its own dict, the tuples -/
theorem ObjOk.stay (x : ObjOk P w H h a o) (k : ∀ b u, (b = a ∨ H b = some (.own a)) → h.get? b = some u → h'.get? b = some u)
    (ho : ∀ b, H b = some (.own a) → H' b = some (.own a)) (ht : ∀ b xs, H b = some (.tup xs) → H' b = some (.tup xs)) : ObjOk P w H' h' a o := by
  induction o with
  | lst xs => obtain ⟨z, its, n, r, e⟩ := x; exact ⟨z, its, n, r, k _ _ (.inl rfl) e⟩
  | tup xs => obtain ⟨z, its, r, ob, e, c⟩ := x; exact ⟨z, its, r, ob, k _ _ (.inl rfl) e, c⟩
  | dK kvs => obtain ⟨z, y, vs, r, ob, es, ep, e, c⟩ := x; exact ⟨z, y, vs, r, ob, es, ep, k _ _ (.inl rfl) e, c⟩
  | dT kvs =>
    obtain ⟨z, y, xs, r, ob, es, ep, e, c⟩ := x
    exact ⟨z, y, xs, Paired.mapP r fun p q z => ⟨z.1, ht _ _ z.2.1, z.2.2⟩, ob, es, ep, k _ _ (.inl rfl) e, c⟩
  | set S n => obtain ⟨ob, es, ep, t, e, c⟩ := x; exact ⟨ob, es, ep, t, k _ _ (.inl rfl) e, c⟩
  | ins C dx fs =>
    obtain ⟨d, z, ne, e, mA, ⟨od, es, ep, e2, c⟩, r⟩ := x
    exact ⟨ho _ d, z, ne, k _ _ (.inl rfl) e, mA, ⟨od, es, ep, k _ _ (.inr d) e2, c⟩, r⟩
  | own y => obtain ⟨ob, e⟩ := x; exact ⟨ob, k _ _ (.inl rfl) e⟩
  | xd fs => obtain ⟨mA, ⟨od, es, ep, e, c⟩, r⟩ := x; exact ⟨mA, ⟨od, es, ep, k _ _ (.inl rfl) e, c⟩, r⟩
  | rng lo hi => obtain ⟨t, u, v, e⟩ := x; exact ⟨t, u, v, k _ _ (.inl rfl) e⟩
  | frz ob u ih => obtain ⟨e, q⟩ := x; exact ⟨k _ _ (.inl rfl) e, ih q⟩
  | tbl ps =>
    have e : h.get? a = some { cls := .none, data := .fields ps } := x
    show h'.get? a = some { cls := .none, data := .fields ps }
    exact k a _ (.inl rfl) e
  | met f y =>
    have e : h.get? a = some (PySem.W.methodObj (.ref f) (.ref y)) := x
    show h'.get? a = some (PySem.W.methodObj (.ref f) (.ref y))
    exact k a _ (.inl rfl) e
  | ext φ => obtain ⟨p, ⟨o, e⟩, st⟩ := x; exact ⟨st _ _ p fun o q => k _ _ (.inl rfl) q, ⟨o, k _ _ (.inl rfl) e⟩, st⟩
theorem HOk.lt (x : HOk P w H h) (e : H a = some o) : a < h.objs.size := (x a o e).lt
theorem HOk.fresh (x : HOk P w H h) (e : h.objs.size ≤ a) : H a = none := by
  cases q : H a with
  | none => rfl
  | some u => exact absurd (Nat.lt_of_lt_of_le (x.lt q) e) (Nat.lt_irrefl _)
/-- every object of the heap is kept -/
theorem HOk.kept (x : HOk P w H h) (k : ∀ b u, h.get? b = some u → h'.get? b = some u) : HOk P w H h' := fun a o e =>
  (x a o e).stay (fun b u _ q => k b u q) (fun _ q => q) fun _ _ q => q
/-- a new object is laid and tracked -/
theorem HOk.laid (x : HOk P w H h) (k : ∀ b u, h.get? b = some u → h'.get? b = some u) (hp : h.objs.size ≤ a) (new : ObjOk P w (upd H a o) h' a o) : HOk P w (upd H a o) h' := fun b u e => by
  have hn := x.fresh hp
  by_cases hb : b = a
  · subst hb; rw [upd_same] at e; cases e; exact new
  · rw [upd_ne hb] at e
    exact (x b u e).stay (fun c v _ q => k c v q) (fun c q => by rw [upd_ne (ne_of_none q hn)]; exact q) fun c xs q => by rw [upd_ne (ne_of_none q hn)]; exact q
end

/-- what may be read as u: it is u, or a known u -/
def Rd (H : Hp) (a : Addr) (u : HO) : Prop := H a = some u ∨ ∃ o, H a = some (.frz o u)
theorem Rd.of {H : Hp} {a : Addr} {u : HO} (h : H a = some u) : Rd H a u := .inl h
theorem Rd.ok {P : Program} {w : World} {H : Hp} {h : Heap} {a : Addr} {u : HO} (r : Rd H a u) (x : HOk P w H h) : ObjOk P w H h a u := by
  rcases r with r | ⟨o, r⟩
  · exact x a u r
  · obtain ⟨_, q⟩ := x a _ r
    exact q
/-- what may be written -/
def Mut : Option HO → Prop
  | some (.lst _) => True
  | some (.dK _) => True
  | some (.dT _) => True
  | some (.set _ _) => True
  | some (.ins _ _ _) => True
  | some (.ext _) => True
  | _ => False
section
variable {P : Program} {w : World} {H : Hp} {h h' : Heap} {x e : Addr} {o' : HO}
/-- the object at e is changed: x itself, or the dict of the instance x -/
theorem HOk.write (ok : HOk P w H h) (mu : Mut (H x)) (he : e = x ∨ H e = some (.own x)) (k : ∀ b u, b ≠ e → h.get? b = some u → h'.get? b = some u) (heo : ∃ u, h'.get? e = some u)
    (new : ObjOk P w (upd H x o') h' x o') : HOk P w (upd H x o') h' := fun b u q => by
  have nown : ∀ c y, H c = some (.own y) → c ≠ x := fun c y r z => by subst z; rw [r] at mu; exact mu
  have ntup : ∀ c xs, H c = some (.tup xs) → c ≠ x := fun c xs r z => by subst z; rw [r] at mu; exact mu
  by_cases hb : b = x
  · subst hb; rw [upd_same] at q; cases q; exact new
  · rw [upd_ne hb] at q
    by_cases hbe : b = e
    · have q' : H b = some (.own x) := by
        rcases he with z | z
        · exact absurd (hbe.trans z) hb
        · rw [hbe]; exact z
      rw [q] at q'; cases q'
      obtain ⟨v, hv⟩ := heo
      exact ⟨v, by rw [hbe]; exact hv⟩
    · refine (ok b u q).stay (fun c v hc r => k c v ?_ r) (fun c r => by rw [upd_ne (nown c b r)]; exact r) fun c xs r => by rw [upd_ne (ntup c xs r)]; exact r
      rcases hc with rfl | hc
      · exact hbe
      · rintro rfl
        rcases he with z | z
        · exact nown c b hc z
        · rw [hc] at z; cases z; exact hb rfl
end

/-! ### kept unless tracked; of the frames at fs (the callers') the slots may change (an exception that passes writes there); of the records at ex (iterators) nothing is said -/
structure Un (fs ex : List Addr) (H H' : Hp) (h h' : Heap) : Prop where
  keep : ∀ b o, h.get? b = some o → H b = none → b ∉ fs → b ∉ ex → h'.get? b = some o
  slot : ∀ b o, h.get? b = some o → H b = none → b ∈ fs → b ∉ ex → ∃ sl, h'.get? b = some { o with slots := sl }
  free : ∀ b o, h.get? b = some o → H b = none → b ∉ ex → H' b = none
  there : ∀ b o, h.get? b = some o → b ∉ ex → ∃ o', h'.get? b = some o'
  tups : ∀ b xs, H b = some (.tup xs) → H' b = some (.tup xs)
  frzs : ∀ b o u, H b = some (.frz o u) → H' b = some (.frz o u)
  tbls : ∀ b ps, H b = some (.tbl ps) → ∃ more, H' b = some (.tbl (ps ++ more))
section
variable {fs fs' ex ex' : List Addr} {H H1 H2 : Hp} {h h1 h2 h' : Heap} {a x e : Addr} {o : HO}
theorem Un.any (u : Un fs ex H H1 h h1) {b : Addr} {ob : Obj} (q : h.get? b = some ob) (n : H b = none) (hx : b ∉ ex) : ∃ sl, h1.get? b = some { ob with slots := sl } := by
  by_cases hb : b ∈ fs
  · exact u.slot b ob q n hb hx
  · exact ⟨ob.slots, u.keep b ob q n hb hx⟩
theorem Un.trans (a : Un fs ex H H1 h h1) (b : Un fs ex H1 H2 h1 h2) : Un fs ex H H2 h h2 where
  keep := fun c ob q n hc hx => b.keep c ob (a.keep c ob q n hc hx) (a.free c ob q n hx) hc hx
  slot := fun c ob q n hc hx => by
    obtain ⟨sl, e1⟩ := a.slot c ob q n hc hx
    obtain ⟨sl', e2⟩ := b.slot c _ e1 (a.free c ob q n hx) hc hx
    exact ⟨sl', e2⟩
  free := fun c ob q n hx => by
    obtain ⟨o', e1⟩ := a.there c ob q hx
    exact b.free c o' e1 (a.free c ob q n hx) hx
  there := fun c ob q hx => by
    obtain ⟨o', e1⟩ := a.there c ob q hx
    exact b.there c o' e1 hx
  tups := fun c xs q => b.tups c xs (a.tups c xs q)
  frzs := fun c ob xs q => b.frzs c ob xs (a.frzs c ob xs q)
  tbls := fun c ps q => by
    obtain ⟨m1, e1⟩ := a.tbls c ps q
    obtain ⟨m2, e2⟩ := b.tbls c _ e1
    exact ⟨m1 ++ m2, by rw [e2, Array.append_assoc]⟩
theorem Un.kept (k : ∀ b u, h.get? b = some u → h'.get? b = some u) : Un fs ex H H h h' :=
  ⟨fun b ob q _ _ _ => k b ob q, fun b ob q _ _ _ => ⟨ob.slots, k b ob q⟩, fun _ _ _ n _ => n, fun b ob q _ => ⟨ob, k b ob q⟩, fun _ _ q => q, fun _ _ _ q => q, fun _ ps q => ⟨#[], by rw [q]; simp⟩⟩
theorem Un.refl : Un fs ex H H h h := Un.kept fun _ _ q => q
theorem Un.laid (k : ∀ b u, h.get? b = some u → h'.get? b = some u) (hp : h.objs.size ≤ a) (hn : H a = none) : Un fs ex H (upd H a o) h h' where
  keep := fun b u q _ _ _ => k b u q
  slot := fun b u q _ _ _ => ⟨u.slots, k b u q⟩
  free := fun b u q n _ => by rw [upd_ne (Nat.ne_of_lt (Nat.lt_of_lt_of_le (Heap.lt_size q) hp))]; exact n
  there := fun b u q _ => ⟨u, k b u q⟩
  tups := fun b xs q => by rw [upd_ne (ne_of_none q hn)]; exact q
  frzs := fun b u xs q => by rw [upd_ne (ne_of_none q hn)]; exact q
  tbls := fun b ps q => ⟨#[], by rw [upd_ne (ne_of_none q hn), q]; simp⟩
theorem Un.write (mu : Mut (H x)) (he : e = x ∨ H e = some (.own x)) (k : ∀ b u, b ≠ e → h.get? b = some u → h'.get? b = some u) (heo : ∃ u, h'.get? e = some u) : Un fs ex H (upd H x o) h h' := by
  have hx : ∀ b, H b = none → b ≠ x := fun b n z => by subst z; rw [n] at mu; exact mu
  have hb : ∀ b, H b = none → b ≠ e := fun b n z => by
    subst z
    rcases he with r | r
    · exact hx b n r
    · rw [n] at r; cases r
  have hm : ∀ b u, H b = some u → ¬ Mut (some u) → b ≠ x := fun b u q nm z => by subst z; rw [q] at mu; exact nm mu
  refine ⟨fun b u q n _ _ => k b u (hb b n) q, fun b u q n _ _ => ⟨u.slots, k b u (hb b n) q⟩, fun b u q n _ => by rw [upd_ne (hx b n)]; exact n, fun b u q _ => ?_,
    fun b xs q => by rw [upd_ne (hm b _ q fun z => z)]; exact q, fun b u xs q => by rw [upd_ne (hm b _ q fun z => z)]; exact q, fun b ps q => ⟨#[], by rw [upd_ne (hm b _ q fun z => z), q]; simp⟩⟩
  by_cases hbe : b = e
  · subst hbe; exact heo
  · exact ⟨u, k b u hbe q⟩
theorem Un.mono (u : Un fs ex H H1 h h1) (hs : ∀ b ∈ fs, b ∈ fs') (hx : ∀ b ∈ ex, b ∈ ex') : Un fs' ex' H H1 h h1 :=
  ⟨fun b ob q n hb he => u.keep b ob q n (fun z => hb (hs b z)) fun z => he (hx b z), fun _ _ q n _ he => u.any q n fun z => he (hx _ z), fun b ob q n he => u.free b ob q n fun z => he (hx b z), fun b ob q he => u.there b ob q fun z => he (hx b z), u.tups, u.frzs, u.tbls⟩
end

/-! ### the heap without what is tracked -/
def trk (h : Heap) (H : Hp) : List Addr := (List.range h.objs.size).filter fun a => (H a).isSome
def hidT (h : Heap) (H : Hp) : Heap := PySem.W.hideAll h (trk h H)
theorem hidT_size (h : Heap) (H : Hp) : (hidT h H).objs.size = h.objs.size := PySem.W.hideAll_size _ _
theorem hidT_get {h : Heap} {H : Hp} {b : Addr} {o : Obj} (e : h.get? b = some o) (n : H b = none) : (hidT h H).get? b = some o :=
  PySem.W.hideAll_get _ e fun hm => by
    have q : (H b).isSome = true := (List.mem_filter.mp hm).2
    rw [n] at q; simp at q
theorem of_hidT {h : Heap} {H : Hp} {b : Addr} {o : Obj} (e : (hidT h H).get? b = some o) : h.get? b = some o ∧ H b = none := by
  have e' : h.get? b = some o := PySem.W.of_hideAll (trk h H) e
  refine ⟨e', ?_⟩
  cases q : H b with
  | none => rfl
  | some x =>
    have hm : b ∈ trk h H := List.mem_filter.mpr ⟨List.mem_range.mpr (Heap.lt_size e'), by simp [q]⟩
    have z : (hidT h H).get? b = none := PySem.W.hideAll_none (trk h H) hm
    rw [z] at e; cases e

/-! ### OpenK's ledger, filled with every new object but one -/
def allNews (g h : Heap) (L : Addr) : List (Addr × Obj) := (List.range h.objs.size).filterMap fun a => if a = L ∨ (g.get? a).isSome = true then none else (h.get? a).map fun o => (a, o)
theorem mem_allNews {g h : Heap} {L a : Addr} {o : Obj} (h1 : a ≠ L) (h2 : g.get? a = none) (h3 : h.get? a = some o) : (a, o) ∈ allNews g h L :=
  List.mem_filterMap.mpr ⟨a, List.mem_range.mpr (Heap.lt_size h3), by simp [h1, h2, h3]⟩
theorem of_mem_allNews {g h : Heap} {L : Addr} {p : Addr × Obj} (hp : p ∈ allNews g h L) : p.1 ≠ L ∧ g.get? p.1 = none ∧ h.get? p.1 = some p.2 := by
  obtain ⟨b, _, e⟩ := List.mem_filterMap.mp hp
  split at e
  · cases e
  · rename_i hn
    cases q : h.get? b with
    | none => rw [q] at e; simp at e
    | some u =>
      rw [q] at e
      simp only [Option.map_some, Option.some.injEq] at e
      subst e
      refine ⟨fun z => hn (.inl z), ?_, q⟩
      show g.get? b = none
      cases r : g.get? b with
      | none => rfl
      | some v => exact (hn (.inr (by simp [r]))).elim
def rest (g h : Heap) (L d : Addr) : List (Addr × Obj) := (allNews g h L).filter fun p => decide (p.1 ≠ d)
theorem rest_ne {g h : Heap} {L d : Addr} : ∀ p ∈ rest g h L d, p.1 ≠ d := fun p hp => of_decide_eq_true (List.mem_filter.mp hp).2
theorem mem_rest {g h : Heap} {L d a : Addr} {o : Obj} (h1 : a ≠ L) (h2 : g.get? a = none) (h3 : h.get? a = some o) (h4 : a ≠ d) : (a, o) ∈ rest g h L d :=
  List.mem_filter.mpr ⟨mem_allNews h1 h2 h3, decide_eq_true h4⟩
theorem news_all {g h : Heap} {L : Addr} : News g L h (allNews g h L) := fun p hp => let ⟨a, b, c⟩ := of_mem_allNews hp; ⟨c, a, b⟩
theorem news_at {g h : Heap} {L d : Addr} {o : Obj} (h1 : d ≠ L) (h2 : g.get? d = none) (h3 : h.get? d = some o) : News g L h ((d, o) :: rest g h L d) := fun p hp => by
  rcases List.mem_cons.mp hp with rfl | hp
  · exact ⟨h3, h1, h2⟩
  · exact news_all p (List.mem_filter.mp hp).1
/-- behind a rule that changed d alone: all else but the frame is kept -/
theorem kept_of_news {g h h' : Heap} {L d : Addr} {m : Str → Option Value} (k : ∀ b o, g.get? b = some o → h.get? b = some o) (F : Fr g L h' m) (N : News g L h' (rest g h L d)) :
    ∀ b o, b ≠ L → b ≠ d → h.get? b = some o → h'.get? b = some o := fun b o h1 h2 e => by
  cases q : g.get? b with
  | some u =>
    have := k b u q
    rw [e] at this; cases this
    exact F.keep b _ q
  | none => exact (N (b, o) (mem_rest h1 q e h2)).1
end L2

namespace L2
open PySem PySem.Spec PyProof.Rows

/-- the module's facts, over the base: the heap at the law's entry without what is tracked there -/
structure Mod (K : PySem.W.Frag) (mg : Str → Option Value) (base : Heap) : Prop where
  kin : K.In base
  glob : base.Ns mainGlobals mg
  blt : ∃ mb, base.Ns builtinsNs mb ∧ ∀ x : Str, x ≠ "__name__" → mb x = bootBuiltins x
  nolimit : base.NoLimit

/-- the context: a def's body (or a comprehension's block) running. base: fixed through the whole law; s₀, H₀: the entry; outer: the frames whose slots others may change (a def's callers); stack: all frames that run;
   ex: iterators that were made ahead of the entry and are walked here (a comprehension's); fn: the names whose cells were made at the entry (a def: all; a comprehension's block: its own); calm: not within an except suite; pn: pins that every state bears; xe: what is wanted of an exception that leaves the code -/
structure Cx where
  prog : Program
  w : World
  K : PySem.W.Frag
  mg : Str → Option Value
  base : Heap
  A : Around
  N : List Str
  s₀ : Shared
  H₀ : Hp
  env : Env
  outer : List Env
  stack : List Env
  ex : List Addr
  fn : Str → Bool
  calm : Bool
  pn : List (Addr × Obj)
  xe : Value → Shared → Prop
/-- the callers' frames -/
def frs (l : List Env) : List Addr := l.filterMap (·.frame)
abbrev Cx.fs (X : Cx) : List Addr := frs X.outer

def Vis (sc : Scope) (x : Str) : Prop := sc.names.lookup x = some .local ∨ sc.names.lookup x = some .cell ∨ sc.names.lookup x = some .free
def Loc (sc : Scope) (x : Str) : Prop := sc.names.lookup x = some .local ∨ sc.names.lookup x = some .cell
def Look (env : Env) (h : Heap) (m : Str → Option Value) (x : Str) (u : Value) : Prop :=
  (env.kindOf x = some .local ∧ m x = some u) ∨ ((env.kindOf x = some .cell ∨ env.kindOf x = some .free) ∧ ∃ c, env.cells.lookup x = some c ∧ h.IsCell c (some u))

structure Cx.Ok (X : Cx) : Prop where
  mod : Mod X.K X.mg X.base
  kind : X.env.scope.kind = .function
  glob : X.env.globals = mainGlobals
  blt : X.env.builtins = builtinsNs
  above : X.s₀.heap.objs.size ≤ X.env.locals
  inj : ∀ x y c, X.env.cells.lookup x = some c → X.env.cells.lookup y = some c → x = y
  has : ∀ x, (X.env.kindOf x = some .cell ∨ X.env.kindOf x = some .free) → ∃ c, X.env.cells.lookup x = some c
  cab : ∀ x c, X.fn x = true → X.env.cells.lookup x = some c → X.s₀.heap.objs.size ≤ c
  hd : X.calm = true → X.A.handled = none
  frames : X.A.frames = some X.stack
  stk : X.stack = X.outer ∨ (X.stack = X.env :: X.outer ∧ X.env.frame = some X.env.locals)
  exf : ∀ b ∈ X.ex, b ≠ X.env.locals ∧ ∀ x c, X.env.cells.lookup x = some c → c ≠ b
  bs : ∀ b o, X.base.get? b = some o → X.s₀.heap.get? b = some o ∧ X.H₀ b = none
  bsz : X.base.objs.size ≤ X.s₀.heap.objs.size
  noex : ∀ b o, X.base.get? b = some o → b ∉ X.ex
  exfs : ∀ b ∈ X.ex, b ∉ X.fs
  funs : X.s₀.heap.FunFrames X.base X.outer
  frf : ∀ b ∈ X.fs, X.H₀ b = none

structure Inv (X : Cx) (pins : List (Addr × Obj)) (σ : List (Option V)) (H : Hp) (s : Shared) : Prop where
  ok : X.Ok
  os : s.os = X.s₀.os
  bare : AllBare s.gens
  base : Un X.fs X.ex X.H₀ H X.s₀.heap s.heap
  loc : ∃ m, s.heap.Ns X.env.locals m ∧ ∀ (i : Nat) (x : Str) (v : V), X.N[i]? = some x → σ[i]? = some (some v) → Vis X.env.scope x → ∃ u, RelV v u ∧ Look X.env s.heap m x u
  cell : ∀ x c, X.env.cells.lookup x = some c → ∃ v, s.heap.IsCell c v
  free : H X.env.locals = none
  freeC : ∀ x c, X.env.cells.lookup x = some c → H c = none
  pin : ∀ p ∈ X.pn ++ pins, s.heap.get? p.1 = some p.2 ∧ H p.1 = none ∧ p.1 ≠ X.env.locals ∧ p.1 ∉ X.fs ∧ ∀ v, p.2.data ≠ .cell v
  hok : HOk X.prog X.w H s.heap
  len : σ.length = X.N.length

section
variable {X : Cx} {pins : List (Addr × Obj)} {σ : List (Option V)} {H H' : Hp} {s : Shared} {h' : Heap}

theorem Cx.Ok.nofr (ok : X.Ok) {b : Addr} {o : Obj} (e : X.base.get? b = some o) : b ∉ X.fs := fun hb => by
  have := (ok.funs.mem hb).1
  rw [e] at this; cases this
theorem Inv.bs (I : Inv X pins σ H s) : ∀ b o, X.base.get? b = some o → s.heap.get? b = some o ∧ H b = none := fun b o e =>
  ⟨I.base.keep b o (I.ok.bs b o e).1 (I.ok.bs b o e).2 (I.ok.nofr e) (I.ok.noex b o e), I.base.free b o (I.ok.bs b o e).1 (I.ok.bs b o e).2 (I.ok.noex b o e)⟩
theorem Inv.bk (I : Inv X pins σ H s) : ∀ b o, X.base.get? b = some o → s.heap.get? b = some o := fun b o e => (I.bs b o e).1
theorem Inv.mod (I : Inv X pins σ H s) : Mod X.K X.mg X.base := I.ok.mod
theorem Inv.kIn (I : Inv X pins σ H s) : X.K.In s.heap := I.ok.mod.kin.keeps I.bk
theorem Inv.nolimit (I : Inv X pins σ H s) : s.heap.NoLimit := I.ok.mod.nolimit.keeps I.bk
/-- the frame over the base: for OpenK's rules (K.In X.base is I.mod.kin) -/
theorem Inv.fr (I : Inv X pins σ H s) : ∃ m, Fr X.base X.env.locals s.heap m :=
  let ⟨m, hn, _⟩ := I.loc
  ⟨m, hn, I.bk, Nat.le_trans I.ok.bsz I.ok.above⟩
theorem Inv.lt (I : Inv X pins σ H s) : X.env.locals < s.heap.objs.size := let ⟨_, hn, _⟩ := I.loc; hn.lt
theorem Inv.sz (I : Inv X pins σ H s) : X.s₀.heap.objs.size ≤ s.heap.objs.size := Nat.le_trans I.ok.above (Nat.le_of_lt I.lt)
theorem Inv.nofs (I : Inv X pins σ H s) {a : Addr} (h : s.heap.objs.size ≤ a) : a ∉ X.fs := fun hb => by
  obtain ⟨_, o, ho, _⟩ := I.ok.funs.mem hb
  exact absurd (Nat.lt_of_lt_of_le (Heap.lt_size ho) (Nat.le_trans I.sz h)) (Nat.lt_irrefl _)
theorem Inv.cne (I : Inv X pins σ H s) : ∀ x c, X.env.cells.lookup x = some c → c ≠ X.env.locals := fun x c e z => by
  obtain ⟨v, o, ho, hd⟩ := I.cell x c e
  obtain ⟨m, ⟨o', es, ep, ho', hd', _⟩, _⟩ := I.loc
  rw [z, ho'] at ho; cases ho; rw [hd'] at hd; cases hd
theorem Inv.funs (I : Inv X pins σ H s) : s.heap.FunFrames X.base X.outer := by
  have all : ∀ (l : List Env), (∀ b ∈ frs l, b ∈ X.fs) → X.s₀.heap.FunFrames X.base l → s.heap.FunFrames X.base l := by
    intro l
    induction l with
    | nil => intro _ _; trivial
    | cons env r ih =>
      intro hs hl
      obtain ⟨hk, ⟨L, o, hf, hn, ho, hd⟩, hr⟩ := hl
      have hL : L ∈ X.fs := hs L (by unfold frs; rw [List.filterMap_cons, hf]; exact List.mem_cons_self)
      obtain ⟨sl, e⟩ := I.base.slot L o ho (I.ok.frf L hL) hL fun z => I.ok.exfs L z hL
      exact ⟨hk, ⟨L, _, hf, hn, e, hd⟩, ih (fun b hb => hs b (by unfold frs; rw [List.filterMap_cons, hf]; exact List.mem_cons_of_mem _ hb)) hr⟩
  exact all X.outer (fun _ hb => hb) I.ok.funs

/-- the frames that run, for a call -/
theorem Inv.stack (I : Inv X pins σ H s) : s.heap.FunFrames X.base X.stack := by
  rcases I.ok.stk with e | ⟨e, hf⟩
  · rw [e]; exact I.funs
  · rw [e]
    obtain ⟨m, hn, _⟩ := I.loc
    refine .cons (by rw [I.ok.kind]; decide) hf hn ?_ I.funs
    exact Heap.get?_none_of_le (Nat.le_trans I.ok.bsz I.ok.above)
theorem Inv.stkSub (I : Inv X pins σ H s) : ∀ b ∈ frs X.stack, b ∈ X.env.locals :: X.fs := fun b hb => by
  rcases I.ok.stk with e | ⟨e, hf⟩
  · rw [e] at hb; exact List.mem_cons_of_mem _ hb
  · rw [e] at hb
    unfold frs at hb
    rw [List.filterMap_cons, hf] at hb
    exact hb
theorem Inv.stkFree (I : Inv X pins σ H s) : ∀ b ∈ frs X.stack, H b = none := fun b hb => by
  rcases List.mem_cons.mp (I.stkSub b hb) with e | hb
  · rw [e]; exact I.free
  · obtain ⟨_, o, ho, _⟩ := I.ok.funs.mem hb
    exact I.base.free b o ho (I.ok.frf b hb) fun z => I.ok.exfs b z hb

/-- THE STEP: the untracked objects but the frame and the records at ch are kept (the callers' frames up to slots), the frame's map is kept, the new abstract heap is held -/
theorem Inv.step {g' : Array GenState} {t' : Nat} {d' : Drawn} {ch : List Addr} (I : Inv X pins σ H s)
    (hch : ∀ b ∈ ch, (b ∈ X.ex ∨ X.s₀.heap.objs.size ≤ b) ∧ b ≠ X.env.locals ∧ (∀ x c, X.env.cells.lookup x = some c → c ≠ b) ∧ ∀ p ∈ X.pn ++ pins, p.1 ≠ b)
    (keep : ∀ b o, b ≠ X.env.locals → b ∉ X.fs → b ∉ ch → s.heap.get? b = some o → H b = none → h'.get? b = some o)
    (slot : ∀ b o, b ≠ X.env.locals → b ∈ X.fs → b ∉ ch → s.heap.get? b = some o → H b = none → ∃ sl, h'.get? b = some { o with slots := sl }) (free : ∀ b o, b ∉ ch → s.heap.get? b = some o → H b = none → H' b = none)
    (there : ∀ b o, b ∉ ch → s.heap.get? b = some o → ∃ o', h'.get? b = some o')
    (tups : ∀ b xs, H b = some (.tup xs) → H' b = some (.tup xs)) (frzs : ∀ b o u, H b = some (.frz o u) → H' b = some (.frz o u)) (tbls : ∀ b ps, H b = some (.tbl ps) → ∃ more, H' b = some (.tbl (ps ++ more)))
    (ns : ∀ m, s.heap.Ns X.env.locals m → h'.Ns X.env.locals m) (hok : HOk X.prog X.w H' h') (hg : AllBare g') :
    Inv X pins σ H' { s with heap := h', gens := g', drawn := d', toks := t' } := by
  have neL : ∀ b o, X.s₀.heap.get? b = some o → b ≠ X.env.locals := fun b o e => Nat.ne_of_lt (Nat.lt_of_lt_of_le (Heap.lt_size e) I.ok.above)
  have neC : ∀ b o, X.s₀.heap.get? b = some o → b ∉ X.ex → b ∉ ch := fun b o e hx hb => by
    rcases (hch b hb).1 with z | z
    · exact hx z
    · exact absurd (Nat.lt_of_lt_of_le (Heap.lt_size e) z) (Nat.lt_irrefl _)
  have cellK : ∀ x c, X.env.cells.lookup x = some c → ∀ v, s.heap.IsCell c v → h'.IsCell c v := fun x c e v ⟨o, ho, hd⟩ => by
    have nch : c ∉ ch := fun z => (hch c z).2.2.1 x c e rfl
    by_cases hc : c ∈ X.fs
    · obtain ⟨sl, q⟩ := slot c o (I.cne x c e) hc nch ho (I.freeC x c e)
      exact ⟨_, q, hd⟩
    · exact ⟨o, keep c o (I.cne x c e) hc nch ho (I.freeC x c e), hd⟩
  refine ⟨I.ok, I.os, hg, ⟨fun b o e n hb hx => ?_, fun b o e n hb hx => ?_, fun b o e n hx => ?_, fun b o e hx => ?_, fun b xs e => tups b xs (I.base.tups b xs e), fun b o xs e => frzs b o xs (I.base.frzs b o xs e), fun b ps e => ?_⟩, ?_, fun x c e => ?_, ?_, fun x c e => ?_, fun p hp => ?_, hok, I.len⟩
  · exact keep b o (neL b o e) hb (neC b o e hx) (I.base.keep b o e n hb hx) (I.base.free b o e n hx)
  · obtain ⟨sl, e1⟩ := I.base.slot b o e n hb hx
    obtain ⟨sl', e2⟩ := slot b _ (neL b o e) hb (neC b o e hx) e1 (I.base.free b o e n hx)
    exact ⟨sl', e2⟩
  · obtain ⟨o', e1⟩ := I.base.there b o e hx
    exact free b o' (neC b o e hx) e1 (I.base.free b o e n hx)
  · obtain ⟨o', e1⟩ := I.base.there b o e hx
    exact there b o' (neC b o e hx) e1
  · obtain ⟨m1, e1⟩ := I.base.tbls b ps e
    obtain ⟨m2, e2⟩ := tbls b _ e1
    exact ⟨m1 ++ m2, by rw [e2, Array.append_assoc]⟩
  · obtain ⟨m, hn, hl⟩ := I.loc
    refine ⟨m, ns m hn, fun i x v e1 e2 e3 => ?_⟩
    obtain ⟨u, r, l⟩ := hl i x v e1 e2 e3
    refine ⟨u, r, ?_⟩
    rcases l with l | ⟨k, c, e, z⟩
    · exact .inl l
    · exact .inr ⟨k, c, e, cellK x c e _ z⟩
  · obtain ⟨v, z⟩ := I.cell x c e
    exact ⟨v, cellK x c e v z⟩
  · obtain ⟨m, ⟨o, _, _, ho, _⟩, _⟩ := I.loc
    exact free _ o (fun z => (hch _ z).2.1 rfl) ho I.free
  · obtain ⟨v, o, ho, hd⟩ := I.cell x c e
    exact free c o (fun z => (hch c z).2.2.1 x c e rfl) ho (I.freeC x c e)
  · obtain ⟨e, n, ne, nf, d⟩ := I.pin p hp
    have nch : p.1 ∉ ch := fun z => (hch p.1 z).2.2.2 p hp rfl
    exact ⟨keep p.1 p.2 ne nf nch e n, free p.1 p.2 nch e n, ne, nf, d⟩
/-- .. where the frame's own object is kept too -/
theorem Inv.un {t' : Nat} (I : Inv X pins σ H s) (u : Un X.fs [] H H' s.heap h') (hok : HOk X.prog X.w H' h') : Inv X pins σ H' { s with heap := h', toks := t' } := by
  obtain ⟨m, ⟨o, es, ep, ho, r⟩, _⟩ := id I.loc
  obtain ⟨sl, hL⟩ := u.any ho I.free (by simp)
  exact I.step (g' := s.gens) (d' := s.drawn) (ch := []) (fun _ z => nomatch z) (fun b o _ hb _ e n => u.keep b o e n hb (by simp)) (fun b o _ hb _ e n => u.slot b o e n hb (by simp)) (fun b o _ e n => u.free b o e n (by simp)) (fun b o _ e => u.there b o e (by simp)) u.tups u.frzs u.tbls (fun m' hm => by
    obtain ⟨o', es', ep', ho', r'⟩ := hm
    rw [ho] at ho'; cases ho'
    exact ⟨_, es', ep', hL, r'⟩) hok I.bare
/-- behind a call (or a comprehension's block): the slots of this frame may have changed too, the records at ch may have turned -/
theorem Inv.call {g' : Array GenState} {t' : Nat} {d' : Drawn} {ch : List Addr} (I : Inv X pins σ H s) (u : Un (frs X.stack) ch H H' s.heap h') (hok : HOk X.prog X.w H' h') (hg : AllBare g')
    (hch : ∀ b ∈ ch, (b ∈ X.ex ∨ X.s₀.heap.objs.size ≤ b) ∧ b ≠ X.env.locals ∧ (∀ x c, X.env.cells.lookup x = some c → c ≠ b) ∧ ∀ p ∈ X.pn ++ pins, p.1 ≠ b) :
    Inv X pins σ H' { s with heap := h', gens := g', drawn := d', toks := t' } := by
  obtain ⟨m, ⟨o, es, ep, ho, r⟩, _⟩ := id I.loc
  obtain ⟨sl, hL⟩ := u.any ho I.free fun z => (hch _ z).2.1 rfl
  exact I.step (ch := ch) hch (fun b o hL hb hc e n => u.keep b o e n (fun z => (List.mem_cons.mp (I.stkSub b z)).elim hL hb) hc) (fun b o _ _ hc e n => u.any e n hc) (fun b o hc e n => u.free b o e n hc) (fun b o hc e => u.there b o e hc) u.tups u.frzs u.tbls (fun m' hm => by
    obtain ⟨o', es', ep', ho', r'⟩ := hm
    rw [ho] at ho'; cases ho'
    exact ⟨_, es', ep', hL, r'⟩) hok hg
/-- an untracked record of ours (an iterator) has turned -/
theorem Inv.turned {t' : Nat} {it : Addr} (I : Inv X pins σ H s) (k : ∀ b o, b ≠ it → s.heap.get? b = some o → h'.get? b = some o) (hn : H it = none) (hL : it ≠ X.env.locals)
    (h1 : it ∈ X.ex ∨ X.s₀.heap.objs.size ≤ it) (h2 : ∀ x c, X.env.cells.lookup x = some c → c ≠ it) (h3 : ∀ p ∈ X.pn ++ pins, p.1 ≠ it) : Inv X pins σ H { s with heap := h', toks := t' } := by
  have nit : ∀ b u, H b = some u → b ≠ it := fun b u e z => by rw [z, hn] at e; cases e
  refine I.step (g' := s.gens) (d' := s.drawn) (ch := [it]) (fun b hb => ?_) (fun b o _ _ hc e _ => k b o (fun z => hc (by simp [z])) e) (fun b o _ _ hc e _ => ⟨o.slots, k b o (fun z => hc (by simp [z])) e⟩) (fun _ _ _ _ n => n)
    (fun b o hc e => ⟨o, k b o (fun z => hc (by simp [z])) e⟩) (fun _ _ e => e) (fun _ _ _ e => e) (fun b ps e => ⟨#[], by rw [e]; simp⟩) (fun m hm => ?_) (fun b u e => ?_) I.bare
  · have e : b = it := by simpa using hb
    subst e
    exact ⟨h1, hL, h2, h3⟩
  · obtain ⟨o, es, ep, ho, r⟩ := hm
    exact ⟨o, es, ep, k _ o (Ne.symm hL) ho, r⟩
  · refine (I.hok b u e).stay (fun c v hc q => k c v ?_ q) (fun _ q => q) fun _ _ q => q
    rcases hc with z | z
    · rw [z]; exact nit b u e
    · exact nit c _ z
theorem Inv.tok (I : Inv X pins σ H s) (t : Nat) : Inv X pins σ H { s with toks := t } := I.un (h' := s.heap) (t' := t) Un.refl I.hok
/-- all objects kept -/
theorem Inv.kept {t' : Nat} (I : Inv X pins σ H s) (k : ∀ b u, s.heap.get? b = some u → h'.get? b = some u) : Inv X pins σ H { s with heap := h', toks := t' } := I.un (Un.kept k) (I.hok.kept k)
/-- a new object laid and tracked -/
theorem Inv.laid {a : Addr} {o : HO} {t' : Nat} (I : Inv X pins σ H s) (k : ∀ b u, s.heap.get? b = some u → h'.get? b = some u) (hp : s.heap.objs.size ≤ a) (new : ObjOk X.prog X.w (upd H a o) h' a o) :
    Inv X pins σ (upd H a o) { s with heap := h', toks := t' } := I.un (Un.laid k hp (I.hok.fresh hp)) (I.hok.laid k hp new)
/-- an object written -/
theorem Inv.write {x e : Addr} {o : HO} {t' : Nat} (I : Inv X pins σ H s) (mu : Mut (H x)) (he : e = x ∨ H e = some (.own x)) (k : ∀ b u, b ≠ e → s.heap.get? b = some u → h'.get? b = some u) (heo : ∃ u, h'.get? e = some u)
    (new : ObjOk X.prog X.w (upd H x o) h' x o) : Inv X pins σ (upd H x o) { s with heap := h', toks := t' } := I.un (Un.write mu he k heo) (I.hok.write mu he k heo new)
/-- forgetting slots, pins -/
theorem Inv.weak {σ' : List (Option V)} (I : Inv X pins σ H s) (hl : σ'.length = σ.length) (w : ∀ (i : Nat) v, σ'[i]? = some (some v) → σ[i]? = some (some v)) : Inv X pins σ' H s :=
  ⟨I.ok, I.os, I.bare, I.base, let ⟨m, hn, hl'⟩ := I.loc; ⟨m, hn, fun i x v e1 e2 e3 => hl' i x v e1 (w i v e2) e3⟩, I.cell, I.free, I.freeC, I.pin, I.hok, hl.trans I.len⟩
theorem Inv.pins_of {pins' : List (Addr × Obj)} (I : Inv X pins σ H s) (h : ∀ p ∈ pins', s.heap.get? p.1 = some p.2 ∧ H p.1 = none ∧ p.1 ≠ X.env.locals ∧ p.1 ∉ X.fs ∧ ∀ v, p.2.data ≠ .cell v) : Inv X pins' σ H s :=
  ⟨I.ok, I.os, I.bare, I.base, I.loc, I.cell, I.free, I.freeC, fun p hp => (List.mem_append.mp hp).elim (fun z => I.pin p (List.mem_append_left _ z)) (h p), I.hok, I.len⟩

theorem nodup_ix {N : List Str} (hN : N.Nodup) {i j : Nat} {x : Str} (a : N[i]? = some x) (b : N[j]? = some x) : i = j := by
  obtain ⟨h1, e1⟩ := List.getElem?_eq_some_iff.mp a
  obtain ⟨h2, e2⟩ := List.getElem?_eq_some_iff.mp b
  exact (List.getElem_inj hN).mp (e1.trans e2.symm)

/-- a name is stored; what changed -/
theorem store_ok2 {M : Model} {A : Around} {E : Value → Shared → Prop} {i : Nat} {x : Str} {v : V} {u : Value} {Q : Unit → Shared → Prop} (I : Inv X pins σ H s) (hN : X.N.Nodup) (hi : X.N[i]? = some x) (hx : Loc X.env.scope x) (r : RelV v u)
    (h : ∀ s', Inv X pins (σ.set i (some v)) H s' → (∃ a, Heap.SameBut a s.heap s'.heap ∧ (a = X.env.locals ∨ X.env.cells.lookup x = some a)) → Q () s') (hf : X.fn x = true ∨ X.env.scope.names.lookup x = some .local := by first | exact .inl rfl | exact .inr rfl | assumption) : wpAny M A (storeName X.env x u) Q E s := by
  obtain ⟨m, hn, hl⟩ := id I.loc
  have hcls : (X.env.scope.kind == .class || (X.env.scope.kind == .module && X.env.locals != X.env.globals)) = false := by rw [I.ok.kind]; rfl
  have hiσ : i < σ.length := by rw [I.len]; exact (List.getElem?_eq_some_iff.mp hi).1
  have cne := I.cne
  have tracked : ∀ {a : Addr} {h' : Heap}, (∃ o, s.heap.get? a = some o ∧ H a = none) → Heap.SameBut a s.heap h' → HOk X.prog X.w H h' := fun {a h'} ha hs b ob e => by
    obtain ⟨_, _, hfree⟩ := ha
    refine (I.hok b ob e).stay (fun c w' hc q => (hs.2 c ?_).trans q) (fun _ q => q) fun _ _ q => q
    rintro rfl
    rcases hc with rfl | hc
    · rw [hfree] at e; cases e
    · rw [hfree] at hc; cases hc
  rcases hx with hk | hk
  · refine wpAny_storeName_local hk hn (fun h' hn' hs => ?_) hcls
    obtain ⟨oL, _, _, hoL, _⟩ := id hn
    refine h _ ⟨I.ok, I.os, I.bare, ⟨fun b o e n hb hx => ?_, fun b o e n hb hx => ?_, I.base.free, fun b o e hx => ?_, I.base.tups, I.base.frzs, I.base.tbls⟩, ⟨_, hn', fun j y v' e1 e2 e3 => ?_⟩, fun y c e => ?_, I.free, I.freeC, fun p hp => ?_, tracked ⟨oL, hoL, I.free⟩ hs, by simpa using I.len⟩ ⟨_, hs, .inl rfl⟩
    · exact (hs.2 b (Nat.ne_of_lt (Nat.lt_of_lt_of_le (Heap.lt_size e) I.ok.above))).trans (I.base.keep b o e n hb hx)
    · obtain ⟨sl, e1⟩ := I.base.slot b o e n hb hx
      exact ⟨sl, (hs.2 b (Nat.ne_of_lt (Nat.lt_of_lt_of_le (Heap.lt_size e) I.ok.above))).trans e1⟩
    · obtain ⟨o', e1⟩ := I.base.there b o e hx
      exact ⟨o', (hs.2 b (Nat.ne_of_lt (Nat.lt_of_lt_of_le (Heap.lt_size e) I.ok.above))).trans e1⟩
    · by_cases hj : j = i
      · subst hj
        rw [hi] at e1; cases e1
        rw [List.getElem?_set_self hiσ] at e2
        cases e2
        exact ⟨u, r, .inl ⟨hk, by simp⟩⟩
      · rw [List.getElem?_set_ne (Ne.symm hj)] at e2
        obtain ⟨u', r', q⟩ := hl j y v' e1 e2 e3
        refine ⟨u', r', ?_⟩
        rcases q with ⟨k, e⟩ | ⟨k, c, e, z⟩
        · refine .inl ⟨k, ?_⟩
          have : y ≠ x := fun e => hj (nodup_ix hN e1 (e ▸ hi))
          simp [this, e]
        · exact .inr ⟨k, c, e, z.sameBut hs (cne y c e)⟩
    · obtain ⟨w', z⟩ := I.cell y c e
      exact ⟨w', z.sameBut hs (cne y c e)⟩
    · obtain ⟨e, n, ne, nf, d⟩ := I.pin p hp
      exact ⟨(hs.2 p.1 ne).trans e, n, ne, nf, d⟩
  · have hfn : X.fn x = true := by
      rcases hf with z | z
      · exact z
      · rw [z] at hk; cases hk
    obtain ⟨c, hc⟩ := I.ok.has x (.inl hk)
    obtain ⟨w', z⟩ := I.cell x c hc
    refine wpAny_storeName_cell I.ok.kind hk hc z (fun h' hc' hs => ?_)
    obtain ⟨oc, hoc, hocd⟩ := id z
    refine h { s with heap := h' } ⟨I.ok, I.os, I.bare, ⟨fun b o e n hb hx => ?_, fun b o e n hb hx => ?_, I.base.free, fun b o e hx => ?_, I.base.tups, I.base.frzs, I.base.tbls⟩, ⟨m, hn.sameBut hs (Ne.symm (cne x c hc)), fun j y v' e1 e2 e3 => ?_⟩, fun y c' e => ?_, I.free, I.freeC, fun p hp => ?_, tracked ⟨oc, hoc, I.freeC x c hc⟩ hs, by simpa using I.len⟩ ⟨c, hs, .inr hc⟩
    · exact (hs.2 b (Nat.ne_of_lt (Nat.lt_of_lt_of_le (Heap.lt_size e) (I.ok.cab x c hfn hc)))).trans (I.base.keep b o e n hb hx)
    · obtain ⟨sl, e1⟩ := I.base.slot b o e n hb hx
      exact ⟨sl, (hs.2 b (Nat.ne_of_lt (Nat.lt_of_lt_of_le (Heap.lt_size e) (I.ok.cab x c hfn hc)))).trans e1⟩
    · obtain ⟨o', e1⟩ := I.base.there b o e hx
      exact ⟨o', (hs.2 b (Nat.ne_of_lt (Nat.lt_of_lt_of_le (Heap.lt_size e) (I.ok.cab x c hfn hc)))).trans e1⟩
    · by_cases hj : j = i
      · subst hj
        rw [hi] at e1; cases e1
        rw [List.getElem?_set_self hiσ] at e2
        cases e2
        exact ⟨u, r, .inr ⟨.inl hk, c, hc, hc'⟩⟩
      · rw [List.getElem?_set_ne (Ne.symm hj)] at e2
        obtain ⟨u', r', q⟩ := hl j y v' e1 e2 e3
        refine ⟨u', r', ?_⟩
        rcases q with q | ⟨k, c', e, z'⟩
        · exact .inl q
        · refine .inr ⟨k, c', e, z'.sameBut hs ?_⟩
          rintro rfl
          exact hj (nodup_ix hN e1 (I.ok.inj _ _ _ e hc ▸ hi))
    · by_cases hcc : c' = c
      · subst hcc; exact ⟨_, hc'⟩
      · obtain ⟨w2, z2⟩ := I.cell y c' e
        exact ⟨w2, z2.sameBut hs hcc⟩
    · obtain ⟨e, n, ne, nf, d⟩ := I.pin p hp
      refine ⟨(hs.2 p.1 ?_).trans e, n, ne, nf, d⟩
      intro q
      rw [q, hoc] at e
      have q' : oc = p.2 := Option.some.inj e
      exact d w' (by rw [← q']; exact hocd)
theorem store_ok {M : Model} {A : Around} {E : Value → Shared → Prop} {i : Nat} {x : Str} {v : V} {u : Value} {Q : Unit → Shared → Prop} (I : Inv X pins σ H s) (hN : X.N.Nodup) (hi : X.N[i]? = some x) (hx : Loc X.env.scope x) (r : RelV v u)
    (h : ∀ s', Inv X pins (σ.set i (some v)) H s' → Q () s') (hf : X.fn x = true ∨ X.env.scope.names.lookup x = some .local := by first | exact .inl rfl | exact .inr rfl | assumption) : wpAny M A (storeName X.env x u) Q E s :=
  store_ok2 I hN hi hx r (fun s' I' _ => h s' I') hf
/-- behind a call or a block, the state as it is -/
theorem Inv.call' {s' : Shared} {ch : List Addr} (I : Inv X pins σ H s) (ho : s'.os = s.os) (u : Un (frs X.stack) ch H H' s.heap s'.heap) (hok : HOk X.prog X.w H' s'.heap) (hg : AllBare s'.gens)
    (hch : ∀ b ∈ ch, (b ∈ X.ex ∨ X.s₀.heap.objs.size ≤ b) ∧ b ≠ X.env.locals ∧ (∀ x c, X.env.cells.lookup x = some c → c ≠ b) ∧ ∀ p ∈ X.pn ++ pins, p.1 ≠ b) : Inv X pins σ H' s' := by
  obtain ⟨h', g', d', t', o'⟩ := s'
  have e : o' = s.os := ho
  subst e
  exact I.call (g' := g') (t' := t') (d' := d') u hok hg hch
end

/-! ### the judgements -/
/-- an exception: its class, its own dict's address (where it has one), the abstract heap behind it -/
abbrev XK := Value → Option Addr → Hp → Prop
abbrev St := List (Option V)
abbrev VK := V → Hp → Prop
/-- an expression's reading; a test's; an argument list's -/
abbrev TE := St → Hp → VK → Prop
abbrev TT := St → Hp → (Bool → Hp → Prop) → Prop
abbrev TA := St → Hp → (List V → Hp → Prop) → Prop
/-- what is wanted behind a statement -/
structure Ends where
  nx : St → Hp → Prop
  rt : VK
  bk : St → Hp → Prop := fun _ _ => False
  ct : St → Hp → Prop := fun _ _ => False
abbrev TS := Ends → St → Hp → Prop

def EP (X : Cx) (pins : List (Addr × Obj)) (σ : St) (Q : VK) (u : Value) (s' : Shared) : Prop := ∃ v H', Inv X pins σ H' s' ∧ RelV v u ∧ Q v H'
def TP (X : Cx) (pins : List (Addr × Obj)) (σ : St) (Q : Bool → Hp → Prop) (b : Bool) (s' : Shared) : Prop := ∃ H', Inv X pins σ H' s' ∧ Q b H'
def AP (X : Cx) (pins : List (Addr × Obj)) (σ : St) (Q : List V → Hp → Prop) (us : List Value) (s' : Shared) : Prop := ∃ vs H', Inv X pins σ H' s' ∧ Vals vs us ∧ Q vs H'
def SP (X : Cx) (pins : List (Addr × Obj)) (D : Ends) (f : Flow) (s' : Shared) : Prop :=
  match f with
  | .next => ∃ σ' H', Inv X pins σ' H' s' ∧ D.nx σ' H'
  | .brk => ∃ σ' H', Inv X pins σ' H' s' ∧ D.bk σ' H'
  | .cont => ∃ σ' H', Inv X pins σ' H' s' ∧ D.ct σ' H'
  | .ret u => ∃ v σ' H', Inv X pins σ' H' s' ∧ RelV v u ∧ D.rt v H'

def PE (X : Cx) (e : Expr) (t : TE) : Prop :=
  ∀ (pins : List (Addr × Obj)) (s : Shared) (σ : St) (H : Hp) (Q : VK), Inv X pins σ H s → t σ H Q → wpAny (model X.prog X.w) X.A (eval e X.env) (EP X pins σ Q) X.xe s
def PT (X : Cx) (e : Expr) (t : TT) : Prop :=
  ∀ (pins : List (Addr × Obj)) (s : Shared) (σ : St) (H : Hp) (Q : Bool → Hp → Prop), Inv X pins σ H s → t σ H Q → wpAny (model X.prog X.w) X.A (isTrue e X.env (eval e X.env)) (TP X pins σ Q) X.xe s
/-- a test whatever its 'whole' is (and, or) -/
def PW (X : Cx) (e : Expr) (t : TT) : Prop :=
  ∀ (whole : Sem Value) (pins : List (Addr × Obj)) (s : Shared) (σ : St) (H : Hp) (Q : Bool → Hp → Prop), Inv X pins σ H s → t σ H Q → wpAny (model X.prog X.w) X.A (isTrue e X.env whole) (TP X pins σ Q) X.xe s
theorem PW.pt {X : Cx} {e : Expr} {t : TT} (h : PW X e t) : PT X e t := h _
/-- an argument list (no star), from the left -/
def PA (X : Cx) (es : List Expr) (t : TA) : Prop :=
  ∀ (pos : Pos) (pins : List (Addr × Obj)) (s : Shared) (σ : St) (H : Hp) (Q : List V → Hp → Prop), Inv X pins σ H s → t σ H Q → wpAny (model X.prog X.w) X.A (spliced (backTo pos (starEach es X.env))) (AP X pins σ Q) X.xe s
def PS (X : Cx) (st : Stmt) (t : TS) : Prop :=
  ∀ (pins : List (Addr × Obj)) (s : Shared) (σ : St) (H : Hp) (D : Ends), Inv X pins σ H s → t D σ H → wpAny (model X.prog X.w) X.A (exec st X.env) (SP X pins D) X.xe s
def PSs (X : Cx) (st : List Stmt) (t : TS) : Prop :=
  ∀ (pins : List (Addr × Obj)) (s : Shared) (σ : St) (H : Hp) (D : Ends), Inv X pins σ H s → t D σ H → wpAny (model X.prog X.w) X.A (execs st X.env) (SP X pins D) X.xe s
/-- weaken the end -/
theorem thn {α : Type} {t : Sem α} {Q Q' : α → Shared → Prop} {M : Model} {A : Around} {E : Value → Shared → Prop} {s : Shared} (h : wpAny M A t Q E s) (hQ : ∀ a s, Q a s → Q' a s) : wpAny M A t Q' E s := wpAny_mono h hQ fun _ _ x => x
end L2

namespace L2
open PySem PySem.Spec PyProof.Rows
section
variable {X : Cx}

/-- two expressions in a row -/
theorem bin {a b : Expr} {ta tb : TE} (ha : PE X a ta) (hb : PE X b tb) {pins : List (Addr × Obj)} {s : Shared} {σ : St} {H : Hp} {R : V → V → Hp → Prop} (I : Inv X pins σ H s) (h : ta σ H fun x H1 => tb σ H1 fun y H2 => R x y H2)
    {α : Type} {Q : α → Shared → Prop} {f : Value → Value → Sem α}
    (hf : ∀ v u s2 x y H2, Inv X pins σ H2 s2 → RelV x v → RelV y u → R x y H2 → wpAny (model X.prog X.w) X.A (f v u) Q X.xe s2) :
    wpAny (model X.prog X.w) X.A (eval a X.env) (fun v s₁ => wpAny (model X.prog X.w) X.A (eval b X.env) (fun u s₂ => wpAny (model X.prog X.w) X.A (f v u) Q X.xe s₂) X.xe s₁) X.xe s := by
  refine thn (ha pins s σ H _ I h) fun v s1 ⟨x, H1, I1, r1, q1⟩ => ?_
  refine thn (hb pins s1 σ H1 _ I1 q1) fun u s2 ⟨y, H2, I2, r2, q2⟩ => ?_
  exact hf v u s2 x y H2 I2 r1 r2 q2

/-! ### names and constants -/
def tVar (i : Nat) : TE := fun σ H Q => ∃ v, σ[i]? = some (some v) ∧ Q v H
def tC (v : V) : TE := fun _ H Q => Q v H
theorem pe_var {i : Nat} {x : Str} {pos : Pos} (hN : X.N[i]? = some x) (hv : Vis X.env.scope x) (hd : (x == ("__debug__" : Str)) = false := by decide) (hcd : (x == ("__classdict__" : Str)) = false := by decide) : PE X (.Name x pos) (tVar i) := by
  intro pins s σ H Q I h
  obtain ⟨v, e, h⟩ := h
  obtain ⟨m, hn, hl⟩ := I.loc
  obtain ⟨u, r, l⟩ := hl i x v hN e hv
  have fin : EP X pins σ Q u s := ⟨v, H, I, r, h⟩
  rcases l with ⟨hk, hm⟩ | ⟨hk, c, hc, hcell⟩
  · exact wpAny_Name (wpAny_loadName_local I.ok.kind hk hn hm fin) hd
  · rcases hk with hk | hk
    · exact wpAny_Name (wpAny_loadName_cell I.ok.kind hk hc hcell fin) hd
    · exact wpAny_Name (wpAny_loadName_free I.ok.kind hk hc hcell fin hcd) hd
theorem pe_int {i j pos} : PE X (.Constant (.int i) j pos) (tC (.int i)) := fun _ _ _ H _ I h => wpAny_Constant_int ⟨.int i, H, I.tok _, ⟨_, rfl⟩, h⟩
theorem pe_bl {b j pos} : PE X (.Constant (.bool b) j pos) (tC (.bl b)) := fun _ _ _ H _ I h => Constant_bool ⟨.bl b, H, I, rfl, h⟩
theorem pe_non {j pos} : PE X (.Constant .none j pos) (tC .non) := fun _ _ _ H _ I h => Constant_none ⟨.non, H, I, rfl, h⟩
theorem pe_str {x j pos} : PE X (.Constant (.str x) j pos) (tC (.str x)) := fun _ _ _ H _ I h => Calls.Constant_str ⟨.str x, H, I.tok _, ⟨_, rfl⟩, h⟩

/-- a global name of the def -/
def Gl (X : Cx) (x : Str) : Prop := X.env.kindOf x = some .globalImplicit
theorem ld_glob {E : Value → Shared → Prop} {pins : List (Addr × Obj)} {s : Shared} {σ : St} {H : Hp} {x : Str} {u : Value} {pos : Pos} {Q : Value → Shared → Prop} (I : Inv X pins σ H s) (hg : Gl X x) (hm : X.mg x = some u) (h : Q u s)
    (hd : (x == ("__debug__" : Str)) = false := by decide) : wpAny (model X.prog X.w) X.A (eval (.Name x pos) X.env) Q E s :=
  Calls.Name_function_global I.ok.kind hg (Calls.loadGlobal_global (by rw [I.ok.glob]; exact I.mod.glob.keeps I.bk) hm h) hd
theorem ld_blt {E : Value → Shared → Prop} {pins : List (Addr × Obj)} {s : Shared} {σ : St} {H : Hp} {x : Str} {u : Value} {pos : Pos} {Q : Value → Shared → Prop} (I : Inv X pins σ H s) (hg : Gl X x) (hm : X.mg x = none) (hv : bootBuiltins x = some u) (h : Q u s)
    (hn : x ≠ "__name__" := by decide) (hd : (x == ("__debug__" : Str)) = false := by decide) : wpAny (model X.prog X.w) X.A (eval (.Name x pos) X.env) Q E s := by
  obtain ⟨mb, h1, h2⟩ := I.mod.blt
  exact Calls.Name_function_global I.ok.kind hg (Calls.loadGlobal_builtin (by rw [I.ok.glob]; exact I.mod.glob.keeps I.bk) hm (by rw [I.ok.blt]; exact h1.keeps I.bk) ((h2 x hn).trans hv) h) hd
/-- a module's constant, a class, a function, as a value -/
theorem pe_glob {x : Str} {v : V} {u : Value} {pos : Pos} (hg : Gl X x) (hm : X.mg x = some u) (r : RelV v u) (hd : (x == ("__debug__" : Str)) = false := by decide) : PE X (.Name x pos) (tC v) :=
  fun _ _ _ H _ I h => ld_glob I hg hm ⟨v, H, I, r, h⟩ hd
theorem pe_bltn {x : Str} {v : V} {u : Value} {pos : Pos} (hg : Gl X x) (hm : X.mg x = none) (hv : bootBuiltins x = some u) (r : RelV v u) (hn : x ≠ "__name__" := by decide) (hd : (x == ("__debug__" : Str)) = false := by decide) : PE X (.Name x pos) (tC v) :=
  fun _ _ _ H _ I h => ld_blt I hg hm hv ⟨v, H, I, r, h⟩ hn hd

/-! ### arithmetic -/
/-- two ints -/
def t2I (ta tb : TE) (k : Int → Int → Hp → Prop) : St → Hp → Prop := fun σ H => ta σ H fun x H1 => tb σ H1 fun y H2 => ∃ i j, x = .int i ∧ y = .int j ∧ k i j H2
def tAdd (ta tb : TE) : TE := fun σ H Q => t2I ta tb (fun i j H2 => Q (.int (i + j)) H2) σ H
def tSub (ta tb : TE) : TE := fun σ H Q => t2I ta tb (fun i j H2 => Q (.int (i - j)) H2) σ H
/-- the left factor below 2^64 -/
def tMul (ta tb : TE) : TE := fun σ H Q => t2I ta tb (fun i j H2 => (-(2 ^ 64) < i ∧ i < 2 ^ 64) ∧ Q (.int (i * j)) H2) σ H
variable {a b : Expr} {ta tb : TE} {pos : Pos}
theorem pe_add (ha : PE X a ta) (hb : PE X b tb) : PE X (.BinOp a .Add b pos) (tAdd ta tb) := by
  intro pins s σ H Q I h
  refine wpAny_BinOp (bin ha hb I h fun v u s2 x y H2 I2 rx ry q => ?_)
  obtain ⟨i, j, rfl, rfl, q⟩ := q
  obtain ⟨t, rfl⟩ := rx
  obtain ⟨t', rfl⟩ := ry
  exact add_int ⟨.int _, H2, I2.tok _, ⟨_, rfl⟩, q⟩
theorem pe_sub (ha : PE X a ta) (hb : PE X b tb) : PE X (.BinOp a .Sub b pos) (tSub ta tb) := by
  intro pins s σ H Q I h
  refine wpAny_BinOp (bin ha hb I h fun v u s2 x y H2 I2 rx ry q => ?_)
  obtain ⟨i, j, rfl, rfl, q⟩ := q
  obtain ⟨t, rfl⟩ := rx
  obtain ⟨t', rfl⟩ := ry
  exact sub_int ⟨.int _, H2, I2.tok _, ⟨_, rfl⟩, q⟩
theorem pe_mul (ha : PE X a ta) (hb : PE X b tb) : PE X (.BinOp a .Mult b pos) (tMul ta tb) := by
  intro pins s σ H Q I h
  refine wpAny_BinOp (bin ha hb I h fun v u s2 x y H2 I2 rx ry q => ?_)
  obtain ⟨i, j, rfl, rfl, ⟨q1, q2⟩, q⟩ := q
  obtain ⟨t, rfl⟩ := rx
  obtain ⟨t', rfl⟩ := ry
  exact mul_int ⟨.int _, H2, I2.tok _, ⟨_, rfl⟩, q⟩ (.of_left (intBits_le_64 q1 q2))

/-! ### comparisons -/
def PC (X : Cx) (op : CmpOp) (a b : Expr) (t : TE) : Prop :=
  ∀ (pins : List (Addr × Obj)) (s : Shared) (σ : St) (H : Hp) (Q : VK), Inv X pins σ H s → t σ H Q →
    wpAny (model X.prog X.w) X.A (eval a X.env) (fun v s₁ => wpAny (model X.prog X.w) X.A (eval b X.env) (fun u s₂ => wpAny (model X.prog X.w) X.A (compareOp op v u) (EP X pins σ Q) X.xe s₂) X.xe s₁) X.xe s
theorem nobehind (b : Expr) {op : CmpOp} (h : op ≠ .In) (h2 : op ≠ .NotIn) : behindInMarks op b = false := by
  have e1 : (op == CmpOp.In) = false := by cases op <;> first | rfl | exact absurd rfl h
  have e2 : (op == CmpOp.NotIn) = false := by cases op <;> first | rfl | exact absurd rfl h2
  cases b <;> simp [behindInMarks, e1, e2]
def tCmp (p : Int → Int → Bool) (ta tb : TE) : TE := fun σ H Q => t2I ta tb (fun i j H2 => Q (.bl (p i j)) H2) σ H
abbrev tLt : TE → TE → TE := tCmp fun i j => decide (i < j)
abbrev tLe : TE → TE → TE := tCmp fun i j => decide (i ≤ j)
abbrev tGt : TE → TE → TE := tCmp fun i j => decide (j < i)
abbrev tGe : TE → TE → TE := tCmp fun i j => decide (j ≤ i)
abbrev tEqI : TE → TE → TE := tCmp fun i j => decide (i = j)
abbrev tNeI : TE → TE → TE := tCmp fun i j => !decide (i = j)
/-- a comparison of two ints, by its rule -/
theorem pc_int {op : CmpOp} {p : Int → Int → Bool} (ha : PE X a ta) (hb : PE X b tb)
    (rule : ∀ (i j : Int) (t u : Tok) (Q : Value → Shared → Prop) (s : Shared), Q (.bool (p i j)) s → wpAny (model X.prog X.w) X.A (compareOp op (.int i t) (.int j u)) Q X.xe s) : PC X op a b (tCmp p ta tb) := by
  intro pins s σ H Q I h
  refine bin ha hb I h fun v u s2 x y H2 I2 rx ry q => ?_
  obtain ⟨i, j, rfl, rfl, q⟩ := q
  obtain ⟨t, rfl⟩ := rx
  obtain ⟨t', rfl⟩ := ry
  exact rule i j t t' _ s2 ⟨.bl _, H2, I2, rfl, q⟩
theorem pc_lt (ha : PE X a ta) (hb : PE X b tb) : PC X .Lt a b (tLt ta tb) := pc_int ha hb fun _ _ _ _ _ _ h => lt_int h
theorem pc_le (ha : PE X a ta) (hb : PE X b tb) : PC X .LtE a b (tLe ta tb) := pc_int ha hb fun _ _ _ _ _ _ h => le_int h
theorem pc_gt (ha : PE X a ta) (hb : PE X b tb) : PC X .Gt a b (tGt ta tb) := pc_int ha hb fun _ _ _ _ _ _ h => gt_int h
theorem pc_ge (ha : PE X a ta) (hb : PE X b tb) : PC X .GtE a b (tGe ta tb) := pc_int ha hb fun _ _ _ _ _ _ h => ge_int h
theorem pc_eqI (ha : PE X a ta) (hb : PE X b tb) : PC X .Eq a b (tEqI ta tb) := pc_int ha hb fun _ _ _ _ _ _ h => eq_int (by rw [Bool.beq_eq_decide_eq]; exact h)
theorem pc_neI (ha : PE X a ta) (hb : PE X b tb) : PC X .NotEq a b (tNeI ta tb) := pc_int ha hb fun _ _ _ _ _ _ h => ne_int (by rw [bne, Bool.beq_eq_decide_eq]; exact h)
/-- is None -/
def tIsN (ta : TE) : TE := fun σ H Q => ta σ H fun x H1 => Q (.bl (decide (x = .non))) H1
def tNotN (ta : TE) : TE := fun σ H Q => ta σ H fun x H1 => Q (.bl (!decide (x = .non))) H1
theorem RelV.none_iff {x : V} {v : Value} (r : RelV x v) : (v == Value.none) = decide (x = .non) := by
  cases x with
  | non => cases r; rfl
  | bl _ => cases r; rfl
  | int _ => obtain ⟨t, rfl⟩ := r; rfl
  | str _ => obtain ⟨t, rfl⟩ := r; rfl
  | byt _ => obtain ⟨t, rfl⟩ := r; rfl
  | flt _ => obtain ⟨t, rfl⟩ := r; rfl
  | ref _ => cases r; rfl
  | ty _ => cases r; rfl
theorem pc_isN {j pos'} (ha : PE X a ta) : PC X .Is a (.Constant .none j pos') (tIsN ta) := by
  intro pins s σ H Q I h
  refine thn (ha pins s σ H _ I h) fun v s1 ⟨x, H1, I1, r1, q1⟩ => ?_
  exact Constant_none (is_none_gen ⟨.bl _, H1, I1, by rw [r1.none_iff]; rfl, q1⟩)
theorem pc_notN {j pos'} (ha : PE X a ta) : PC X .IsNot a (.Constant .none j pos') (tNotN ta) := by
  intro pins s σ H Q I h
  refine thn (ha pins s σ H _ I h) fun v s1 ⟨x, H1, I1, r1, q1⟩ => ?_
  exact Constant_none (isnot_none_gen ⟨.bl _, H1, I1, by rw [r1.none_iff]; rfl, q1⟩)
/-- a comparison as a value, as a test -/
def tB (t : TE) : TT := fun σ H Q => t σ H fun x H1 => ∃ c, x = .bl c ∧ Q c H1
theorem pe_cmp {op : CmpOp} {t : TE} (h : PC X op a b t) (h1 : behindInMarks op b = false := by first | exact nobehind _ (by decide) (by decide) | rfl) : PE X (.Compare a [op] [b] pos) t := fun pins s σ H Q I hw => wpAny_Compare1 (h pins s σ H Q I hw) h1
theorem pt_cmp {op : CmpOp} {t : TE} (h : PC X op a b t) (h1 : behindInMarks op b = false := by first | exact nobehind _ (by decide) (by decide) | rfl) : PT X (.Compare a [op] [b] pos) (tB t) := by
  intro pins s σ H Q I hw
  refine wpAny_isTrue_Compare1 (thn (h pins s σ H _ I hw) fun v s1 h1 => thn h1 fun u s2 h2 => thn h2 fun c s3 ⟨x, H1, I1, r1, q1⟩ => ?_) h1
  obtain ⟨d, rfl, q⟩ := q1
  cases r1
  exact wpAny_truthy_bool ⟨H1, I1, q⟩
/-- an expression whose value is a bool, as a test -/
theorem pt_val {e : Expr} {t : TE} (h : PE X e t) (he : ∀ whole, isTrue e X.env whole = (do let v ← whole; standAt e.pos; holding [v] (truthy v)) := by intro _; rfl) : PT X e (tB t) := by
  intro pins s σ H Q I hw
  refine isTrue_plain (thn (h pins s σ H _ I hw) fun v s1 ⟨x, H1, I1, r1, q1⟩ => ?_) (he _)
  obtain ⟨d, rfl, q⟩ := q1
  cases r1
  exact wpAny_truthy_bool ⟨H1, I1, q⟩

/-! ### and, or, not -/
variable {tA tB' : TT} {rest : List Expr}
def tAnd (t u : TT) : TT := fun σ H Q => t σ H fun c H1 => if c = true then u σ H1 Q else Q false H1
def tOr (t u : TT) : TT := fun σ H Q => t σ H fun c H1 => if c = true then Q true H1 else u σ H1 Q
def tNot (t : TT) : TT := fun σ H Q => t σ H fun c H1 => Q (!c) H1
theorem pw_and1 (ha : PT X a tA) : PW X (.BoolOp .And [a] pos) tA := by
  intro wh pins s σ H Q I h
  refine isTrue_and (thn (ha pins s σ H Q I h) fun c s1 e => ?_)
  cases c with
  | true => exact isTrue_and_nil e
  | false => exact e
theorem pw_or1 (ha : PT X a tA) : PW X (.BoolOp .Or [a] pos) tA := by
  intro wh pins s σ H Q I h
  refine isTrue_or (thn (ha pins s σ H Q I h) fun c s1 e => ?_)
  cases c with
  | false => exact isTrue_or_nil e
  | true => exact e
theorem pw_and (ha : PT X a tA) (hb : PW X (.BoolOp .And (b :: rest) pos) tB') : PW X (.BoolOp .And (a :: b :: rest) pos) (tAnd tA tB') := by
  intro wh pins s σ H Q I h
  refine isTrue_and (thn (ha pins s σ H _ I h) fun c s1 ⟨H1, I1, q1⟩ => ?_)
  cases c with
  | true => exact hb wh pins s1 σ H1 Q I1 q1
  | false => exact ⟨H1, I1, q1⟩
theorem pw_or (ha : PT X a tA) (hb : PW X (.BoolOp .Or (b :: rest) pos) tB') : PW X (.BoolOp .Or (a :: b :: rest) pos) (tOr tA tB') := by
  intro wh pins s σ H Q I h
  refine isTrue_or (thn (ha pins s σ H _ I h) fun c s1 ⟨H1, I1, q1⟩ => ?_)
  cases c with
  | true => exact ⟨H1, I1, q1⟩
  | false => exact hb wh pins s1 σ H1 Q I1 q1
theorem pt_not (ha : PT X a tA) : PT X (.UnaryOp .Not a pos) (tNot tA) := by
  intro pins s σ H Q I h
  exact isTrue_not (ha pins s σ H (fun c H1 => Q (!c) H1) I h)
/-- .. as values (bools) -/
def tAndV (ta tb : TE) : TE := fun σ H Q => ta σ H fun x H1 => ∃ c, x = .bl c ∧ if c = true then tb σ H1 Q else Q (.bl false) H1
def tOrV (ta tb : TE) : TE := fun σ H Q => ta σ H fun x H1 => ∃ c, x = .bl c ∧ if c = true then Q (.bl true) H1 else tb σ H1 Q
def tNotV (ta : TE) : TE := fun σ H Q => ta σ H fun x H1 => ∃ c, x = .bl c ∧ Q (.bl (!c)) H1
theorem pe_one {op} {t : TE} (h : PE X a t) : PE X (.BoolOp op [a] pos) t := fun pins s σ H Q I hw => BoolOp_one (h pins s σ H Q I hw)
theorem pe_and (ha : PE X a ta) (hb : PE X (.BoolOp .And (b :: rest) pos) tb) : PE X (.BoolOp .And (a :: b :: rest) pos) (tAndV ta tb) := by
  intro pins s σ H Q I h
  refine BoolOp_and (thn (ha pins s σ H _ I h) fun v s1 ⟨x, H1, I1, r1, q1⟩ => ?_)
  obtain ⟨c, rfl, q1⟩ := q1
  cases r1
  refine wpAny_truthy_bool ?_
  cases c with
  | true => exact hb pins s1 σ H1 Q I1 q1
  | false => exact ⟨.bl false, H1, I1, rfl, q1⟩
theorem pe_or (ha : PE X a ta) (hb : PE X (.BoolOp .Or (b :: rest) pos) tb) : PE X (.BoolOp .Or (a :: b :: rest) pos) (tOrV ta tb) := by
  intro pins s σ H Q I h
  refine BoolOp_or (thn (ha pins s σ H _ I h) fun v s1 ⟨x, H1, I1, r1, q1⟩ => ?_)
  obtain ⟨c, rfl, q1⟩ := q1
  cases r1
  refine wpAny_truthy_bool ?_
  cases c with
  | false => exact hb pins s1 σ H1 Q I1 q1
  | true => exact ⟨.bl true, H1, I1, rfl, q1⟩
theorem pe_not (ha : PE X a ta) : PE X (.UnaryOp .Not a pos) (tNotV ta) := by
  intro pins s σ H Q I h
  refine UnaryOp_ (thn (ha pins s σ H _ I h) fun v s1 ⟨x, H1, I1, r1, q1⟩ => ?_)
  obtain ⟨c, rfl, q1⟩ := q1
  cases r1
  exact not_of (wpAny_truthy_bool ⟨.bl (!c), H1, I1, rfl, q1⟩)
/-- a if t else b -/
def tIf (t : TT) (ta tb : TE) : TE := fun σ H Q => t σ H fun c H1 => if c = true then ta σ H1 Q else tb σ H1 Q
theorem pe_ifExp {c : Expr} (hc : PT X c tA) (ha : PE X a ta) (hb : PE X b tb) : PE X (.IfExp c a b pos) (tIf tA ta tb) := by
  intro pins s σ H Q I h
  refine wpAny_IfExp (thn (hc pins s σ H _ I h) fun d s1 ⟨H1, I1, q1⟩ => ?_)
  cases d with
  | true => exact ha pins s1 σ H1 Q I1 q1
  | false => exact hb pins s1 σ H1 Q I1 q1
end
end L2

namespace L2
open PySem PySem.Spec PyProof.Rows

/-! ### a list, a tuple that is read: tracked, frozen, or an object of the module -/
def SqL (K : PySem.W.Frag) (H : Hp) (a : Addr) (xs : List V) : Prop :=
  Rd H a (.lst xs) ∨
    ∃ (o : Obj) (its : Array Value) (n : Nat), K.lookup a = some o ∧ o.cls = .type "list" ∧ o.dict = none ∧ o.data = .seq its n ∧ its.size ≤ sizeLine ∧ Vals xs its.toList
def SqT (K : PySem.W.Frag) (H : Hp) (a : Addr) (xs : List V) : Prop :=
  Rd H a (.tup xs) ∨
    ∃ (o : Obj) (its : Array Value) (n : Nat), K.lookup a = some o ∧ o.cls = .type "tuple" ∧ o.data = .seq its n ∧ its.size ≤ sizeLine ∧ Vals xs its.toList
def absV : Value → Option V
  | .none => some .non
  | .bool b => some (.bl b)
  | .int i _ => some (.int i)
  | .str x _ => some (.str x)
  | .bytes b _ => some (.byt b)
  | .float b _ => some (.flt b)
  | .ref a => some (.ref a)
  | .type n => some (.ty n)
  | _ => none
theorem RelV.abs {x : V} {u : Value} (r : RelV x u) : absV u = some x := by
  cases x with
  | non => cases r; rfl
  | bl _ => cases r; rfl
  | int _ => obtain ⟨t, rfl⟩ := r; rfl
  | str _ => obtain ⟨t, rfl⟩ := r; rfl
  | byt _ => obtain ⟨t, rfl⟩ := r; rfl
  | flt _ => obtain ⟨t, rfl⟩ := r; rfl
  | ref _ => cases r; rfl
  | ty _ => cases r; rfl
theorem RelV.inj {x y : V} {u : Value} (r : RelV x u) (q : RelV y u) : x = y := Option.some.inj (r.abs.symm.trans q.abs)
theorem Vals.inj : ∀ {xs ys : List V} {us : List Value}, Vals xs us → Vals ys us → xs = ys
  | _, _, _, .nil, .nil => rfl
  | _, _, _, .cons r t, .cons r' t' => by rw [r.inj r', Vals.inj t t']
section
variable {X : Cx} {pins : List (Addr × Obj)} {σ : St} {H : Hp} {s : Shared} {a : Addr} {xs ys : List V}
theorem SqL.of {K : PySem.W.Frag} (h : H a = some (.lst xs)) : SqL K H a xs := .inl (.inl h)
theorem SqT.of {K : PySem.W.Frag} (h : H a = some (.tup xs)) : SqT K H a xs := .inl (.inl h)
theorem Inv.list (I : Inv X pins σ H s) (h : SqL X.K H a xs) : ∃ its : List Value, Vals xs its ∧ PlainL s.heap a its.toArray ∧ xs.length ≤ sizeLine := by
  rcases h with h | ⟨o, its, n, hk, hc, hd, hs, hz, r⟩
  · obtain ⟨z, its, n, r, e⟩ := h.ok I.hok
    exact ⟨its, r, ⟨_, n, e, rfl, rfl, rfl⟩, z⟩
  · refine ⟨its.toList, r, ⟨o, n, I.kIn a o hk, hc, hd, by simpa using hs⟩, ?_⟩
    have e := r.length
    simp only [Array.length_toList] at e
    omega
theorem Inv.tuple (I : Inv X pins σ H s) (h : SqT X.K H a xs) : ∃ its : List Value, Vals xs its ∧ IsTup s.heap a its.toArray ∧ xs.length ≤ sizeLine := by
  rcases h with h | ⟨o, its, n, hk, hc, hs, hz, r⟩
  · obtain ⟨z, its, r, p⟩ := h.ok I.hok
    exact ⟨its, r, p, z⟩
  · refine ⟨its.toList, r, ⟨o, I.kIn a o hk, hc, n, by simpa using hs⟩, ?_⟩
    have e := r.length
    simp only [Array.length_toList] at e
    omega
theorem Inv.list_inj (I : Inv X pins σ H s) (h : SqL X.K H a xs) (h' : SqL X.K H a ys) : xs = ys := by
  obtain ⟨its, r, ⟨o, n, e, _, _, d⟩, _⟩ := I.list h
  obtain ⟨its', r', ⟨o', n', e', _, _, d'⟩, _⟩ := I.list h'
  rw [e] at e'; cases e'
  rw [d] at d'
  injection d' with d1 _
  have : its = its' := by simpa using congrArg Array.toList d1
  subst this
  exact r.inj r'
theorem Inv.tuple_inj (I : Inv X pins σ H s) (h : SqT X.K H a xs) (h' : SqT X.K H a ys) : xs = ys := by
  obtain ⟨its, r, ⟨o, e, _, n, d⟩, _⟩ := I.tuple h
  obtain ⟨its', r', ⟨o', e', _, n', d'⟩, _⟩ := I.tuple h'
  rw [e] at e'; cases e'
  rw [d] at d'
  injection d' with d1 _
  have : its = its' := by simpa using congrArg Array.toList d1
  subst this
  exact r.inj r'
end

/-! ### another wish about exceptions -/
abbrev Cx.wish (X : Cx) (E : Value → Shared → Prop) : Cx := { X with xe := E }
/-- no exception leaves -/
abbrev Cx.nox (X : Cx) : Cx := X.wish fun _ _ => False
theorem Cx.Ok.wish {X : Cx} (ok : X.Ok) (E : Value → Shared → Prop) : (X.wish E).Ok :=
  ⟨ok.mod, ok.kind, ok.glob, ok.blt, ok.above, ok.inj, ok.has, ok.cab, ok.hd, ok.frames, ok.stk, ok.exf, ok.bs, ok.bsz, ok.noex, ok.exfs, ok.funs, ok.frf⟩
theorem Cx.Ok.unwish {X : Cx} {E : Value → Shared → Prop} (ok : (X.wish E).Ok) : X.Ok :=
  ⟨ok.mod, ok.kind, ok.glob, ok.blt, ok.above, ok.inj, ok.has, ok.cab, ok.hd, ok.frames, ok.stk, ok.exf, ok.bs, ok.bsz, ok.noex, ok.exfs, ok.funs, ok.frf⟩
section
variable {X : Cx} {pins : List (Addr × Obj)} {σ : St} {H : Hp} {s : Shared} {E : Value → Shared → Prop}
theorem Inv.wish (I : Inv X pins σ H s) (E : Value → Shared → Prop) : Inv (X.wish E) pins σ H s := ⟨I.ok.wish E, I.os, I.bare, I.base, I.loc, I.cell, I.free, I.freeC, I.pin, I.hok, I.len⟩
theorem Inv.unwish (I : Inv (X.wish E) pins σ H s) : Inv X pins σ H s := ⟨I.ok.unwish, I.os, I.bare, I.base, I.loc, I.cell, I.free, I.freeC, I.pin, I.hok, I.len⟩
theorem SP.unwish {D : Ends} {f : Flow} {s' : Shared} (h : SP (X.wish E) pins D f s') : SP X pins D f s' := by
  cases f with
  | next => obtain ⟨σ', H', I, q⟩ := h; exact ⟨σ', H', I.unwish, q⟩
  | brk => obtain ⟨σ', H', I, q⟩ := h; exact ⟨σ', H', I.unwish, q⟩
  | cont => obtain ⟨σ', H', I, q⟩ := h; exact ⟨σ', H', I.unwish, q⟩
  | ret u => obtain ⟨v, σ', H', I, r, q⟩ := h; exact ⟨v, σ', H', I.unwish, r, q⟩
theorem PE.nox {e : Expr} {t : TE} (h : PE X.nox e t) : PE X e t := fun pins s σ H Q I hw =>
  wpAny_mono (h pins s σ H Q (I.wish _) hw) (fun _ _ ⟨v, H', I', r, q⟩ => ⟨v, H', I'.unwish, r, q⟩) fun _ _ z => False.elim z
theorem PT.nox {e : Expr} {t : TT} (h : PT X.nox e t) : PT X e t := fun pins s σ H Q I hw =>
  wpAny_mono (h pins s σ H Q (I.wish _) hw) (fun _ _ ⟨H', I', q⟩ => ⟨H', I'.unwish, q⟩) fun _ _ z => False.elim z
theorem PSs.nox {st : List Stmt} {t : TS} (h : PSs X.nox st t) : PSs X st t := fun pins s σ H D I hw =>
  wpAny_mono (h pins s σ H D (I.wish _) hw) (fun _ _ q => q.unwish) fun _ _ z => False.elim z
end

/-! ### blocks and small statements -/
section
variable {X : Cx} {st : Stmt} {rest : List Stmt} {t u : TS} {e : Expr} {te : TE} {pos : Pos}
def tNext : TS := fun D σ H => D.nx σ H
def tSeq (t u : TS) : TS := fun D σ H => t { D with nx := u D } σ H
theorem pss_nil : PSs X [] tNext := fun _ _ σ H _ I h => wpAny_execs_nil ⟨σ, H, I, h⟩
theorem pss_cons (h1 : PS X st t) (h2 : PSs X rest u) : PSs X (st :: rest) (tSeq t u) := by
  intro pins s σ H D I h
  refine wpAny_execs_cons (thn (h1 pins s σ H { D with nx := u D } I h) fun f s1 q => ?_)
  cases f with
  | next =>
    obtain ⟨σ', H', I', q⟩ := q
    exact h2 pins s1 σ' H' D I' q
  | ret v => exact q
  | brk => exact q
  | cont => exact q
theorem pss_one (h1 : PS X st t) : PSs X [st] t := by
  intro pins s σ H D I h
  refine wpAny_execs_cons (thn (h1 pins s σ H D I h) fun f s1 q => ?_)
  cases f with
  | next => exact wpAny_execs_nil q
  | ret v => exact q
  | brk => exact q
  | cont => exact q
def tBreak : TS := fun D σ H => D.bk σ H
def tCont : TS := fun D σ H => D.ct σ H
theorem ps_pass : PS X (.Pass pos) tNext := fun _ _ σ H _ I h => wpAny_Pass ⟨σ, H, I, h⟩
theorem ps_break : PS X (.Break pos) tBreak := fun _ _ σ H _ I h => wpAny_Break ⟨σ, H, I, h⟩
theorem ps_continue : PS X (.Continue pos) tCont := fun _ _ σ H _ I h => wpAny_Continue ⟨σ, H, I, h⟩
/-- in a def's body nothing is shown -/
theorem Inv.quiet {pins : List (Addr × Obj)} {σ : St} {H : Hp} {s : Shared} (I : Inv X pins σ H s) : interactive X.env = false := by simp [interactive, I.ok.kind]
/-- a docstring -/
theorem ps_doc {x j pos pos'} : PS X (.Expr (.Constant (.str x) j pos) pos') tNext := fun _ s σ H _ I h => wpAny_Expr (Calls.Constant_str (show SP X _ _ .next { s with toks := s.toks + 1 } from ⟨σ, H, I.tok _, h⟩)) I.quiet
/-- an expression whose value is dropped -/
def tDrop (te : TE) : TS := fun D σ H => te σ H fun _ H1 => D.nx σ H1
theorem ps_expr (he : PE X e te) (hs : swapsWith e none pos.line X.env = pure false := by rfl) : PS X (.Expr e pos) (tDrop te) := by
  intro pins s σ H D I h
  exact wpAny_Expr_any (thn (he pins s σ H _ I h) fun v s1 ⟨x, H1, I1, r1, q1⟩ => ⟨σ, H1, I1, q1⟩) I.quiet hs
def tRet (te : TE) : TS := fun D σ H => te σ H D.rt
theorem ps_ret (he : PE X e te) : PS X (.Return (some e) pos) (tRet te) := by
  intro pins s σ H D I h
  exact wpAny_Return_some (thn (he pins s σ H _ I h) fun v s1 ⟨x, H1, I1, r1, q1⟩ => ⟨x, σ, H1, I1, r1, q1⟩)
def tRetN : TS := fun D _ H => D.rt .non H
theorem ps_retN : PS X (.Return none pos) tRetN := fun _ _ σ H _ I h => wpAny_Return_none ⟨.non, σ, H, I, rfl, h⟩
def tIfS (c : TT) (t u : TS) : TS := fun D σ H => c σ H fun b H1 => if b = true then t D σ H1 else u D σ H1
theorem ps_if {c : Expr} {a b : List Stmt} {tc : TT} (hc : PT X c tc) (ha : PSs X a t) (hb : PSs X b u) : PS X (.If c a b pos) (tIfS tc t u) := by
  intro pins s σ H D I h
  refine wpAny_If (thn (hc pins s σ H _ I h) fun d s1 ⟨H1, I1, q1⟩ => ?_)
  cases d with
  | true => exact ha pins s1 σ H1 D I1 q1
  | false => exact hb pins s1 σ H1 D I1 q1
/-- code that the proof never comes to -/
def tNever : TS := fun _ _ _ => False
theorem ps_never : PS X st tNever := fun _ _ _ _ _ _ h => h.elim
theorem pss_never {sts : List Stmt} : PSs X sts tNever := fun _ _ _ _ _ _ h => h.elim
end

/-! ### targets -/
abbrev TG := V → St → Hp → (St → Hp → Prop) → Prop
abbrev TGs := List V → St → Hp → (St → Hp → Prop) → Prop
def PG (X : Cx) (target : Expr) (t : TG) : Prop :=
  ∀ (pins : List (Addr × Obj)) (s : Shared) (σ : St) (H : Hp) (v : V) (u : Value) (Q : St → Hp → Prop), Inv X pins σ H s → RelV v u → t v σ H Q →
    wpAny (model X.prog X.w) X.A (assign target X.env u) (fun _ s' => ∃ σ' H', Inv X pins σ' H' s' ∧ Q σ' H') X.xe s
/-- several targets, one after another -/
def PGs (X : Cx) (ts : List Expr) (t : TGs) : Prop :=
  ∀ (pins : List (Addr × Obj)) (s : Shared) (σ : St) (H : Hp) (vs : List V) (us : List Value) (Q : St → Hp → Prop), Inv X pins σ H s → Vals vs us → t vs σ H Q →
    wpAny (model X.prog X.w) X.A (assignInOrder ((assignEach ts X.env).map (·.2)) us) (fun _ s' => ∃ σ' H', Inv X pins σ' H' s' ∧ Q σ' H') X.xe s
/-- o[i] = v, by values -/
abbrev TSet := V → V → V → Hp → (Hp → Prop) → Prop
def PSet (X : Cx) (t : TSet) : Prop :=
  ∀ (pins : List (Addr × Obj)) (s : Shared) (σ : St) (H : Hp) (o i v : V) (ov iv u : Value) (Q : Hp → Prop), Inv X pins σ H s → RelV o ov → RelV i iv → RelV v u → t o i v H Q →
    wpAny (model X.prog X.w) X.A (setItem ov iv u) (fun _ s' => ∃ H', Inv X pins σ H' s' ∧ Q H') X.xe s
/-- a op= b, by values -/
abbrev TIp := V → V → Hp → VK → Prop
def PIp (X : Cx) (op : Operator) (t : TIp) : Prop :=
  ∀ (pins : List (Addr × Obj)) (s : Shared) (σ : St) (H : Hp) (x y : V) (v u : Value) (Q : VK), Inv X pins σ H s → RelV x v → RelV y u → t x y H Q →
    wpAny (model X.prog X.w) X.A (inplaceOp op v u) (EP X pins σ Q) X.xe s
section
variable {X : Cx} {pos : Pos}
def gName (i : Nat) : TG := fun v σ H Q => Q (σ.set i (some v)) H
theorem pg_name {i : Nat} {x : Str} (hN : X.N.Nodup) (hi : X.N[i]? = some x) (hx : Loc X.env.scope x) (hf : X.fn x = true ∨ X.env.scope.names.lookup x = some .local := by first | exact .inl rfl | exact .inr rfl | assumption) : PG X (.Name x pos) (gName i) := by
  intro pins s σ H v u Q I r h
  exact wpAny_assign_Name (store_ok I hN hi hx r (fun s' I' => ⟨_, H, I', h⟩) hf)
def gNil : TGs := fun vs σ H Q => vs = [] ∧ Q σ H
def gCons (t : TG) (u : TGs) : TGs := fun vs σ H Q => ∃ v r, vs = v :: r ∧ t v σ H fun σ' H' => u r σ' H' Q
theorem pgs_nil : PGs X [] gNil := by
  intro pins s σ H vs us Q I r h
  obtain ⟨e, h⟩ := h
  subst e
  cases r
  exact assignInOrder_nil ⟨σ, H, I, h⟩
theorem pgs_cons {e : Expr} {es : List Expr} {t : TG} {u : TGs} (h1 : PG X e t) (h2 : PGs X es u)
    (hs : (assignEach (e :: es) X.env).map (·.2) = assign e X.env :: (assignEach es X.env).map (·.2) := by rfl) : PGs X (e :: es) (gCons t u) := by
  intro pins s σ H vs us Q I r h
  obtain ⟨v, vr, e1, h⟩ := h
  subst e1
  cases r with
  | cons r rr =>
    rw [hs]
    refine assignInOrder_cons (thn (h1 pins s σ H _ _ _ I r h) fun _ s1 ⟨σ1, H1, I1, q1⟩ => ?_)
    exact h2 pins s1 σ1 H1 _ _ Q I1 rr q1
/-- (a, b, ..) = a tuple of that length -/
def gTup (K : PySem.W.Frag) (n : Nat) (t : TGs) : TG := fun v σ H Q => ∃ a xs, v = .ref a ∧ SqT K H a xs ∧ xs.length = n ∧ t xs σ H Q
theorem pg_tup {es : List Expr} {k : Nat} {t : TGs} {n : Nat} (hc : X.calm = true) (h : PGs X es t)
    (hn : (assignEach es X.env).length = n := by rfl) (hst : (assignEach es X.env).findIdx? (·.1) = none := by rfl) : PG X (.Tuple es k pos) (gTup X.K n t) := by
  intro pins s σ H v u Q I r hw
  obtain ⟨a, xs, e1, hq, hl, hw⟩ := hw
  subst e1
  cases r
  obtain ⟨its, rv, ht, hz⟩ := I.tuple hq
  refine assign_Tuple_tuple (I.ok.hd hc) ht (by simp [hn, ← hl, rv.length]) hst fun h' hx => ?_
  have I1 : Inv X pins σ H { s with heap := h' } := I.kept (t' := s.toks) fun b o e => hx b o (Nat.ne_of_lt (Heap.lt_size e)) e
  exact h pins _ σ H xs _ Q I1 (by simpa using rv) hw
/-- o[i] = .. -/
def gSub (to ti : TE) (t : TSet) : TG := fun v σ H Q => to σ H fun o H1 => ti σ H1 fun i H2 => t o i v H2 fun H3 => Q σ H3
theorem pg_sub {o i : Expr} {to ti : TE} {t : TSet} (ho : PE X o to) (hi : PE X i ti) (hs : PSet X t)
    (ha : ∀ v, assign (.Subscript o i pos) X.env v = (do
      let ov ← holding [v] (eval o X.env)
      let iv ← holding [v, ov] (eval i X.env)
      standAt pos
      holding [v, ov, iv] (setItem ov iv v)
      release [v, ov, iv] []) := by intro _; rfl) : PG X (.Subscript o i pos) (gSub to ti t) := by
  intro pins s σ H v u Q I r h
  rw [ha]
  refine wpAny_bind (wpAny_holding (thn (ho pins s σ H _ I h) fun ov s1 ⟨x, H1, I1, r1, q1⟩ => ?_))
  refine wpAny_bind (wpAny_holding (thn (hi pins s1 σ H1 _ I1 q1) fun iv s2 ⟨y, H2, I2, r2, q2⟩ => ?_))
  refine wpAny_bind (wpAny_standAt (wpAny_bind (wpAny_holding (thn (hs pins s2 σ H2 x y v ov iv u _ I2 r1 r2 r q2) fun _ s3 ⟨H3, I3, q3⟩ => ?_))))
  exact wpAny_release ⟨σ, H3, I3, q3⟩
/-- target = value -/
def tAsg (te : TE) (g : TG) : TS := fun D σ H => te σ H fun x H1 => g x σ H1 D.nx
theorem ps_asg {tg e : Expr} {te : TE} {g : TG} (he : PE X e te) (hg : PG X tg g) (hs : swapsWithSole [tg] e pos.line X.env = pure false := by rfl) (hw : swappedStores [tg] e X.env = pure none := by rfl)
    (h1 : (assignEach [tg] X.env).map (·.2) = [assign tg X.env] := by rfl) : PS X (.Assign [tg] e pos) (tAsg te g) := by
  intro pins s σ H D I h
  refine wpAny_Assign_stores (thn (he pins s σ H _ I h) fun v s1 ⟨x, H1, I1, r1, q1⟩ => ?_) hs hw
  rw [h1]
  exact thn (hg pins s1 σ H1 x v _ I1 r1 q1) fun _ s2 q => q
/-- name = value -/
theorem ps_set {i : Nat} {x : Str} {e : Expr} {te : TE} {pos' : Pos} (hN : X.N.Nodup) (hi : X.N[i]? = some x) (hx : Loc X.env.scope x) (he : PE X e te) (hs : swapsWith e (some (.Name x pos')) pos.line X.env = pure false := by rfl) (hf : X.fn x = true ∨ X.env.scope.names.lookup x = some .local := by first | exact .inl rfl | exact .inr rfl | assumption) :
    PS X (.Assign [.Name x pos'] e pos) (tAsg te (gName i)) := by
  intro pins s σ H D I h
  refine wpAny_Assign_Name (thn (he pins s σ H _ I h) fun v s1 ⟨y, H1, I1, r1, q1⟩ => ?_) hs
  exact store_ok I1 hN hi hx r1 (fun s2 I2 => ⟨_, H1, I2, q1⟩) hf
/-- a, b = x, y with plain local names: stored from the right; the pair itself is not tracked (the opening rows as in PyProof/Rows/TupAssign.lean:23) -/
def tPar (i j : Nat) (ta : TA) : TS := fun D σ H => ta σ H fun vs H1 => ∃ v w, vs = [v, w] ∧ D.nx ((σ.set i (some v)).set j (some w)) H1
theorem ps_par {i j : Nat} {x y : Str} {a b : Expr} {ta : TA} {px py pt : Pos} {kt k2 pt2} (hc : X.calm = true) (hN : X.N.Nodup) (hi : X.N[i]? = some x) (hj : X.N[j]? = some y) (hij : i ≠ j)
    (hx : X.env.scope.names.lookup x = some .local) (hy : X.env.scope.names.lookup y = some .local) (ha : PA X [a, b] ta)
    (hw : swappedStores [.Tuple [.Name x px, .Name y py] kt pt] (.Tuple [a, b] k2 pt2) X.env = pure (some [x, y]))
    (hs : swapsWithSole [.Tuple [.Name x px, .Name y py] kt pt] (.Tuple [a, b] k2 pt2) pos.line X.env = pure false := by rfl) :
    PS X (.Assign [.Tuple [.Name x px, .Name y py] kt pt] (.Tuple [a, b] k2 pt2) pos) (tPar i j ta) := by
  intro pins s σ H D I h
  rw [exec_Assign_arm]
  refine wpAny_bind (wpAny_standAt ?_)
  rw [hs]
  refine wpAny_bind (wpAny_pure ?_)
  rw [if_neg (by decide)]
  refine wpAny_bind (Tuple_ (thn (ha _ pins s σ H _ I h) fun us s1 ⟨vs, H1, I1, r1, q1⟩ => ?_))
  obtain ⟨v, w, e1, q1⟩ := q1
  subst e1
  obtain ⟨u1, u2, rfl, rv, rw'⟩ : ∃ u1 u2, us = [u1, u2] ∧ RelV v u1 ∧ RelV w u2 := by
    cases r1 with
    | cons p q =>
      cases q with
      | cons p' q' =>
        cases q'
        exact ⟨_, _, rfl, p, p'⟩
  refine wpAny_newObj_type ?_ (by show 2 ≤ sizeLine; decide)
  have I2 : Inv X pins σ H1 { s1 with heap := s1.heap.push { cls := .type "tuple", data := .seq [u1, u2].toArray } } := I1.kept (t' := s1.toks) fun b o e => Heap.get?_push_of_some _ e
  rw [hw]
  refine wpAny_bind (wpAny_pure ?_)
  show wpAny (model X.prog X.w) X.A (do rule "assign.swapped-stores"; let items ← unpackItems (.ref s1.heap.objs.size) 2 none; assignInOrder [fun v => bindName X.env y v, fun v => bindName X.env x v] items.reverse; pure Flow.next) _ _ _
  refine wpAny_bind (wpAny_rule (wpAny_bind (unpackItems_tuple (items := #[u1, u2]) (I.ok.hd hc) (IsTup.new s1.heap _) fun h' hx' => ?_)))
  have I3 := I2.kept (h' := h') (t' := s1.toks) fun b o e => hx' b o (Nat.ne_of_lt (Heap.lt_size e)) e
  show wpAny _ _ (assignInOrder [fun v => bindName X.env y v, fun v => bindName X.env x v] [u2, u1] >>= fun _ => pure Flow.next) _ _ _
  refine wpAny_bind (assignInOrder_cons (wpAny_bindName (store_ok I3 hN hj (.inl hy) rw' (fun s2 I4 => ?_) (.inr hy))))
  refine assignInOrder_cons (wpAny_bindName (store_ok I4 hN hi (.inl hx) rv (fun s3 I5 => assignInOrder_nil (wpAny_pure ?_)) (.inr hx)))
  rw [List.set_comm _ _ (Ne.symm hij)] at I5
  exact ⟨_, H1, I5, q1⟩
/-- name op= e -/
def tAug (i : Nat) (te : TE) (ti : TIp) : TS := fun D σ H => ∃ x, σ[i]? = some (some x) ∧ te σ H fun y H1 => ti x y H1 fun z H2 => D.nx (σ.set i (some z)) H2
theorem ps_aug {i : Nat} {x : Str} {e : Expr} {te : TE} {op : Operator} {ti : TIp} {pos' : Pos} (hN : X.N.Nodup) (hi : X.N[i]? = some x) (hx : Loc X.env.scope x) (he : PE X e te) (ho : PIp X op ti) (hf : X.fn x = true ∨ X.env.scope.names.lookup x = some .local := by first | exact .inl rfl | exact .inr rfl | assumption) :
    PS X (.AugAssign (.Name x pos') op e pos) (tAug i te ti) := by
  intro pins s σ H D I h
  obtain ⟨v, e1, h⟩ := h
  obtain ⟨m, hn, hl⟩ := I.loc
  have vis : Vis X.env.scope x := by rcases hx with k | k; exact .inl k; exact .inr (.inl k)
  obtain ⟨u, r, l⟩ := hl i x v hi e1 vis
  refine wpAny_AugAssign_Name ?_
  have go : wpAny (model X.prog X.w) X.A (eval e X.env) (fun w s₂ => wpAny (model X.prog X.w) X.A (inplaceOp op u w) (fun r s₃ => wpAny (model X.prog X.w) X.A (storeName X.env x r) (fun _ => SP X pins D .next) X.xe s₃) X.xe s₂) X.xe s := by
    refine thn (he pins s σ H _ I h) fun w s1 ⟨y, H1, I1, r1, q1⟩ => ?_
    refine thn (ho pins s1 σ H1 v y u w _ I1 r r1 q1) fun z s2 ⟨zv, H2, I2, r2, q2⟩ => ?_
    exact store_ok I2 hN hi hx r2 (fun s3 I3 => ⟨_, H2, I3, q2⟩) hf
  rcases l with ⟨hk, hm⟩ | ⟨hk, c, hc, hcell⟩
  · exact wpAny_loadName_local I.ok.kind hk hn hm go
  · rcases hk with hk | hk
    · exact wpAny_loadName_cell I.ok.kind hk hc hcell go
    · rcases hx with k | k
      · have : X.env.scope.names.lookup x = some .free := hk
        rw [k] at this; cases this
      · have : X.env.scope.names.lookup x = some .free := hk
        rw [k] at this; cases this
/-- o[i] op= e -/
def tAugS (to ti te : TE) (tget : V → V → Hp → VK → Prop) (tip : TIp) (tset : TSet) : TS := fun D σ H => to σ H fun o H1 => ti σ H1 fun i H2 => tget o i H2 fun x H3 => te σ H3 fun y H4 => tip x y H4 fun z H5 => tset o i z H5 fun H6 => D.nx σ H6
/-- o[i], by values -/
def PGet (X : Cx) (t : V → V → Hp → VK → Prop) : Prop :=
  ∀ (pins : List (Addr × Obj)) (s : Shared) (σ : St) (H : Hp) (o i : V) (ov iv : Value) (Q : VK), Inv X pins σ H s → RelV o ov → RelV i iv → t o i H Q →
    wpAny (model X.prog X.w) X.A (getItem ov iv) (EP X pins σ Q) X.xe s
theorem ps_augS {o i e : Expr} {to ti te : TE} {tget : V → V → Hp → VK → Prop} {tip : TIp} {tset : TSet} {op : Operator} {tpos : Pos} (ho : PE X o to) (hi : PE X i ti) (hg : PGet X tget) (he : PE X e te) (hp : PIp X op tip) (hs : PSet X tset)
    (ha : ∀ ov iv new, augStore i ov iv new = (do holding [new, ov, iv] (setItem ov iv new); release [new, ov, iv] []; pure .next) := by intros; rfl) : PS X (.AugAssign (.Subscript o i tpos) op e pos) (tAugS to ti te tget tip tset) := by
  intro pins s σ H D I h
  refine wpAny_AugAssign_SubscriptAny (thn (ho pins s σ H _ I h) fun ov s1 ⟨x1, H1, I1, r1, q1⟩ => ?_) ha
  refine thn (hi pins s1 σ H1 _ I1 q1) fun iv s2 ⟨x2, H2, I2, r2, q2⟩ => ?_
  refine thn (hg pins s2 σ H2 x1 x2 ov iv _ I2 r1 r2 q2) fun old s3 ⟨x3, H3, I3, r3, q3⟩ => ?_
  refine thn (he pins s3 σ H3 _ I3 q3) fun v s4 ⟨x4, H4, I4, r4, q4⟩ => ?_
  refine thn (hp pins s4 σ H4 x3 x4 old v _ I4 r3 r4 q4) fun new s5 ⟨x5, H5, I5, r5, q5⟩ => ?_
  exact thn (hs pins s5 σ H5 x1 x2 x5 ov iv new _ I5 r1 r2 r5 q5) fun _ s6 ⟨H6, I6, q6⟩ => ⟨σ, H6, I6, q6⟩
/-- ints -/
def ipI (f : Int → Int → Int) : TIp := fun x y H Q => ∃ i j, x = .int i ∧ y = .int j ∧ Q (.int (f i j)) H
theorem ip_add : PIp X .Add (ipI fun i j => i + j) := by
  intro pins s σ H x y v u Q I r1 r2 h
  obtain ⟨i, j, e1, e2, q⟩ := h
  subst e1; subst e2
  obtain ⟨t, rfl⟩ := r1
  obtain ⟨t', rfl⟩ := r2
  exact iadd_int ⟨.int _, H, I.tok _, ⟨_, rfl⟩, q⟩
theorem ip_sub : PIp X .Sub (ipI fun i j => i - j) := by
  intro pins s σ H x y v u Q I r1 r2 h
  obtain ⟨i, j, e1, e2, q⟩ := h
  subst e1; subst e2
  obtain ⟨t, rfl⟩ := r1
  obtain ⟨t', rfl⟩ := r2
  exact isub_int ⟨.int _, H, I.tok _, ⟨_, rfl⟩, q⟩
end

/-! ### while -/
section
variable {X : Cx} {pos : Pos}
/-- the invariant W with its measure -/
def tWhile (c : TT) (tb : TS) : TS := fun D σ H => ∃ W : Nat → St → Hp → Prop, (∃ m, W m σ H) ∧ ∀ m σ H, W m σ H →
  c σ H fun b H1 => if b = true then ∃ N : St → Hp → Prop, (∀ σ' H', N σ' H' → ∃ m', m' < m ∧ W m' σ' H') ∧ tb { D with nx := N, ct := N, bk := D.nx } σ H1 else D.nx σ H1
theorem ps_while {c : Expr} {body : List Stmt} {tc : TT} {tb : TS} (hp : PassesOwn (model X.prog X.w) X.A X.env X.xe) (hc : PT X c tc) (hb : PSs X body tb) : PS X (.While c body [] pos) (tWhile tc tb) := by
  intro pins s σ H D I h
  obtain ⟨W, ⟨m0, w0⟩, turn⟩ := h
  refine wpAny_While (codeAny_whileLoop (fun n s' => ∃ σ' H', Inv X pins σ' H' s' ∧ W n σ' H') ?_ m0 ⟨σ, H, I, w0⟩)
  rintro n s1 ⟨σ1, H1, I1, w1⟩
  refine wpAny_passesOwn hp (thn (hc pins s1 σ1 H1 _ I1 (turn n σ1 H1 w1)) fun b s2 ⟨H2, I2, q2⟩ => ?_)
  cases b with
  | true =>
    obtain ⟨N, hN, q2⟩ := q2
    rw [if_pos rfl]
    refine wpAny_passesOwn hp (thn (hb pins s2 σ1 H2 _ I2 q2) fun f s3 q3 => ?_)
    cases f with
    | next =>
      obtain ⟨σ3, H3, I3, n3⟩ := q3
      obtain ⟨m', hm, w3⟩ := hN σ3 H3 n3
      exact ⟨m', hm, σ3, H3, I3, w3⟩
    | cont =>
      obtain ⟨σ3, H3, I3, n3⟩ := q3
      obtain ⟨m', hm, w3⟩ := hN σ3 H3 n3
      exact ⟨m', hm, σ3, H3, I3, w3⟩
    | brk => exact q3
    | ret v => exact q3
  | false =>
    rw [if_neg Bool.false_ne_true]
    exact wpAny_execs_nil ⟨σ1, H2, I2, q2⟩
end

/-! ### what a loop or a comprehension walks -/
/-- at turn i: it yields x (the heap may grow), or it stops -/
structure It where
  go : Nat → Hp → Prop
  yld : Nat → Hp → V → Hp → Prop
  stop : Nat → Hp → Prop
/-- the iterator's own objects may turn: they are not the frame's, not pinned, younger than the entry (or a comprehension's own) -/
def FpOk (X : Cx) (pins : List (Addr × Obj)) (H : Hp) (b : Addr) : Prop :=
  H b = none ∧ b ≠ X.env.locals ∧ b ∉ X.fs ∧ (b ∈ X.ex ∨ X.s₀.heap.objs.size ≤ b) ∧ (∀ x c, X.env.cells.lookup x = some c → c ≠ b) ∧ ∀ p ∈ X.pn ++ pins, p.1 ≠ b
theorem Inv.fpOk {X : Cx} {pins : List (Addr × Obj)} {σ : St} {H H' : Hp} {s : Shared} {b : Addr} (I : Inv X pins σ H s) (hb : s.heap.objs.size ≤ b) (hn : H' b = none) : FpOk X pins H' b := by
  refine ⟨hn, Nat.ne_of_gt (Nat.lt_of_lt_of_le I.lt hb), I.nofs hb, .inr (Nat.le_trans I.sz hb), fun x c e z => ?_, fun p hp z => ?_⟩
  · obtain ⟨v, q⟩ := I.cell x c e
    exact absurd (Nat.lt_of_lt_of_le q.lt (by rw [z]; exact hb)) (Nat.lt_irrefl _)
  · exact absurd (Nat.lt_of_lt_of_le (Heap.lt_size (I.pin p hp).1) (by rw [z]; exact hb)) (Nat.lt_irrefl _)
structure Turn (P : Program) (w : World) (K : PySem.W.Frag) (tg : Expr) (J : It) (fp : List Addr) (it : Addr) (tn : Nat → Heap → Prop) : Prop where
  mem : it ∈ fp
  obj : ∀ i h, tn i h → ∀ b ∈ fp, ∃ o, h.get? b = some o ∧ ∀ v, o.data ≠ .cell v
  keep : ∀ i h h', tn i h → (∀ b ∈ fp, ∀ o, h.get? b = some o → h'.get? b = some o) → tn i h'
  item : ∀ (X : Cx), X.prog = P → X.w = w → X.K = K → X.calm = true → ∀ (i : Nat) (pins : List (Addr × Obj)) (s : Shared) (σ : St) (H : Hp) (E : Value → Shared → Prop), Inv X pins σ H s → (∀ b ∈ fp, FpOk X pins H b) → tn i s.heap → J.go i H →
    wpAny (model P w) X.A (pyNext (.ref it)) (fun r s1 => ∃ u, r = some u ∧
      wpAny (model P w) X.A (letOwnedTupleGo tg (.ref it) u) (fun _ s2 => ∃ x H', Inv X pins σ H' s2 ∧ RelV x u ∧ J.yld i H x H' ∧ tn (i + 1) s2.heap ∧ ∀ b ∈ fp, H' b = none) E s1) E s
  done : ∀ (X : Cx), X.prog = P → X.w = w → X.K = K → X.calm = true → ∀ (i : Nat) (pins : List (Addr × Obj)) (s : Shared) (σ : St) (H : Hp) (E : Value → Shared → Prop), Inv X pins σ H s → (∀ b ∈ fp, FpOk X pins H b) → tn i s.heap → J.stop i H →
    wpAny (model P w) X.A (pyNext (.ref it)) (fun r s1 => r = none ∧ Inv X pins σ H s1) E s
  self : ∀ (A : Around) (i : Nat) (s : Shared) (Q : Value → Shared → Prop) (E : Value → Shared → Prop), tn i s.heap → Q (.ref it) s → wpAny (model P w) A (pyIter (.ref it)) Q E s
abbrev TI := St → Hp → (It → Hp → Prop) → Prop
/-- an iterator has come -/
def PIE (X : Cx) (pins : List (Addr × Obj)) (σ : St) (tg : Expr) (R : It → Hp → Prop) (itv : Value) (s2 : Shared) : Prop :=
  ∃ (it : Addr) (fp : List Addr) (tn : Nat → Heap → Prop) (J : It) (H' : Hp), itv = .ref it ∧ Inv X pins σ H' s2 ∧ Turn X.prog X.w X.K tg J fp it tn ∧ tn 0 s2.heap ∧ (∀ b ∈ fp, FpOk X pins H' b) ∧ R J H'
def PI (X : Cx) (tg iter : Expr) (wi : TI) : Prop :=
  ∀ (pins : List (Addr × Obj)) (s : Shared) (σ : St) (H : Hp) (R : It → Hp → Prop), Inv X pins σ H s → wi σ H R →
    wpAny (model X.prog X.w) X.A (eval iter X.env) (fun v s1 => wpAny (model X.prog X.w) X.A (pyIter v) (PIE X pins σ tg R) X.xe s1) X.xe s

/-- the step ahead of the store is nothing for an iterator that keeps no tuple -/
theorem go_of {M : Model} {A : Around} {E : Value → Shared → Prop} {s : Shared} {tg : Expr} {it : Addr} {u : Value} {o : Obj} {n : String} {vs : Array Value} {Q : Unit → Shared → Prop} (ho : s.heap.get? it = some o) (hc : o.cls = .type n) (hd : o.data = .fields vs)
    (hn : ["enumerate", "zip", "dict_itemiterator", "dict_reverseitemiterator", "odict_iterator", "itertools.zip_longest", "itertools.pairwise"].contains n = false) (hQ : Q () s) : wpAny M A (letOwnedTupleGo tg (.ref it) u) Q E s := by
  unfold letOwnedTupleGo
  cases tg <;> first
    | exact wpAny_pure hQ
    | (cases u <;> first
        | exact wpAny_pure hQ
        | (refine wpAny_bind (wpAny_load ho ?_)
           rw [hc, hd]
           show wpAny M A (if (["enumerate", "zip", "dict_itemiterator", "dict_reverseitemiterator", "odict_iterator", "itertools.zip_longest", "itertools.pairwise"].contains n && vs[0]? == some (rawInt _)) = true then _ else _) Q E s
           rw [if_neg (by intro h; rw [hn, Bool.false_and] at h; cases h)]
           exact wpAny_pure hQ))

/-- the list at a, as it stands at each turn (a loop may append to it) -/
def Itl (K : PySem.W.Frag) (a : Addr) : It :=
  ⟨fun i H => ∃ xs x, SqL K H a xs ∧ xs[i]? = some x, fun i H x H' => H' = H ∧ ∀ xs, SqL K H a xs → xs[i]? = some x, fun i H => ∃ xs, SqL K H a xs ∧ xs.length ≤ i⟩
def Itt (K : PySem.W.Frag) (a : Addr) : It :=
  ⟨fun i H => ∃ xs x, SqT K H a xs ∧ xs[i]? = some x, fun i H x H' => H' = H ∧ ∀ xs, SqT K H a xs → xs[i]? = some x, fun i H => ∃ xs, SqT K H a xs ∧ xs.length ≤ i⟩
/-- lo, lo + 1, .. (n of them) -/
def Itr (lo : Int) (n : Nat) : It := ⟨fun i _ => i < n, fun i H x H' => H' = H ∧ x = .int (lo + i), fun i _ => n ≤ i⟩
theorem turn_list {P : Program} {w : World} {K : PySem.W.Frag} {tg : Expr} (a it : Addr) : Turn P w K tg (Itl K a) [it] it (fun i h => h.IsListIter it a i) where
  mem := by simp
  obj := fun i h st b hb => by
    have e : b = it := by simpa using hb
    subst e
    obtain ⟨o, e, c, d⟩ := st
    exact ⟨o, e, fun v z => by rw [d] at z; cases z⟩
  keep := fun i h h' st k => st.at fun o e => k it (by simp) o e
  item := by
    intro X hP hw hK hc i pins s σ H E I hf st hg
    subst hP hw hK
    obtain ⟨xs, x, hq, hx⟩ := hg
    obtain ⟨its, rv, p, hz⟩ := I.list hq
    obtain ⟨u, hu, ru⟩ := rv.get hx
    obtain ⟨f0, f1, f2, f3, f4, f5⟩ := hf it (by simp)
    refine wpAny_pyNext_list_item st p.isList (x := u) (by simpa using hu) fun h' st' sb => ?_
    have I1 : Inv X pins σ H { s with heap := h' } := I.turned (t' := s.toks) (fun b o hb e => (sb.2 b hb).trans e) f0 f1 f3 f4 f5
    obtain ⟨o, e, c, d⟩ := id st'
    exact ⟨u, rfl, go_of (s := { s with heap := h' }) e c d (by decide) ⟨x, H, I1, ru, ⟨rfl, fun ys hy => by rw [I.list_inj hy hq]; exact hx⟩, st', fun b hb => (hf b hb).1⟩⟩
  done := by
    intro X hP hw hK hc i pins s σ H E I hf st hg
    subst hP hw hK
    obtain ⟨xs, hq, hx⟩ := hg
    obtain ⟨its, rv, p, hz⟩ := I.list hq
    obtain ⟨f0, f1, f2, f3, f4, f5⟩ := hf it (by simp)
    have hl := rv.length
    exact wpAny_pyNext_list_end (I.ok.hd hc) st p.isList (by simp; omega) fun h' eb => ⟨rfl, I.turned (t' := s.toks) (fun b o hb e => eb b o hb e) f0 f1 f3 f4 f5⟩
  self := fun _ _ _ _ _ st h => wpAny_pyIter_listiter st h
theorem turn_tuple {P : Program} {w : World} {K : PySem.W.Frag} {tg : Expr} (a it : Addr) : Turn P w K tg (Itt K a) [it] it (fun i h => h.IsTupleIter it a i) where
  mem := by simp
  obj := fun i h st b hb => by
    have e : b = it := by simpa using hb
    subst e
    obtain ⟨o, e, c, d⟩ := st
    exact ⟨o, e, fun v z => by rw [d] at z; cases z⟩
  keep := fun i h h' st k => st.at fun o e => k it (by simp) o e
  item := by
    intro X hP hw hK hc i pins s σ H E I hf st hg
    subst hP hw hK
    obtain ⟨xs, x, hq, hx⟩ := hg
    obtain ⟨its, rv, p, hz⟩ := I.tuple hq
    obtain ⟨u, hu, ru⟩ := rv.get hx
    obtain ⟨f0, f1, f2, f3, f4, f5⟩ := hf it (by simp)
    refine wpAny_pyNext_tuple_item st (show s.heap.IsTuple a its.toArray from p) (x := u) (by simpa using hu) fun h' st' sb => ?_
    have I1 : Inv X pins σ H { s with heap := h' } := I.turned (t' := s.toks) (fun b o hb e => (sb.2 b hb).trans e) f0 f1 f3 f4 f5
    obtain ⟨o, e, c, d⟩ := id st'
    exact ⟨u, rfl, go_of (s := { s with heap := h' }) e c d (by decide) ⟨x, H, I1, ru, ⟨rfl, fun ys hy => by rw [I.tuple_inj hy hq]; exact hx⟩, st', fun b hb => (hf b hb).1⟩⟩
  done := by
    intro X hP hw hK hc i pins s σ H E I hf st hg
    subst hP hw hK
    obtain ⟨xs, hq, hx⟩ := hg
    obtain ⟨its, rv, p, hz⟩ := I.tuple hq
    obtain ⟨f0, f1, f2, f3, f4, f5⟩ := hf it (by simp)
    have hl := rv.length
    exact wpAny_pyNext_tuple_end (I.ok.hd hc) st (show s.heap.IsTuple a its.toArray from p) (by simp; omega) fun h' eb => ⟨rfl, I.turned (t' := s.toks) (fun b o hb e => eb b o hb e) f0 f1 f3 f4 f5⟩
  self := fun _ _ _ _ _ st h => wpAny_pyIter_tupleiter st h
theorem turn_range {P : Program} {w : World} {K : PySem.W.Frag} {tg : Expr} (it : Addr) (lo : Int) (n : Nat) : Turn P w K tg (Itr lo n) [it] it (fun i h => IsRangeIter h it (lo + (i : Nat) * 1) ((n : Int) - (i : Nat)) 1) where
  mem := by simp
  obj := fun i h st b hb => by
    have e : b = it := by simpa using hb
    subst e
    exact ⟨_, st, fun v z => by
      have z' : Data.fields _ = Data.cell v := z
      cases z'⟩
  keep := fun i h h' st k => k it (by simp) _ st
  item := by
    intro X hP hw hK hc i pins s σ H E I hf st hg
    subst hP hw hK
    obtain ⟨f0, f1, f2, f3, f4, f5⟩ := hf it (by simp)
    have W := Walks.range (prog := X.prog) (w := X.w) (I.ok.hd hc) it lo 1 n
    refine W.item i s _ _ hg st fun v h' tk hv st' kk => ?_
    obtain ⟨t, rfl⟩ := hv
    have I1 : Inv X pins σ H { s with heap := h', toks := tk } := I.turned (fun b o hb e => kk b o (by simpa using hb) e) f0 f1 f3 f4 f5
    refine ⟨_, rfl, go_of (s := { s with heap := h', toks := tk }) (n := "range_iterator") st' rfl rfl (by decide) ⟨.int (lo + i), H, I1, ⟨t, ?_⟩, ⟨rfl, rfl⟩, st', fun b hb => (hf b hb).1⟩⟩
    rw [Int.mul_one]
  done := by
    intro X hP hw hK hc i pins s σ H E I hf st hg
    subst hP hw hK
    obtain ⟨f0, f1, f2, f3, f4, f5⟩ := hf it (by simp)
    exact wpAny_pyNext_range_end (I.ok.hd hc) st (by have : n ≤ i := hg; omega) fun h' eb => ⟨rfl, I.turned (t' := s.toks) (fun b o hb e => eb b o hb e) f0 f1 f3 f4 f5⟩
  self := fun _ _ _ _ _ st h => wpAny_pyIter_rangeiter st h
end L2

namespace L2
open PySem PySem.Spec PyProof.Rows
section
variable {X : Cx} {tg : Expr}
def iList (K : PySem.W.Frag) (tl : TE) : TI := fun σ H R => tl σ H fun x H1 => ∃ a, x = .ref a ∧ (∃ xs, SqL K H1 a xs) ∧ R (Itl K a) H1
def iTup (K : PySem.W.Frag) (tl : TE) : TI := fun σ H R => tl σ H fun x H1 => ∃ a, x = .ref a ∧ (∃ xs, SqT K H1 a xs) ∧ R (Itt K a) H1
theorem pi_list {l : Expr} {tl : TE} (hl : PE X l tl) : PI X tg l (iList X.K tl) := by
  intro pins s σ H R I h
  refine thn (hl pins s σ H _ I h) fun v s1 ⟨x, H1, I1, r1, q1⟩ => ?_
  obtain ⟨a, e, ⟨xs, hq⟩, q⟩ := q1
  subst e
  cases r1
  obtain ⟨its, rv, p, hz⟩ := I1.list hq
  refine wpAny_pyIter_list p.isList ?_
  refine ⟨s1.heap.objs.size, [s1.heap.objs.size], _, _, H1, rfl, I1.kept (t' := s1.toks) fun b o e => Heap.get?_push_of_some _ e, turn_list a _, ⟨_, Heap.get?_push_size _ rfl, rfl, rfl⟩, fun b hb => ?_, q⟩
  have e : b = s1.heap.objs.size := by simpa using hb
  subst e
  exact I1.fpOk (Nat.le_refl _) (I1.hok.fresh (Nat.le_refl _))
theorem pi_tup {l : Expr} {tl : TE} (hl : PE X l tl) : PI X tg l (iTup X.K tl) := by
  intro pins s σ H R I h
  refine thn (hl pins s σ H _ I h) fun v s1 ⟨x, H1, I1, r1, q1⟩ => ?_
  obtain ⟨a, e, ⟨xs, hq⟩, q⟩ := q1
  subst e
  cases r1
  obtain ⟨its, rv, p, hz⟩ := I1.tuple hq
  refine wpAny_pyIter_tuple (show s1.heap.IsTuple a its.toArray from p) ?_
  refine ⟨s1.heap.objs.size, [s1.heap.objs.size], _, _, H1, rfl, I1.kept (t' := s1.toks) fun b o e => Heap.get?_push_of_some _ e, turn_tuple a _, ⟨_, Heap.get?_push_size _ rfl, rfl, rfl⟩, fun b hb => ?_, q⟩
  have e : b = s1.heap.objs.size := by simpa using hb
  subst e
  exact I1.fpOk (Nat.le_refl _) (I1.hok.fresh (Nat.le_refl _))
/-- a range object just made, walked -/
theorem range_it {pins : List (Addr × Obj)} {σ : St} {H : Hp} {s : Shared} {R : It → Hp → Prop} {E : Value → Shared → Prop} {lo hi : Int} {t u v : Tok} {tk : Nat} (I : Inv X pins σ H s) (h1 : -(2 ^ 62) ≤ lo) (h2 : lo < 2 ^ 62) (h3 : -(2 ^ 62) ≤ hi) (h4 : hi < 2 ^ 62)
    (q : R (Itr lo (hi - lo).toNat) H) : wpAny (model X.prog X.w) X.A (pyIter (.ref s.heap.objs.size)) (PIE X pins σ tg R) E { s with heap := s.heap.push { cls := .type "range", data := .fields #[.int lo t, .int hi u, .int 1 v] }, toks := tk } := by
  refine wpAny_pyIter_range (IsRange.new ..) (small_one h1 h2 h3 h4) ?_
  have I1 : Inv X pins σ H { s with heap := s.heap.push { cls := .type "range", data := .fields #[.int lo t, .int hi u, .int 1 v] }, toks := tk } := I.kept fun b o e => Heap.get?_push_of_some _ e
  refine ⟨(s.heap.push { cls := .type "range", data := .fields #[.int lo t, .int hi u, .int 1 v] }).objs.size, [(s.heap.push { cls := .type "range", data := .fields #[.int lo t, .int hi u, .int 1 v] }).objs.size], _, _, H, rfl,
    I1.kept (t' := tk) fun b o e => Heap.get?_push_of_some _ e, turn_range _ lo (hi - lo).toNat, ?_, fun b hb => ?_, q⟩
  · have e1 : lo + ((0 : Nat) : Int) * 1 = lo := by simp
    have e2 : (((hi - lo).toNat : Nat) : Int) - ((0 : Nat) : Int) = Builtin.Range.rangeSize lo hi 1 := by rw [rangeSize_one]; split <;> omega
    show IsRangeIter _ _ (lo + ((0 : Nat) : Int) * 1) ((((hi - lo).toNat : Nat) : Int) - ((0 : Nat) : Int)) 1
    rw [e1, e2]
    exact Heap.get?_push_size _ rfl
  · have e : b = (s.heap.push { cls := .type "range", data := .fields #[.int lo t, .int hi u, .int 1 v] }).objs.size := by simpa using hb
    subst e
    exact I1.fpOk (Nat.le_refl _) (I1.hok.fresh (Nat.le_refl _))
def iRng1 (ta : TA) : TI := fun σ H R => ta σ H fun vs H1 => ∃ j : Int, vs = [.int j] ∧ -(2 ^ 62) ≤ j ∧ j < 2 ^ 62 ∧ R (Itr 0 j.toNat) H1
def iRng2 (ta : TA) : TI := fun σ H R => ta σ H fun vs H1 => ∃ i j : Int, vs = [.int i, .int j] ∧ (-(2 ^ 62) ≤ i ∧ i < 2 ^ 62 ∧ -(2 ^ 62) ≤ j ∧ j < 2 ^ 62) ∧ R (Itr i (j - i).toNat) H1
theorem pi_range1 {a : Expr} {ta : TA} {p pos : Pos} (hg : Gl X "range") (hm : X.mg "range" = none) (ha : PA X [a] ta) (hs : starEach [a] X.env = [(false, eval a X.env)] := by rfl) : PI X tg (.Call (.Name "range" p) [a] [] pos) (iRng1 ta) := by
  intro pins s σ H R I h
  refine Call_ (ld_blt I hg hm boot_range (PyProof.Rows.callWith_type1 (thn (ha pos pins s σ H _ I h) fun us s1 ⟨vs, H1, I1, r1, q1⟩ => ?_) hs rfl))
  obtain ⟨j, e, q1, q2, q⟩ := q1
  subst e
  cases r1 with
  | cons r rr =>
    cases rr
    obtain ⟨t, rfl⟩ := r
    exact call_range_1 (range_it I1 (by omega) (by omega) q1 q2 (by simpa using q))
theorem pi_range2 {a b : Expr} {ta : TA} {p pos : Pos} (hg : Gl X "range") (hm : X.mg "range" = none) (ha : PA X [a, b] ta) (hs : starEach [a, b] X.env = [(false, eval a X.env), (false, eval b X.env)] := by rfl) (hs2 : starEach [b] X.env = [(false, eval b X.env)] := by rfl) :
    PI X tg (.Call (.Name "range" p) [a, b] [] pos) (iRng2 ta) := by
  intro pins s σ H R I h
  refine Call_ (ld_blt I hg hm boot_range (PyProof.Rows.callWith_type1 (thn (ha pos pins s σ H _ I h) fun us s1 ⟨vs, H1, I1, r1, q1⟩ => ?_) (by rw [hs, hs2]) (by rw [hs2]; rfl)))
  obtain ⟨i, j, e, ⟨q1, q2, q3, q4⟩, q⟩ := q1
  subst e
  cases r1 with
  | cons r rr =>
    cases rr with
    | cons r' rr =>
      cases rr
      obtain ⟨t, rfl⟩ := r
      obtain ⟨t', rfl⟩ := r'
      exact call_range_2 (range_it I1 q1 q2 q3 q4 q)

/-! ### for -/
/-- W: the invariant by the turn and a measure; N: what the body is to reach -/
def tFor (wi : TI) (g : TG) (tb : TS) : TS := fun D σ H => wi σ H fun J H1 => ∃ W : Nat → Nat → St → Hp → Prop, (∃ m, W 0 m σ H1) ∧ ∀ i m σ H, W i m σ H →
  (J.stop i H ∧ D.nx σ H) ∨ (J.go i H ∧ ∃ N : St → Hp → Prop, (∀ σ' H', N σ' H' → ∃ m', m' < m ∧ W (i + 1) m' σ' H') ∧ ∀ x H', J.yld i H x H' → g x σ H' fun σ2 H2 => tb { D with nx := N, ct := N, bk := D.nx } σ2 H2)
/-- the records at fp as they stand -/
def pinsAt (fp : List Addr) (h : Heap) : List (Addr × Obj) := fp.filterMap fun b => (h.get? b).map fun o => (b, o)
theorem mem_pinsAt {fp : List Addr} {h : Heap} {b : Addr} {o : Obj} (hb : b ∈ fp) (e : h.get? b = some o) : (b, o) ∈ pinsAt fp h := List.mem_filterMap.mpr ⟨b, hb, by rw [e]; rfl⟩
theorem of_pinsAt {fp : List Addr} {h : Heap} {p : Addr × Obj} (hp : p ∈ pinsAt fp h) : p.1 ∈ fp ∧ h.get? p.1 = some p.2 := by
  obtain ⟨b, hb, e⟩ := List.mem_filterMap.mp hp
  cases q : h.get? b with
  | none => rw [q] at e; cases e
  | some o =>
    rw [q] at e
    have e' : (b, o) = p := Option.some.inj e
    subst e'
    exact ⟨hb, q⟩
theorem Inv.pinned {pins : List (Addr × Obj)} {σ : St} {H : Hp} {s : Shared} {fp : List Addr} (I : Inv X pins σ H s) (hf : ∀ b ∈ fp, FpOk X pins H b) (ho : ∀ b ∈ fp, ∃ o, s.heap.get? b = some o ∧ ∀ v, o.data ≠ .cell v) : Inv X (pins ++ pinsAt fp s.heap) σ H s :=
  I.pins_of fun p hp => (List.mem_append.mp hp).elim (fun z => I.pin p (List.mem_append_right _ z)) fun z => by
    obtain ⟨hb, e⟩ := of_pinsAt z
    obtain ⟨f0, f1, f2, _⟩ := hf p.1 hb
    obtain ⟨o, e', d⟩ := ho p.1 hb
    rw [e] at e'; cases e'
    exact ⟨e, f0, f1, f2, d⟩
theorem Inv.unpinned {pins pl : List (Addr × Obj)} {σ : St} {H : Hp} {s : Shared} (I : Inv X (pins ++ pl) σ H s) : Inv X pins σ H s := I.pins_of fun p hp => I.pin p (List.mem_append_right _ (List.mem_append_left _ hp))
theorem ps_for {iter : Expr} {body : List Stmt} {wi : TI} {g : TG} {tb : TS} {pos : Pos} (hp : PassesOwn (model X.prog X.w) X.A X.env X.xe) (hc : X.calm = true) (hi : PI X tg iter wi) (hg : PG X tg g) (hb : PSs X body tb)
    (hs : ∀ x, foldedSetIterable iter X.env x = pure x := by intro _; rfl) : PS X (.For tg iter body [] pos) (tFor wi g tb) := by
  intro pins s σ H D I h
  refine wpAny_For (thn (hi pins s σ H _ I h) fun v s1 h1 => thn h1 fun itv s2 h2 => ?_) hs
  obtain ⟨it, fp, tn, J, H2, e, I2, T, st2, f2, W, ⟨m0, w0⟩, turn⟩ := h2
  subst e
  -- what stays true of the iterator's objects through the loop
  have stat : ∀ {H' : Hp}, (∀ b ∈ fp, H' b = none) → ∀ b ∈ fp, FpOk X pins H' b := fun hn b hb => ⟨hn b hb, (f2 b hb).2⟩
  refine codeAny_forLoop_any (fun n s' => ∃ i σ' H', Inv X pins σ' H' s' ∧ tn i s'.heap ∧ (∀ b ∈ fp, H' b = none) ∧ W i n σ' H') ?_ m0 ⟨0, σ, H2, I2, st2, fun b hb => (f2 b hb).1, w0⟩
  rintro n s3 ⟨i, σ3, H3, I3, st3, fr3, w3⟩
  rcases turn i n σ3 H3 w3 with ⟨stop, qn⟩ | ⟨go, N, hN, step⟩
  · refine wpAny_passesOwn hp (thn (T.done X rfl rfl rfl hc i pins s3 σ3 H3 X.xe I3 (stat fr3) st3 stop) fun r s4 ⟨hr, I4⟩ => ?_)
    subst hr
    exact wpAny_execs_nil ⟨σ3, H3, I4, qn⟩
  · refine wpAny_passesOwn hp (thn (T.item X rfl rfl rfl hc i pins s3 σ3 H3 X.xe I3 (stat fr3) st3 go) fun r s4 ⟨u, hr, h4⟩ => ?_)
    subst hr
    refine wpAny_passesOwn hp (thn h4 fun _ s5 ⟨x, H5, I5, r5, y5, st5, fr5⟩ => ?_)
    have I5' := I5.pinned (stat fr5) (T.obj _ _ st5)
    refine wpAny_passesOwn hp (thn (hg _ s5 σ3 H5 x u _ I5' r5 (step x H5 y5)) fun _ s6 ⟨σ6, H6, I6, q6⟩ => ?_)
    refine wpAny_passesOwn hp (thn (hb _ s6 σ6 H6 _ I6 q6) fun f s7 q7 => ?_)
    have again : ∀ {σ7 : St} {H7 : Hp}, Inv X (pins ++ pinsAt fp s5.heap) σ7 H7 s7 → N σ7 H7 → ∃ m, m < n ∧ ∃ i σ' H', Inv X pins σ' H' s7 ∧ tn i s7.heap ∧ (∀ b ∈ fp, H' b = none) ∧ W i m σ' H' := fun {σ7 H7} I7 n7 => by
      obtain ⟨m', hm, w7⟩ := hN σ7 H7 n7
      refine ⟨m', hm, i + 1, σ7, H7, I7.unpinned, T.keep _ _ _ st5 fun b hb o e => (I7.pin (b, o) (List.mem_append_right _ (List.mem_append_right _ (mem_pinsAt hb e)))).1, fun b hb => ?_, w7⟩
      obtain ⟨o, e, d⟩ := T.obj _ _ st5 b hb
      exact (I7.pin (b, o) (List.mem_append_right _ (List.mem_append_right _ (mem_pinsAt hb e)))).2.1
    cases f with
    | next => obtain ⟨σ7, H7, I7, n7⟩ := q7; exact again I7 n7
    | cont => obtain ⟨σ7, H7, I7, n7⟩ := q7; exact again I7 n7
    | brk => obtain ⟨σ7, H7, I7, q7⟩ := q7; exact ⟨σ7, H7, I7.unpinned, q7⟩
    | ret v => obtain ⟨x7, σ7, H7, I7, r7, q7⟩ := q7; exact ⟨x7, σ7, H7, I7.unpinned, r7, q7⟩
end

/-! ### the forms one uses -/
/-- over a list that the body leaves as it is -/
theorem for_list {K : PySem.W.Frag} {a : Addr} {xs : List V} {g : TG} {tb : TS} {D : Ends} {σ : St} {H : Hp} (Pv : Nat → St → Hp → Prop) (h0 : Pv 0 σ H) (hl : ∀ i σ H, i ≤ xs.length → Pv i σ H → SqL K H a xs)
    (hs : ∀ i x σ H, xs[i]? = some x → Pv i σ H → g x σ H fun σ2 H2 => tb { D with nx := Pv (i + 1), ct := Pv (i + 1), bk := D.nx } σ2 H2) (hd : ∀ σ H, Pv xs.length σ H → D.nx σ H) :
    ∃ W : Nat → Nat → St → Hp → Prop, (∃ m, W 0 m σ H) ∧ ∀ i m σ H, W i m σ H →
      ((Itl K a).stop i H ∧ D.nx σ H) ∨ ((Itl K a).go i H ∧ ∃ N : St → Hp → Prop, (∀ σ' H', N σ' H' → ∃ m', m' < m ∧ W (i + 1) m' σ' H') ∧ ∀ x H', (Itl K a).yld i H x H' → g x σ H' fun σ2 H2 => tb { D with nx := N, ct := N, bk := D.nx } σ2 H2) := by
  refine ⟨fun i m σ H => m = xs.length - i ∧ i ≤ xs.length ∧ Pv i σ H, ⟨xs.length, by simp, Nat.zero_le _, h0⟩, ?_⟩
  rintro i m σ H ⟨rfl, hi, p⟩
  have q := hl i σ H hi p
  by_cases hlt : i < xs.length
  · refine .inr ⟨⟨xs, xs[i], q, by simp [hlt]⟩, Pv (i + 1), fun σ' H' p' => ⟨xs.length - (i + 1), by omega, rfl, hlt, p'⟩, fun x H' y => ?_⟩
    obtain ⟨e, y⟩ := y
    subst e
    exact hs i x σ _ (y xs q) p
  · have e : i = xs.length := by omega
    subst e
    exact .inl ⟨⟨xs, q, Nat.le_refl _⟩, hd σ H p⟩
theorem for_tup {K : PySem.W.Frag} {a : Addr} {xs : List V} {g : TG} {tb : TS} {D : Ends} {σ : St} {H : Hp} (Pv : Nat → St → Hp → Prop) (h0 : Pv 0 σ H) (hl : ∀ i σ H, i ≤ xs.length → Pv i σ H → SqT K H a xs)
    (hs : ∀ i x σ H, xs[i]? = some x → Pv i σ H → g x σ H fun σ2 H2 => tb { D with nx := Pv (i + 1), ct := Pv (i + 1), bk := D.nx } σ2 H2) (hd : ∀ σ H, Pv xs.length σ H → D.nx σ H) :
    ∃ W : Nat → Nat → St → Hp → Prop, (∃ m, W 0 m σ H) ∧ ∀ i m σ H, W i m σ H →
      ((Itt K a).stop i H ∧ D.nx σ H) ∨ ((Itt K a).go i H ∧ ∃ N : St → Hp → Prop, (∀ σ' H', N σ' H' → ∃ m', m' < m ∧ W (i + 1) m' σ' H') ∧ ∀ x H', (Itt K a).yld i H x H' → g x σ H' fun σ2 H2 => tb { D with nx := N, ct := N, bk := D.nx } σ2 H2) := by
  refine ⟨fun i m σ H => m = xs.length - i ∧ i ≤ xs.length ∧ Pv i σ H, ⟨xs.length, by simp, Nat.zero_le _, h0⟩, ?_⟩
  rintro i m σ H ⟨rfl, hi, p⟩
  have q := hl i σ H hi p
  by_cases hlt : i < xs.length
  · refine .inr ⟨⟨xs, xs[i], q, by simp [hlt]⟩, Pv (i + 1), fun σ' H' p' => ⟨xs.length - (i + 1), by omega, rfl, hlt, p'⟩, fun x H' y => ?_⟩
    obtain ⟨e, y⟩ := y
    subst e
    exact hs i x σ _ (y xs q) p
  · have e : i = xs.length := by omega
    subst e
    exact .inl ⟨⟨xs, q, Nat.le_refl _⟩, hd σ H p⟩
theorem for_range {lo : Int} {n : Nat} {g : TG} {tb : TS} {D : Ends} {σ : St} {H : Hp} (Pv : Nat → St → Hp → Prop) (h0 : Pv 0 σ H)
    (hs : ∀ i σ H, i < n → Pv i σ H → g (.int (lo + i)) σ H fun σ2 H2 => tb { D with nx := Pv (i + 1), ct := Pv (i + 1), bk := D.nx } σ2 H2) (hd : ∀ σ H, Pv n σ H → D.nx σ H) :
    ∃ W : Nat → Nat → St → Hp → Prop, (∃ m, W 0 m σ H) ∧ ∀ i m σ H, W i m σ H →
      ((Itr lo n).stop i H ∧ D.nx σ H) ∨ ((Itr lo n).go i H ∧ ∃ N : St → Hp → Prop, (∀ σ' H', N σ' H' → ∃ m', m' < m ∧ W (i + 1) m' σ' H') ∧ ∀ x H', (Itr lo n).yld i H x H' → g x σ H' fun σ2 H2 => tb { D with nx := N, ct := N, bk := D.nx } σ2 H2) := by
  refine ⟨fun i m σ H => m = n - i ∧ i ≤ n ∧ Pv i σ H, ⟨n, by simp, Nat.zero_le _, h0⟩, ?_⟩
  rintro i m σ H ⟨rfl, hi, p⟩
  by_cases hlt : i < n
  · refine .inr ⟨hlt, Pv (i + 1), fun σ' H' p' => ⟨n - (i + 1), by omega, rfl, hlt, p'⟩, fun x H' y => ?_⟩
    obtain ⟨e, y⟩ := y
    subst e y
    exact hs i σ _ hlt p
  · have e : i = n := by omega
    subst e
    exact .inl ⟨Nat.le_refl _, hd σ H p⟩
/-- while, by a word and a measure of the state -/
theorem while_by {c : TT} {tb : TS} {D : Ends} {σ : St} {H : Hp} (Pv : St → Hp → Prop) (μ : St → Hp → Nat) (h0 : Pv σ H)
    (hs : ∀ σ H, Pv σ H → c σ H fun b H1 => if b = true then tb { D with nx := fun σ' H' => Pv σ' H' ∧ μ σ' H' < μ σ H, ct := fun σ' H' => Pv σ' H' ∧ μ σ' H' < μ σ H, bk := D.nx } σ H1 else D.nx σ H1)
    (mono : ∀ σ H Q Q', (∀ b H1, Q b H1 → Q' b H1) → c σ H Q → c σ H Q') : tWhile c tb D σ H := by
  refine ⟨fun m σ H => m = μ σ H ∧ Pv σ H, ⟨_, rfl, h0⟩, ?_⟩
  rintro m σ H ⟨rfl, p⟩
  refine mono σ H _ _ (fun b H1 q => ?_) (hs σ H p)
  cases b with
  | true => exact ⟨_, fun σ' H' ⟨p', l⟩ => ⟨_, l, rfl, p'⟩, q⟩
  | false => exact q
end L2

namespace L2
open PySem PySem.Spec PyProof.Rows

abbrev R2 := V → V → Hp → VK → Prop
/-- a two-place operation on values: f is binaryOp op, inplaceOp op or compareOp op -/
def OpR (X : Cx) (f : Value → Value → Sem Value) (r : R2) : Prop :=
  ∀ (pins : List (Addr × Obj)) (s : Shared) (σ : St) (H : Hp) (x y : V) (v u : Value) (Q : VK), Inv X pins σ H s → RelV x v → RelV y u → r x y H Q →
    wpAny (model X.prog X.w) X.A (f v u) (EP X pins σ Q) X.xe s
/-- a one-place operation -/
def UnR (X : Cx) (f : Value → Sem Value) (r : V → Hp → VK → Prop) : Prop :=
  ∀ (pins : List (Addr × Obj)) (s : Shared) (σ : St) (H : Hp) (x : V) (v : Value) (Q : VK), Inv X pins σ H s → RelV x v → r x H Q →
    wpAny (model X.prog X.w) X.A (f v) (EP X pins σ Q) X.xe s
/-- a call of a value that is known (a builtin, a type) with values -/
def CallR (X : Cx) (f : Value) (r : List V → Hp → VK → Prop) : Prop :=
  ∀ (pins : List (Addr × Obj)) (s : Shared) (σ : St) (H : Hp) (xs : List V) (us : List Value) (Q : VK), Inv X pins σ H s → Vals xs us → r xs H Q →
    wpAny (model X.prog X.w) X.A (call f us) (EP X pins σ Q) X.xe s
/-- a value's truth -/
def TruR (X : Cx) (r : V → Hp → (Bool → Hp → Prop) → Prop) : Prop :=
  ∀ (pins : List (Addr × Obj)) (s : Shared) (σ : St) (H : Hp) (x : V) (v : Value) (Q : Bool → Hp → Prop), Inv X pins σ H s → RelV x v → r x H Q →
    wpAny (model X.prog X.w) X.A (truthy v) (TP X pins σ Q) X.xe s

def tOp (r : R2) (ta tb : TE) : TE := fun σ H Q => ta σ H fun x H1 => tb σ H1 fun y H2 => r x y H2 Q
def tUn (r : V → Hp → VK → Prop) (ta : TE) : TE := fun σ H Q => ta σ H fun x H1 => r x H1 Q
/-- ints in, under C, and a value out -/
def rI (C : Int → Int → Prop) (g : Int → Int → V) : R2 := fun x y H Q => ∃ i j, x = .int i ∧ y = .int j ∧ C i j ∧ Q (g i j) H
def rI0 (g : Int → Int → V) : R2 := fun x y H Q => ∃ i j, x = .int i ∧ y = .int j ∧ Q (g i j) H
def rU (g : Int → V) : V → Hp → VK → Prop := fun x H Q => ∃ i, x = .int i ∧ Q (g i) H

section
variable {X : Cx} {a b c : Expr} {ta tb tc : TE} {pos : Pos}

theorem binT (ha : PE X a ta) (hb : PE X b tb) {pins : List (Addr × Obj)} {s : Shared} {σ : St} {H : Hp} {R : V → V → Hp → Prop} (I : Inv X pins σ H s)
    (h : ta σ H fun x H1 => tb σ H1 fun y H2 => R x y H2) {Q : Value → Shared → Prop} {f : Value → Value → Sem Value}
    (hf : ∀ v u s2 x y H2, Inv X pins σ H2 s2 → RelV x v → RelV y u → R x y H2 → wpAny (model X.prog X.w) X.A (f v u) Q X.xe s2) :
    wpAny (model X.prog X.w) X.A (eval a X.env) (fun v s₁ => wpAny (model X.prog X.w) X.A (eval b X.env) (fun u s₂ => wpAny (model X.prog X.w) X.A (f v u) Q X.xe s₂) X.xe s₁) X.xe s := by
  refine thn (ha pins s σ H _ I h) fun v s1 ⟨x, H1, I1, r1, q1⟩ => ?_
  refine thn (hb pins s1 σ H1 _ I1 q1) fun u s2 ⟨y, H2, I2, r2, q2⟩ => ?_
  exact hf v u s2 x y H2 I2 r1 r2 q2

theorem pe_op {op : Operator} {r : R2} (ho : OpR X (binaryOp op) r) (ha : PE X a ta) (hb : PE X b tb) : PE X (.BinOp a op b pos) (tOp r ta tb) := by
  intro pins s σ H Q I h
  exact wpAny_BinOp (binT ha hb I h fun v u s2 x y H2 I2 rx ry q => ho pins s2 σ H2 x y v u Q I2 rx ry q)
theorem pe_un {op : UnaryOp} {r : V → Hp → VK → Prop} (ho : UnR X (unaryOp op) r) (ha : PE X a ta) : PE X (.UnaryOp op a pos) (tUn r ta) := by
  intro pins s σ H Q I h
  exact UnaryOp_ (thn (ha pins s σ H _ I h) fun v s1 ⟨x, H1, I1, r1, q1⟩ => ho pins s1 σ H1 x v Q I1 r1 q1)
/-- a op= e at a name: the name's slot i -/
theorem augR {op : Operator} {r : R2} (ho : OpR X (inplaceOp op) r) {pins : List (Addr × Obj)} {s : Shared} {σ : St} {H : Hp} {x y : V} {v u : Value} {Q : VK} (I : Inv X pins σ H s)
    (rx : RelV x v) (ry : RelV y u) (q : r x y H Q) : wpAny (model X.prog X.w) X.A (inplaceOp op v u) (EP X pins σ Q) X.xe s := ho pins s σ H x y v u Q I rx ry q

/-! ### ints -/
theorem opI {f : Value → Value → Sem Value} {C : Int → Int → Prop} {g : Int → Int → Int}
    (rule : ∀ (i j : Int) (t u : Tok) (s : Shared) (Q : Value → Shared → Prop) (E : Value → Shared → Prop), C i j → Q (.int (g i j) s.toks) { s with toks := s.toks + 1 } → wpAny (model X.prog X.w) X.A (f (.int i t) (.int j u)) Q E s) :
    OpR X f (rI C fun i j => .int (g i j)) := by
  intro pins s σ H x y v u Q I rx ry h
  obtain ⟨i, j, rfl, rfl, hc, q⟩ := h
  obtain ⟨t, rfl⟩ := rx
  obtain ⟨t', rfl⟩ := ry
  exact rule i j t t' s _ _ hc ⟨.int (g i j), H, I.tok _, ⟨_, rfl⟩, q⟩
theorem opI0 {f : Value → Value → Sem Value} {g : Int → Int → Int}
    (rule : ∀ (i j : Int) (t u : Tok) (s : Shared) (Q : Value → Shared → Prop) (E : Value → Shared → Prop), Q (.int (g i j) s.toks) { s with toks := s.toks + 1 } → wpAny (model X.prog X.w) X.A (f (.int i t) (.int j u)) Q E s) :
    OpR X f (rI0 fun i j => .int (g i j)) := by
  intro pins s σ H x y v u Q I rx ry h
  obtain ⟨i, j, rfl, rfl, q⟩ := h
  obtain ⟨t, rfl⟩ := rx
  obtain ⟨t', rfl⟩ := ry
  exact rule i j t t' s _ _ ⟨.int (g i j), H, I.tok _, ⟨_, rfl⟩, q⟩
theorem opB0 {f : Value → Value → Sem Value} {g : Int → Int → Bool}
    (rule : ∀ (i j : Int) (t u : Tok) (s : Shared) (Q : Value → Shared → Prop) (E : Value → Shared → Prop), Q (.bool (g i j)) s → wpAny (model X.prog X.w) X.A (f (.int i t) (.int j u)) Q E s) :
    OpR X f (rI0 fun i j => .bl (g i j)) := by
  intro pins s σ H x y v u Q I rx ry h
  obtain ⟨i, j, rfl, rfl, q⟩ := h
  obtain ⟨t, rfl⟩ := rx
  obtain ⟨t', rfl⟩ := ry
  exact rule i j t t' s _ _ ⟨.bl (g i j), H, I, rfl, q⟩

def CDiv (i j : Int) : Prop := 0 < j ∧ j < 1073741824
def CDivN (i j : Int) : Prop := j ≠ 0 ∧ j.natAbs < 1073741824
def CPow (i j : Int) : Prop := 0 ≤ j ∧ j ≤ 1000000 ∧ i.natAbs < 2 ^ 64
def CMul (i j : Int) : Prop := (-(2 ^ 64) < i ∧ i < 2 ^ 64) ∨ (-(2 ^ 64) < j ∧ j < 2 ^ 64)
theorem CMul.ok {i j : Int} (h : CMul i j) : IntMulOk i j := by
  rcases h with ⟨h1, h2⟩ | ⟨h1, h2⟩
  · exact .of_left (intBits_le_64 h1 h2)
  · exact .of_right (intBits_le_64 h1 h2)
theorem two_pow_nn (k : Nat) : (0 : Int) ≤ 2 ^ k := by
  rw [two_pow_cast]
  exact Int.natCast_nonneg _

theorem op_add : OpR X (binaryOp .Add) (rI0 fun i j => .int (i + j)) := opI0 fun _ _ _ _ _ _ _ q => add_int q
theorem op_sub : OpR X (binaryOp .Sub) (rI0 fun i j => .int (i - j)) := opI0 fun _ _ _ _ _ _ _ q => sub_int q
theorem op_mul : OpR X (binaryOp .Mult) (rI CMul fun i j => .int (i * j)) := opI fun _ _ _ _ _ _ _ hc q => mul_int q hc.ok
/-- // by a positive divisor -/
theorem op_fdiv : OpR X (binaryOp .FloorDiv) (rI CDiv fun i j => .int (i / j)) := opI fun i j _ _ _ _ _ hc q => by
  have h1 : (0 : Int) < j := hc.1
  have h2 : j < 1073741824 := hc.2
  exact floordiv_int (by omega) (by rw [Int.fdiv_eq_ediv_of_nonneg i (by omega)]; exact q) (.inl (PyProof.noPylong_small (by omega)))
theorem op_fdivN : OpR X (binaryOp .FloorDiv) (rI CDivN fun i j => .int (i.fdiv j)) := opI fun _ _ _ _ _ _ _ hc q => floordiv_int hc.1 q (.inl (PyProof.noPylong_small hc.2))
/-- % by a positive divisor of any size -/
theorem op_mod : OpR X (binaryOp .Mod) (rI (fun _ j => 0 < j) fun i j => .int (i % j)) := opI fun i j _ _ _ _ _ hc q => by
  have h1 : (0 : Int) < j := hc
  exact mod_int' (by omega) (by rw [Int.fmod_eq_emod_of_nonneg i (by omega)]; exact q)
theorem op_modN : OpR X (binaryOp .Mod) (rI (fun _ j => j ≠ 0) fun i j => .int (i.fmod j)) := opI fun _ _ _ _ _ _ _ hc q => mod_int' hc q
theorem op_pow : OpR X (binaryOp .Pow) (rI CPow fun i j => .int (i ^ j.toNat)) := opI fun _ _ _ _ _ _ _ hc q => pow_int_small hc.1 hc.2.1 hc.2.2 q
theorem op_shl : OpR X (binaryOp .LShift) (rI CPow fun i j => .int (i * 2 ^ j.toNat)) := opI fun _ _ _ _ _ _ _ hc q => lshift_int_small hc.1 hc.2.1 hc.2.2 q
theorem op_shr : OpR X (binaryOp .RShift) (rI (fun _ j => 0 ≤ j) fun i j => .int (i / 2 ^ j.toNat)) := opI fun i j _ _ _ _ _ hc q =>
  rshift_int hc (by rw [Int.fdiv_eq_ediv_of_nonneg i (two_pow_nn _)]; exact q)
theorem op_and : OpR X (binaryOp .BitAnd) (rI0 fun i j => .int (Builtin.bitAnd i j)) := opI0 fun _ _ _ _ _ _ _ q => and_int q
theorem op_or : OpR X (binaryOp .BitOr) (rI0 fun i j => .int (Builtin.bitOr i j)) := opI0 fun _ _ _ _ _ _ _ q => or_int q
theorem op_xor : OpR X (binaryOp .BitXor) (rI0 fun i j => .int (Builtin.bitXor i j)) := opI0 fun _ _ _ _ _ _ _ q => xor_int q

theorem iop_add : OpR X (inplaceOp .Add) (rI0 fun i j => .int (i + j)) := opI0 fun _ _ _ _ _ _ _ q => iadd_int q
theorem iop_sub : OpR X (inplaceOp .Sub) (rI0 fun i j => .int (i - j)) := opI0 fun _ _ _ _ _ _ _ q => isub_int q
theorem iop_mul : OpR X (inplaceOp .Mult) (rI CMul fun i j => .int (i * j)) := opI fun _ _ _ _ _ _ _ hc q => imul_int q hc.ok
theorem iop_fdiv : OpR X (inplaceOp .FloorDiv) (rI CDiv fun i j => .int (i / j)) := opI fun i j _ _ _ _ _ hc q => by
  have h1 : (0 : Int) < j := hc.1
  have h2 : j < 1073741824 := hc.2
  exact ifloordiv_int (by omega) (by rw [Int.fdiv_eq_ediv_of_nonneg i (by omega)]; exact q) (.inl (PyProof.noPylong_small (by omega)))
theorem iop_mod : OpR X (inplaceOp .Mod) (rI (fun _ j => 0 < j) fun i j => .int (i % j)) := opI fun i j _ _ _ _ _ hc q => by
  have h1 : (0 : Int) < j := hc
  exact imod_int (by omega) (by rw [Int.fmod_eq_emod_of_nonneg i (by omega)]; exact q)
theorem iop_shl : OpR X (inplaceOp .LShift) (rI CPow fun i j => .int (i * 2 ^ j.toNat)) := opI fun _ _ _ _ _ _ _ hc q => ilshift_int_small hc.1 hc.2.1 hc.2.2 q
theorem iop_shr : OpR X (inplaceOp .RShift) (rI (fun _ j => 0 ≤ j) fun i j => .int (i / 2 ^ j.toNat)) := opI fun i j _ _ _ _ _ hc q =>
  irshift_int hc (by rw [Int.fdiv_eq_ediv_of_nonneg i (two_pow_nn _)]; exact q)
theorem iop_and : OpR X (inplaceOp .BitAnd) (rI0 fun i j => .int (Builtin.bitAnd i j)) := opI0 fun _ _ _ _ _ _ _ q => iand_int q
theorem iop_or : OpR X (inplaceOp .BitOr) (rI0 fun i j => .int (Builtin.bitOr i j)) := opI0 fun _ _ _ _ _ _ _ q => ior_int q
theorem iop_xor : OpR X (inplaceOp .BitXor) (rI0 fun i j => .int (Builtin.bitXor i j)) := opI0 fun _ _ _ _ _ _ _ q => ixor_int q

theorem unI {f : Value → Sem Value} {g : Int → Int}
    (rule : ∀ (i : Int) (t : Tok) (s : Shared) (Q : Value → Shared → Prop) (E : Value → Shared → Prop), Q (.int (g i) s.toks) { s with toks := s.toks + 1 } → wpAny (model X.prog X.w) X.A (f (.int i t)) Q E s) :
    UnR X f (rU fun i => .int (g i)) := by
  intro pins s σ H x v Q I rx h
  obtain ⟨i, rfl, q⟩ := h
  obtain ⟨t, rfl⟩ := rx
  exact rule i t s _ _ ⟨.int (g i), H, I.tok _, ⟨_, rfl⟩, q⟩
theorem un_neg : UnR X (unaryOp .USub) (rU fun i => .int (-i)) := unI fun _ _ _ _ _ q => neg_int q
theorem un_inv : UnR X (unaryOp .Invert) (rU fun i => .int (Builtin.bitNot i)) := unI fun _ _ _ _ _ q => invert_int q

/-! ### bools among ints: n += (a < b) -/
theorem op_add_ib : OpR X (binaryOp .Add) (fun x y H Q => ∃ i k, x = .int i ∧ y = .bl k ∧ Q (.int (i + b2i k)) H) := by
  intro pins s σ H x y v u Q I rx ry h
  obtain ⟨i, k, rfl, rfl, q⟩ := h
  obtain ⟨t, rfl⟩ := rx
  cases ry
  exact add_int_bool ⟨.int (i + b2i k), H, I.tok _, ⟨_, rfl⟩, q⟩
end

/-! ### comparisons -/
/-- the scalars that == tells apart as data does -/
def scal : V → V → Bool
  | .non, .non => true | .non, .int _ => true | .int _, .non => true | .non, .bl _ => true | .bl _, .non => true | .non, .str _ => true | .str _, .non => true
  | .int _, .int _ => true | .bl _, .bl _ => true | .str _, .str _ => true | .byt _, .byt _ => true
  | .int _, .str _ => true | .str _, .int _ => true | .bl _, .str _ => true | .str _, .bl _ => true
  | _, _ => false
def rEq : R2 := fun x y H Q => scal x y = true ∧ Q (.bl (decide (x = y))) H
def rNe : R2 := fun x y H Q => scal x y = true ∧ Q (.bl (!decide (x = y))) H

theorem dec_int {i j : Int} : decide (V.int i = V.int j) = (i == j) := by
  rw [Bool.eq_iff_iff]
  simp
theorem dec_bl {i j : Bool} : decide (V.bl i = V.bl j) = (i == j) := by
  rw [Bool.eq_iff_iff]
  simp
theorem dec_str {i j : Str} : decide (V.str i = V.str j) = (i == j) := by
  rw [Bool.eq_iff_iff]
  simp
theorem dec_byt {i j : Array UInt8} : decide (V.byt i = V.byt j) = (i.toList == j.toList) := by
  rw [Bool.eq_iff_iff]
  cases i
  cases j
  simp

section
variable {X : Cx} {a b c : Expr} {ta tb tc : TE} {pos : Pos}
theorem fin_bl {pins : List (Addr × Obj)} {σ : St} {H : Hp} {s : Shared} {Q : VK} {k k' : Bool} (I : Inv X pins σ H s) (q : Q (.bl k) H) (e : k = k') : EP X pins σ Q (.bool k') s := by
  subst e
  exact ⟨.bl k, H, I, rfl, q⟩
theorem op_eq : OpR X (compareOp .Eq) rEq := by
  intro pins s σ H x y v u Q I rx ry h
  obtain ⟨hs, q⟩ := h
  cases x with
  | non =>
    cases rx
    cases y with
    | non => cases ry; exact PySem.EqNone.eq_none_none (fin_bl I q (by simp))
    | bl j => cases ry; exact PySem.EqNone.eq_none_bool (fin_bl I q (by simp))
    | int j => obtain ⟨t', rfl⟩ := ry; exact PySem.EqNone.eq_none_int (fin_bl I q (by simp))
    | str j => obtain ⟨t', rfl⟩ := ry; exact PySem.EqNone.eq_none_str (fin_bl I q (by simp))
    | _ => exact absurd (show false = true from hs) Bool.false_ne_true
  | bl i =>
    cases rx
    cases y with
    | non => cases ry; exact PySem.EqNone.eq_bool_none (fin_bl I q (by simp))
    | bl j => cases ry; exact eq_bool (fin_bl I q dec_bl)
    | str j => obtain ⟨t', rfl⟩ := ry; exact PySem.EqMixed.eq_bool_str (fin_bl I q (by simp))
    | _ => exact absurd (show false = true from hs) Bool.false_ne_true
  | int i =>
    obtain ⟨t, rfl⟩ := rx
    cases y with
    | non => cases ry; exact PySem.EqNone.eq_int_none (fin_bl I q (by simp))
    | int j => obtain ⟨t', rfl⟩ := ry; exact eq_int (fin_bl I q dec_int)
    | str j => obtain ⟨t', rfl⟩ := ry; exact PySem.EqMixed.eq_int_str (fin_bl I q (by simp))
    | _ => exact absurd (show false = true from hs) Bool.false_ne_true
  | str i =>
    obtain ⟨t, rfl⟩ := rx
    cases y with
    | non => cases ry; exact PySem.EqNone.eq_str_none (fin_bl I q (by simp))
    | bl j => cases ry; exact PySem.EqMixed.eq_str_bool (fin_bl I q (by simp))
    | int j => obtain ⟨t', rfl⟩ := ry; exact PySem.EqMixed.eq_str_int (fin_bl I q (by simp))
    | str j => obtain ⟨t', rfl⟩ := ry; exact eq_str (fin_bl I q dec_str)
    | _ => exact absurd (show false = true from hs) Bool.false_ne_true
  | byt i =>
    obtain ⟨t, rfl⟩ := rx
    cases y with
    | byt j => obtain ⟨t', rfl⟩ := ry; exact PySem.W.eq_bytes (fin_bl I q dec_byt)
    | _ => exact absurd (show false = true from hs) Bool.false_ne_true
  | _ => cases y <;> exact absurd (show false = true from hs) Bool.false_ne_true
theorem op_ne : OpR X (compareOp .NotEq) rNe := by
  intro pins s σ H x y v u Q I rx ry h
  obtain ⟨hs, q⟩ := h
  cases x with
  | non =>
    cases rx
    cases y with
    | non => cases ry; exact PySem.EqNone.ne_none_none (fin_bl I q (by simp))
    | bl j => cases ry; exact PySem.EqNone.ne_none_bool (fin_bl I q (by simp))
    | int j => obtain ⟨t', rfl⟩ := ry; exact PySem.EqNone.ne_none_int (fin_bl I q (by simp))
    | str j => obtain ⟨t', rfl⟩ := ry; exact PySem.EqNone.ne_none_str (fin_bl I q (by simp))
    | _ => exact absurd (show false = true from hs) Bool.false_ne_true
  | bl i =>
    cases rx
    cases y with
    | non => cases ry; exact PySem.EqNone.ne_bool_none (fin_bl I q (by simp))
    | bl j => cases ry; exact ne_bool (fin_bl I q (congrArg not dec_bl))
    | str j => obtain ⟨t', rfl⟩ := ry; exact PySem.EqMixed.ne_bool_str (fin_bl I q (by simp))
    | _ => exact absurd (show false = true from hs) Bool.false_ne_true
  | int i =>
    obtain ⟨t, rfl⟩ := rx
    cases y with
    | non => cases ry; exact PySem.EqNone.ne_int_none (fin_bl I q (by simp))
    | int j => obtain ⟨t', rfl⟩ := ry; exact ne_int (fin_bl I q (congrArg not dec_int))
    | str j => obtain ⟨t', rfl⟩ := ry; exact PySem.EqMixed.ne_int_str (fin_bl I q (by simp))
    | _ => exact absurd (show false = true from hs) Bool.false_ne_true
  | str i =>
    obtain ⟨t, rfl⟩ := rx
    cases y with
    | non => cases ry; exact PySem.EqNone.ne_str_none (fin_bl I q (by simp))
    | bl j => cases ry; exact PySem.EqMixed.ne_str_bool (fin_bl I q (by simp))
    | int j => obtain ⟨t', rfl⟩ := ry; exact PySem.EqMixed.ne_str_int (fin_bl I q (by simp))
    | str j => obtain ⟨t', rfl⟩ := ry; exact ne_str (fin_bl I q (congrArg not dec_str))
    | _ => exact absurd (show false = true from hs) Bool.false_ne_true
  | byt i =>
    obtain ⟨t, rfl⟩ := rx
    cases y with
    | byt j => obtain ⟨t', rfl⟩ := ry; exact PySem.W.ne_bytes (fin_bl I q (congrArg not dec_byt))
    | _ => exact absurd (show false = true from hs) Bool.false_ne_true
  | _ => cases y <;> exact absurd (show false = true from hs) Bool.false_ne_true

theorem op_lt : OpR X (compareOp .Lt) (rI0 fun i j => .bl (decide (i < j))) := opB0 fun _ _ _ _ _ _ _ q => lt_int q
theorem op_le : OpR X (compareOp .LtE) (rI0 fun i j => .bl (decide (i ≤ j))) := opB0 fun _ _ _ _ _ _ _ q => le_int q
theorem op_gt : OpR X (compareOp .Gt) (rI0 fun i j => .bl (decide (j < i))) := opB0 fun _ _ _ _ _ _ _ q => gt_int q
theorem op_ge : OpR X (compareOp .GtE) (rI0 fun i j => .bl (decide (j ≤ i))) := opB0 fun _ _ _ _ _ _ _ q => ge_int q
theorem op_lt_str : OpR X (compareOp .Lt) (fun x y H Q => ∃ i j, x = .str i ∧ y = .str j ∧ Q (.bl (decide (i.cps.toList < j.cps.toList))) H) := by
  intro pins s σ H x y v u Q I rx ry h
  obtain ⟨i, j, rfl, rfl, q⟩ := h
  obtain ⟨t, rfl⟩ := rx
  obtain ⟨t', rfl⟩ := ry
  exact lt_str (fin_bl I q rfl)
/-- the one string within the other -/
theorem op_in_str : OpR X (compareOp .In) (fun x y H Q => ∃ i j, x = .str i ∧ y = .str j ∧ Q (.bl (!(Builtin.Str.occurrences j i 0 j.length 1).isEmpty)) H) := by
  intro pins s σ H x y v u Q I rx ry h
  obtain ⟨i, j, rfl, rfl, q⟩ := h
  obtain ⟨t, rfl⟩ := rx
  obtain ⟨t', rfl⟩ := ry
  exact in_str (fin_bl I q rfl)

/-- is None, is not None: the right side a value none -/
theorem op_isN : OpR X (compareOp .Is) (fun x y H Q => y = .non ∧ Q (.bl (decide (x = .non))) H) := by
  intro pins s σ H x y v u Q I rx ry h
  obtain ⟨rfl, q⟩ := h
  cases ry
  refine is_none_gen (fin_bl I q ?_)
  cases x <;> first
    | (cases rx; rfl)
    | (obtain ⟨t, rfl⟩ := rx; rfl)
theorem op_notN : OpR X (compareOp .IsNot) (fun x y H Q => y = .non ∧ Q (.bl (!decide (x = .non))) H) := by
  intro pins s σ H x y v u Q I rx ry h
  obtain ⟨rfl, q⟩ := h
  cases ry
  refine isnot_none_gen (fin_bl I q ?_)
  cases x <;> first
    | (cases rx; rfl)
    | (obtain ⟨t, rfl⟩ := rx; rfl)

theorem op_notin_str : OpR X (compareOp .NotIn) (fun x y H Q => ∃ i j, x = .str i ∧ y = .str j ∧ Q (.bl (!(!(Builtin.Str.occurrences j i 0 j.length 1).isEmpty))) H) := by
  intro pins s σ H x y v u Q I rx ry h
  obtain ⟨i, j, rfl, rfl, q⟩ := h
  obtain ⟨t, rfl⟩ := rx
  obtain ⟨t', rfl⟩ := ry
  exact notIn_str (fin_bl I q rfl)
/-- is, is not of two objects that are tracked lists or instances -/
def isObj : HO → Bool
  | .lst _ => true
  | .ins _ _ _ => true
  | _ => false
theorem obj_there {pins : List (Addr × Obj)} {s : Shared} {σ : St} {H : Hp} {a : Addr} {o : HO} (I : Inv X pins σ H s) (h : H a = some o) (p : isObj o = true) : ∃ ob, s.heap.get? a = some ob ∧ ob.cls ≠ .type "tuple" := by
  cases o with
  | lst xs =>
    obtain ⟨_, its, n, _, e⟩ : xs.length ≤ sizeLine ∧ ∃ (its : List Value) (n : Nat), Vals xs its ∧ s.heap.get? a = some { cls := .type "list", data := .seq its.toArray n } := I.hok a _ h
    exact ⟨_, e, (by show Value.type "list" ≠ .type "tuple"; decide +kernel)⟩
  | ins C dx fs =>
    have x := I.hok a _ h
    obtain ⟨_, _, _, e, _⟩ := x
    exact ⟨_, e, (by show Value.ref C ≠ .type "tuple"; exact fun z => by cases z)⟩
  | _ => exact absurd (show false = true from p) Bool.false_ne_true
theorem op_is_ref : OpR X (compareOp .Is) (fun x y H Q => ∃ a b oa ob, x = .ref a ∧ y = .ref b ∧ H a = some oa ∧ isObj oa = true ∧ H b = some ob ∧ isObj ob = true ∧ Q (.bl (decide (a = b))) H) := by
  intro pins s σ H x y v u Q I rx ry h
  obtain ⟨a, b, oa, ob, rfl, rfl, ha, pa, hb, pb, q⟩ := h
  cases rx
  cases ry
  obtain ⟨o1, e1, n1⟩ := obj_there I ha pa
  obtain ⟨o2, e2, _⟩ := obj_there I hb pb
  by_cases z : a = b
  · subst z
    exact wpAny_is_ref_self (fin_bl I q (by simp))
  · exact wpAny_is_ref_other z e1 e2 n1 (fin_bl I q (by simp [z]))
theorem op_isnot_ref : OpR X (compareOp .IsNot) (fun x y H Q => ∃ a b oa ob, x = .ref a ∧ y = .ref b ∧ H a = some oa ∧ isObj oa = true ∧ H b = some ob ∧ isObj ob = true ∧ Q (.bl (!decide (a = b))) H) := by
  intro pins s σ H x y v u Q I rx ry h
  obtain ⟨a, b, oa, ob, rfl, rfl, ha, pa, hb, pb, q⟩ := h
  cases rx
  cases ry
  obtain ⟨o1, e1, n1⟩ := obj_there I ha pa
  obtain ⟨o2, e2, _⟩ := obj_there I hb pb
  by_cases z : a = b
  · subst z
    exact wpAny_isNot_ref_self (fin_bl I q (by simp))
  · exact wpAny_isNot_ref_other z e1 e2 n1 (fin_bl I q (by simp [z]))

/-- two rules for one operation: by cases -/
theorem OpR.or {f : Value → Value → Sem Value} {r r' : R2} (h : OpR X f r) (h' : OpR X f r') : OpR X f (fun x y H Q => r x y H Q ∨ r' x y H Q) := by
  intro pins s σ H x y v u Q I rx ry q
  rcases q with q | q
  · exact h pins s σ H x y v u Q I rx ry q
  · exact h' pins s σ H x y v u Q I rx ry q

theorem nomark (b : Expr) {op : CmpOp} (h : op ≠ .In := by decide) (h2 : op ≠ .NotIn := by decide) : behindInMarks op b = false := by
  have e1 : (op == CmpOp.In) = false := by cases op <;> first | rfl | exact absurd rfl h
  have e2 : (op == CmpOp.NotIn) = false := by cases op <;> first | rfl | exact absurd rfl h2
  cases b <;> simp [behindInMarks, e1, e2]
/-- a comparison as a value; hm: nomark b, or (for in, not in) by with_unfolding_all rfl -/
theorem pe_cmpR {op : CmpOp} {r : R2} (ho : OpR X (compareOp op) r) (ha : PE X a ta) (hb : PE X b tb) (hm : behindInMarks op b = false) : PE X (.Compare a [op] [b] pos) (tOp r ta tb) := by
  intro pins s σ H Q I h
  exact wpAny_Compare1 (binT ha hb I h fun v u s2 x y H2 I2 rx ry q => ho pins s2 σ H2 x y v u Q I2 rx ry q) hm
/-- a reading of a value as a test -/
def tTest (t : TE) : TT := fun σ H Q => t σ H fun x H' => ∃ k, x = .bl k ∧ Q k H'
theorem pt_cmpR {op : CmpOp} {r : R2} (ho : OpR X (compareOp op) r) (ha : PE X a ta) (hb : PE X b tb) (hm : behindInMarks op b = false) : PT X (.Compare a [op] [b] pos) (tTest (tOp r ta tb)) := by
  intro pins s σ H Q I h
  refine wpAny_isTrue_Compare1 (thn (ha pins s σ H _ I h) fun v s1 ⟨x, H1, I1, r1, q1⟩ => thn (hb pins s1 σ H1 _ I1 q1) fun u s2 ⟨y, H2, I2, r2, q2⟩ =>
    thn (ho pins s2 σ H2 x y v u _ I2 r1 r2 q2) fun c s3 ⟨z, H3, I3, r3, k, e, q3⟩ => ?_) hm
  subst e
  cases r3
  exact wpAny_truthy_bool ⟨H3, I3, q3⟩
/-- a op1 b op2 c -/
def tChain (r r' : R2) (ta tb tc : TE) : TE := fun σ H Q => ta σ H fun x H1 => tb σ H1 fun y H2 => r x y H2 fun z H3 => ∃ k, z = .bl k ∧
  (if k = true then tc σ H3 fun w' H4 => r' y w' H4 Q else Q (.bl false) H3)
theorem pe_chain {op op' : CmpOp} {r r' : R2} (ho : OpR X (compareOp op) r) (ho' : OpR X (compareOp op') r') (ha : PE X a ta) (hb : PE X b tb) (hc : PE X c tc)
    (hm : lastMarks [op, op'] [b, c] = false := by with_unfolding_all rfl) : PE X (.Compare a [op, op'] [b, c] pos) (tChain r r' ta tb tc) := by
  intro pins s σ H Q I h
  refine Compare_chain (thn (ha pins s σ H _ I h) fun v s1 ⟨x, H1, I1, r1, q1⟩ => chain_link (thn (hb pins s1 σ H1 _ I1 q1) fun u s2 ⟨y, H2, I2, r2, q2⟩ =>
    thn (ho pins s2 σ H2 x y v u _ I2 r1 r2 q2) fun d s3 ⟨z, H3, I3, r3, k, e, q3⟩ => ?_)) hm
  subst e
  cases r3
  refine wpAny_truthy_bool ?_
  cases k with
  | false => exact ite_ff ⟨.bl false, H3, I3, rfl, q3⟩
  | true => exact ite_tt (chain_last (thn (hc pins s3 σ H3 _ I3 q3) fun w' s4 ⟨z', H4, I4, r4, q4⟩ => ho' pins s4 σ H4 y z' u w' Q I4 r2 r4 q4))
theorem pt_chain {op op' : CmpOp} {r r' : R2} (ho : OpR X (compareOp op) r) (ho' : OpR X (compareOp op') r') (ha : PE X a ta) (hb : PE X b tb) (hc : PE X c tc)
    (hm : lastMarks [op, op'] [b, c] = false := by with_unfolding_all rfl) : PT X (.Compare a [op, op'] [b, c] pos) (tTest (tChain r r' ta tb tc)) := by
  intro pins s σ H Q I h
  refine isTrue_chain (thn (ha pins s σ H _ I h) fun v s1 ⟨x, H1, I1, r1, q1⟩ => test_link (thn (hb pins s1 σ H1 _ I1 q1) fun u s2 ⟨y, H2, I2, r2, q2⟩ =>
    thn (ho pins s2 σ H2 x y v u _ I2 r1 r2 q2) fun d s3 ⟨z, H3, I3, r3, k, e, q3⟩ => ?_)) hm
  subst e
  cases r3
  refine wpAny_truthy_bool ?_
  cases k with
  | false =>
    obtain ⟨k', e', q'⟩ := q3
    cases e'
    exact ite_ff ⟨H3, I3, q'⟩
  | true =>
    refine ite_tt (test_last (thn (hc pins s3 σ H3 _ I3 q3) fun w' s4 ⟨z', H4, I4, r4, q4⟩ => thn (ho' pins s4 σ H4 y z' u w' _ I4 r2 r4 q4) fun d' s5 ⟨z2, H5, I5, r5, k2, e2, q5⟩ => ?_))
    subst e2
    cases r5
    exact wpAny_truthy_bool ⟨H5, I5, q5⟩

/-! ### truth -/
/-- a value's truth by the abstract heap -/
def TruV (K : PySem.W.Frag) (x : V) (H : Hp) (k : Bool) : Prop :=
  match x with
  | .non => k = false
  | .bl b => k = b
  | .int i => k = (i != 0)
  | .str y => y.length ≤ sizeLine ∧ k = ((y.length : Int) != 0)
  | .byt y => y.size ≤ sizeLine ∧ k = ((y.size : Int) != 0)
  | .ref p => (∃ xs, SqL K H p xs ∧ k = !xs.isEmpty) ∨ (∃ xs, SqT K H p xs ∧ k = !xs.isEmpty) ∨ ∃ kvs, H p = some (.dK kvs) ∧ k = !kvs.isEmpty
  | _ => False
theorem isEmpty_kv {κ : Type} {kvs : List (κ × V)} {vs : List (κ × Value)} (r : KV kvs vs) : (!vs.isEmpty) = !kvs.isEmpty := by
  cases r <;> rfl
theorem isEmpty_of {xs : List V} {its : List Value} (r : Vals xs its) : (!its.toArray.isEmpty) = !xs.isEmpty := by
  cases r <;> simp
theorem line63 : (sizeLine : Nat) < 2 ^ 63 := by rw [sizeLine_eq]; decide
theorem tru_ok : TruR X (fun x H Q => ∃ k, TruV X.K x H k ∧ Q k H) := by
  intro pins s σ H x v Q I rx h
  obtain ⟨k, e, q⟩ := h
  have hl := line63
  have hs : sizeLine = 16777216 := sizeLine_eq
  cases x with
  | non =>
    cases rx
    have e' : k = false := e
    subst e'
    exact truthy_none ⟨H, I, q⟩
  | bl b =>
    cases rx
    have e' : k = b := e
    subst e'
    exact wpAny_truthy_bool ⟨H, I, q⟩
  | int i =>
    obtain ⟨t, rfl⟩ := rx
    have e' : k = (i != 0) := e
    subst e'
    exact PySem.P.truthy_int ⟨H, I, q⟩
  | str y =>
    obtain ⟨t, rfl⟩ := rx
    obtain ⟨hy, e'⟩ : y.length ≤ sizeLine ∧ k = ((y.length : Int) != 0) := e
    subst e'
    exact PySem.P.truthy_str (by omega) ⟨H, I.tok _, q⟩
  | byt y =>
    obtain ⟨t, rfl⟩ := rx
    obtain ⟨hy, e'⟩ : y.size ≤ sizeLine ∧ k = ((y.size : Int) != 0) := e
    subst e'
    exact PySem.W.truthy_bytes (by omega) ⟨H, I.tok _, q⟩
  | ref p =>
    cases rx
    have e' : (∃ xs, SqL X.K H p xs ∧ k = !xs.isEmpty) ∨ (∃ xs, SqT X.K H p xs ∧ k = !xs.isEmpty) ∨ ∃ kvs, H p = some (.dK kvs) ∧ k = !kvs.isEmpty := e
    rcases e' with ⟨xs, hx, e'⟩ | ⟨xs, hx, e'⟩ | ⟨kvs, hx, e'⟩
    · subst e'
      obtain ⟨its, r, pl, hz⟩ := I.list hx
      have hlen := r.length
      exact wpAny_truthy_list pl.isList (by simp only [List.size_toArray]; omega) ⟨H, I.tok _, by rw [isEmpty_of r]; exact q⟩
    · subst e'
      obtain ⟨its, r, pl, hz⟩ := I.tuple hx
      have hlen := r.length
      exact truthy_tuple pl (by simp only [List.size_toArray]; omega) ⟨H, I.tok _, by rw [isEmpty_of r]; exact q⟩
    · subst e'
      obtain ⟨hz, hS, vs, r, m⟩ : kvs.length ≤ sizeLine ∧ (p == sysModules) = false ∧ ∃ vs, KV kvs vs ∧ s.heap.DictOf (mixKind X.prog X.w) p vs := I.hok p _ hx
      have hlen : kvs.length = vs.length := Paired.length r
      exact wpAny_truthy_dict hS m (by omega) ⟨H, I.tok _, by rw [isEmpty_kv r]; exact q⟩
  | _ => exact (show False from e).elim
/-- any expression whose test is its value's truth (a name, a call, a subscript, a field ..: he by fun _ => rfl) -/
theorem pt_truth (ha : PE X a ta) (he : ∀ whole, isTrue a X.env whole = (do let v ← whole; standAt a.pos; holding [v] (truthy v))) :
    PT X a (fun σ H Q => ta σ H fun x H' => ∃ k, TruV X.K x H' k ∧ Q k H') := by
  intro pins s σ H Q I h
  exact isTrue_plain (thn (ha pins s σ H _ I h) fun v s1 ⟨x, H1, I1, r1, q1⟩ => tru_ok pins s1 σ H1 x v Q I1 r1 q1) (he _)

/-! ### strs and bytes -/
theorem pe_byt {x : List UInt8} {k : Nat} : PE X (.Constant (.bytes x) k pos) (fun _ H Q => Q (.byt x.toArray) H) := fun _ _ _ H _ I h => PySem.W.Constant_bytes ⟨.byt x.toArray, H, I.tok _, ⟨_, rfl⟩, h⟩
theorem op_add_str : OpR X (binaryOp .Add) (fun x y H Q => ∃ i j, x = .str i ∧ y = .str j ∧ i.length + j.length ≤ sizeLine ∧ Q (.str (i ++ j)) H) := by
  intro pins s σ H x y v u Q I rx ry h
  obtain ⟨i, j, rfl, rfl, hz, q⟩ := h
  obtain ⟨t, rfl⟩ := rx
  obtain ⟨t', rfl⟩ := ry
  exact add_str (fun t' tk => ⟨.str (i ++ j), H, I.tok _, ⟨_, rfl⟩, q⟩) hz
theorem iop_add_str : OpR X (inplaceOp .Add) (fun x y H Q => ∃ i j, x = .str i ∧ y = .str j ∧ i.length + j.length ≤ sizeLine ∧ Q (.str (i ++ j)) H) := by
  intro pins s σ H x y v u Q I rx ry h
  obtain ⟨i, j, rfl, rfl, hz, q⟩ := h
  obtain ⟨t, rfl⟩ := rx
  obtain ⟨t', rfl⟩ := ry
  exact iadd_str (fun t' tk => ⟨.str (i ++ j), H, I.tok _, ⟨_, rfl⟩, q⟩) hz
theorem op_add_byt : OpR X (binaryOp .Add) (fun x y H Q => ∃ i j, x = .byt i ∧ y = .byt j ∧ i.size + j.size ≤ 16777216 ∧ Q (.byt (i ++ j)) H) := by
  intro pins s σ H x y v u Q I rx ry h
  obtain ⟨i, j, rfl, rfl, hz, q⟩ := h
  obtain ⟨t, rfl⟩ := rx
  obtain ⟨t', rfl⟩ := ry
  exact PySem.W.KBy.add_bytes hz (fun t' tk => ⟨.byt (i ++ j), H, I.tok _, ⟨_, rfl⟩, q⟩)

def PlainIxT (b : Expr) : Prop := ∀ o i, subscripted b false o i = operate [o, i] (getItem o i)
/-- s[i], 0 ≤ i < len -/
theorem pe_item_str (ha : PE X a ta) (hb : PE X b tb) (hs : PlainIxT b) :
    PE X (.Subscript a b pos) (tOp (fun x y H Q => ∃ z i c, x = .str z ∧ y = .int i ∧ 0 ≤ i ∧ i < 2 ^ 63 ∧ i < z.length ∧ z.cps[i.toNat]? = some c ∧ Q (.str ⟨#[c]⟩) H) ta tb) := by
  intro pins s σ H Q I h
  refine Subscript_ (binT ha hb I h fun v u s2 x y H2 I2 rx ry q => ?_)
  obtain ⟨z, i, c, rfl, rfl, h0, h63, h1, hc, q⟩ := q
  obtain ⟨t, rfl⟩ := rx
  obtain ⟨t', rfl⟩ := ry
  have e : seqIndex? i z.length = some i.toNat := PySem.StrLaws.seqIndex_nonneg h0 h1
  exact tail_any (typeIs_str s2 z t) slot_str_getitem.lookup (getItem_str (c := c) (by
    have e1 : decide (i < -(2 ^ 63 : Int)) = false := decide_eq_false (by omega)
    have e2 : decide (i ≥ 2 ^ 63) = false := decide_eq_false (by omega)
    rw [e1, e2] <;> rfl) (by rw [e]; exact hc) ⟨.str ⟨#[c]⟩, H2, I2.tok _, ⟨_, rfl⟩, q⟩) (hs _ _)
/-- b[i], 0 ≤ i < len -/
theorem pe_item_byt (ha : PE X a ta) (hb : PE X b tb) (hs : PlainIxT b) :
    PE X (.Subscript a b pos) (tOp (fun x y H Q => ∃ (z : List UInt8) (i : Int), x = .byt z.toArray ∧ y = .int i ∧ z.length ≤ sizeLine ∧ 0 ≤ i ∧ i < z.length ∧ Q (.int ((z.getD i.toNat 0).toNat : Nat)) H) ta tb) := by
  intro pins s σ H Q I h
  refine Subscript_ (binT ha hb I h fun v u s2 x y H2 I2 rx ry q => ?_)
  obtain ⟨z, i, rfl, rfl, hz, h0, h1, q⟩ := q
  obtain ⟨t, rfl⟩ := rx
  obtain ⟨t', rfl⟩ := ry
  have hl : sizeLine = 16777216 := sizeLine_eq
  exact tail_any (PySem.W.typeIs_bytes s2 z.toArray t) PySem.W.FB.slot_bytes_getitem.lookup (PySem.W.getItem_bytes (by omega) h0 h1 ⟨.int ((z.getD i.toNat 0).toNat : Nat), H2, I2.tok _, ⟨_, rfl⟩, q⟩) (hs _ _)

/-! ### scalar builtins, by CallR -/
theorem vals1 {x : V} {us : List Value} (r : Vals [x] us) : ∃ u, us = [u] ∧ RelV x u := by
  cases r with
  | cons r1 r2 => cases r2; exact ⟨_, rfl, r1⟩
theorem vals2 {x y : V} {us : List Value} (r : Vals [x, y] us) : ∃ u w', us = [u, w'] ∧ RelV x u ∧ RelV y w' := by
  cases r with
  | cons r1 r2 =>
    cases r2 with
    | cons r3 r4 => cases r4; exact ⟨_, _, rfl, r1, r3⟩
theorem call_abs : CallR X (.builtin "abs") (fun xs H Q => ∃ i, xs = [.int i] ∧ Q (.int (if i < 0 then -i else i)) H) := by
  intro pins s σ H xs us Q I r h
  obtain ⟨i, rfl, q⟩ := h
  obtain ⟨u, rfl, t, rfl⟩ := vals1 r
  exact call_abs_int fun u tk => ⟨.int (if i < 0 then -i else i), H, I.tok _, ⟨_, rfl⟩, q⟩
theorem call_max2 (hc : X.calm = true) : CallR X (.builtin "max") (fun xs H Q => ∃ i j, xs = [.int i, .int j] ∧ Q (.int (if j > i then j else i)) H) := by
  intro pins s σ H xs us Q I r h
  obtain ⟨i, j, rfl, q⟩ := h
  obtain ⟨u, w', rfl, ⟨t, rfl⟩, ⟨t', rfl⟩⟩ := vals2 r
  refine max_two_ints (I.ok.hd hc) fun h' tk k => ⟨_, H, I.kept k, ?_, q⟩
  by_cases hj : j > i
  · rw [if_pos hj, if_pos hj]; exact ⟨_, rfl⟩
  · rw [if_neg hj, if_neg hj]; exact ⟨_, rfl⟩
theorem call_min2 (hc : X.calm = true) : CallR X (.builtin "min") (fun xs H Q => ∃ i j, xs = [.int i, .int j] ∧ Q (.int (if j < i then j else i)) H) := by
  intro pins s σ H xs us Q I r h
  obtain ⟨i, j, rfl, q⟩ := h
  obtain ⟨u, w', rfl, ⟨t, rfl⟩, ⟨t', rfl⟩⟩ := vals2 r
  refine min_two_ints (I.ok.hd hc) fun h' tk k => ⟨_, H, I.kept k, ?_, q⟩
  by_cases hj : j < i
  · rw [if_pos hj, if_pos hj]; exact ⟨_, rfl⟩
  · rw [if_neg hj, if_neg hj]; exact ⟨_, rfl⟩
theorem call_int1 : CallR X (.type "int") (fun xs H Q => (∃ i, xs = [.int i] ∧ Q (.int i) H) ∨ ∃ k, xs = [.bl k] ∧ Q (.int (if k then 1 else 0)) H) := by
  intro pins s σ H xs us Q I r h
  rcases h with ⟨i, rfl, q⟩ | ⟨k, rfl, q⟩
  · obtain ⟨u, rfl, t, rfl⟩ := vals1 r
    exact call_int_int ⟨.int i, H, I, ⟨_, rfl⟩, q⟩
  · obtain ⟨u, rfl, r1⟩ := vals1 r
    cases r1
    exact call_int_bool ⟨.int (if k then 1 else 0), H, I.tok _, ⟨_, rfl⟩, q⟩
theorem call_bool1 : CallR X (.type "bool") (fun xs H Q => (∃ i, xs = [.int i] ∧ Q (.bl (i != 0)) H) ∨ ∃ k, xs = [.bl k] ∧ Q (.bl k) H) := by
  intro pins s σ H xs us Q I r h
  rcases h with ⟨i, rfl, q⟩ | ⟨k, rfl, q⟩
  · obtain ⟨u, rfl, t, rfl⟩ := vals1 r
    exact call_bool_int ⟨.bl (i != 0), H, I, rfl, q⟩
  · obtain ⟨u, rfl, r1⟩ := vals1 r
    cases r1
    exact call_bool_bool ⟨.bl k, H, I, rfl, q⟩
theorem call_str_int : CallR X (.type "str") (fun xs H Q => ∃ i, xs = [.int i] ∧ i.natAbs.log2 < 1920 ∧ Q (.str (toString i)) H) := by
  intro pins s σ H xs us Q I r h
  obtain ⟨i, rfl, hz, q⟩ := h
  obtain ⟨u, rfl, t, rfl⟩ := vals1 r
  exact PySem.P.str_of_int hz ⟨.str _, H, I.tok _, ⟨_, rfl⟩, q⟩
theorem call_ord : CallR X (.builtin "ord") (fun xs H Q => ∃ x, xs = [.str x] ∧ x.length = 1 ∧ Q (.int (x.cps.getD 0 0 : Nat)) H) := by
  intro pins s σ H xs us Q I r h
  obtain ⟨x, rfl, hz, q⟩ := h
  obtain ⟨u, rfl, t, rfl⟩ := vals1 r
  exact ord_of_one hz ⟨.int _, H, I.tok _, ⟨_, rfl⟩, q⟩
theorem call_chr : CallR X (.builtin "chr") (fun xs H Q => ∃ i, xs = [.int i] ∧ 0 ≤ i ∧ i ≤ 1114111 ∧ Q (.str ⟨#[i.toNat]⟩) H) := by
  intro pins s σ H xs us Q I r h
  obtain ⟨i, rfl, h0, h1, q⟩ := h
  obtain ⟨u, rfl, t, rfl⟩ := vals1 r
  exact chr_of_range h0 h1 ⟨.str _, H, I.tok _, ⟨_, rfl⟩, q⟩
/-- len of a str, a bytes, a list, a tuple -/
def LenV (K : PySem.W.Frag) (x : V) (H : Hp) (n : Nat) : Prop :=
  match x with
  | .str y => y.length ≤ sizeLine ∧ n = y.length
  | .byt y => y.size ≤ sizeLine ∧ n = y.size
  | .ref p => (∃ xs, SqL K H p xs ∧ n = xs.length) ∨ ∃ xs, SqT K H p xs ∧ n = xs.length
  | _ => False
theorem call_len : CallR X (.builtin "len") (fun xs H Q => ∃ x n, xs = [x] ∧ LenV X.K x H n ∧ Q (.int n) H) := by
  intro pins s σ H xs us Q I r h
  obtain ⟨x, n, rfl, e, q⟩ := h
  obtain ⟨u, rfl, rx⟩ := vals1 r
  have hl := line63
  have hs : sizeLine = 16777216 := sizeLine_eq
  cases x with
  | str y =>
    obtain ⟨t, rfl⟩ := rx
    obtain ⟨hy, e'⟩ : y.length ≤ sizeLine ∧ n = y.length := e
    subst e'
    exact len_str (by omega) ⟨.int _, H, I.tok _, ⟨_, rfl⟩, q⟩
  | byt y =>
    obtain ⟨t, rfl⟩ := rx
    obtain ⟨hy, e'⟩ : y.size ≤ sizeLine ∧ n = y.size := e
    subst e'
    exact PySem.W.len_bytes (by omega) ⟨.int _, H, I.tok _, ⟨_, rfl⟩, q⟩
  | ref p =>
    cases rx
    have e' : (∃ xs, SqL X.K H p xs ∧ n = xs.length) ∨ ∃ xs, SqT X.K H p xs ∧ n = xs.length := e
    rcases e' with ⟨xs, hx, e'⟩ | ⟨xs, hx, e'⟩
    · subst e'
      obtain ⟨its, r', pl, hz⟩ := I.list hx
      have hlen := r'.length
      exact Calls.call_len_list pl.isList (by simp only [List.size_toArray]; omega) ⟨.int xs.length, H, I.tok _, ⟨_, by simp only [List.size_toArray]; rw [hlen]⟩, q⟩
    · subst e'
      obtain ⟨its, r', pl, hz⟩ := I.tuple hx
      have hlen := r'.length
      exact len_tuple pl (by simp only [List.size_toArray]; omega) ⟨.int xs.length, H, I.tok _, ⟨_, by simp only [List.size_toArray]; rw [hlen]⟩, q⟩
  | _ => exact (show False from e).elim
/-- divmod: a new tuple -/
theorem call_divmod : CallR X (.builtin "divmod") (fun xs H Q => ∃ i j, xs = [.int i, .int j] ∧ CDiv i j ∧ ∀ p, H p = none → Q (.ref p) (upd H p (.tup [.int (i / j), .int (i % j)]))) := by
  intro pins s σ H xs us Q I r h
  obtain ⟨i, j, rfl, ⟨h1, h2⟩, q⟩ := h
  obtain ⟨u, w', rfl, ⟨t, rfl⟩, ⟨t', rfl⟩⟩ := vals2 r
  refine divmod_int (by omega) ?_ (.inl (PyProof.noPylong_small (by omega)))
  rw [Int.fdiv_eq_ediv_of_nonneg i (by omega), Int.fmod_eq_emod_of_nonneg i (by omega)]
  have hn : H s.heap.objs.size = none := I.hok.fresh (Nat.le_refl _)
  refine ⟨.ref s.heap.objs.size, _, ?_, rfl, q _ hn⟩
  refine I.laid (fun b o e => Heap.get?_push_of_some _ e) (Nat.le_refl _) ⟨by simp only [List.length_cons, List.length_nil]; rw [sizeLine_eq]; decide, [.int (i / j) s.toks, .int (i % j) (s.toks + 1)], .cons ⟨_, rfl⟩ (.cons ⟨_, rfl⟩ .nil), ?_⟩
  exact ⟨_, Heap.get?_push_size s.heap rfl, rfl, 0, rfl⟩
end
end L2

namespace L2
open PySem PySem.Spec PyProof.Rows

/-! ### an instance, its attributes a map -/
structure ObjM (h : Heap) (x dx C : Addr) (mA : Str → Option Value) : Prop where
  obj : h.get? x = some (PySem.W.instObj C dx)
  ns : h.Ns1 dx mA
  ne : dx ≠ x

theorem lookIn_ns {h : Heap} {dx : Addr} {mA : Str → Option Value} (n : h.Ns1 dx mA) : ∃ od, h.get? dx = some od ∧ ∀ name, PySem.W.lookIn name od = some (mA name) := by
  obtain ⟨o, es, ep, ho, hd, hk, _, hm⟩ := n
  refine ⟨o, ho, fun name => ?_⟩
  have e := hm name
  unfold nsFind findBy at e
  rw [← Array.find?_toList] at e
  unfold PySem.W.lookIn
  rw [hd]
  dsimp only
  split
  · rename_i y q
    rw [q] at e
    exact congrArg some e
  · rename_i q
    rw [q] at e
    have a : es.toList.any (·.refKey) = false := by
      rw [List.any_eq_false]
      intro y hy
      obtain ⟨z, t, hkey⟩ := hk y (Array.mem_toList_iff.mp hy)
      simp [DictEntry.refKey, hkey]
    have a' : ¬ es.toList.any (·.refKey) = true := by rw [a]; exact Bool.false_ne_true
    rw [if_neg a']
    exact congrArg some e

theorem ObjM.look {h : Heap} {x dx C : Addr} {mA : Str → Option Value} (I : ObjM h x dx C mA) : ∃ od, PySem.W.InstAt h x (PySem.W.instObj C dx) C (some od) ∧ ∀ name, PySem.W.lookIn name od = some (mA name) :=
  let ⟨od, ho, hl⟩ := lookIn_ns I.ns
  ⟨od, ⟨I.obj, rfl, rfl, ho⟩, hl⟩

section
variable {prog : Program} {w : World} {A : Around} {E : Value → Shared → Prop} {s : Shared} {K : PySem.W.Frag} {x dx C f : Addr} {mA : Str → Option Value} {name : Str} {v : Value}

theorem get_map {expr : Bool} {Q : Value → Shared → Prop} (X : K.In s.heap) (I : ObjM s.heap x dx C mA) (hg : PySem.W.plainGet K C name = true) (hh : PySem.W.hasDictIn K C = true)
    (ha : PySem.W.findIn K (.ref C) name = some none) (hv : mA name = some v) (hv' : PySem.W.handedIn v = true) (h : Q v { s with toks := s.toks + 1 }) :
    wpAny (model prog w) A (getAttr (.ref x) name expr) Q E s := by
  obtain ⟨od, J, hl⟩ := I.look
  exact PySem.W.get_value X J (PySem.W.plainGet_of hg).1 (PySem.W.findObj_own hh ha rfl (by rw [hl, hv])) hv' h

theorem get_const {expr : Bool} {a : Value} {Q : Value → Shared → Prop} (X : K.In s.heap) (I : ObjM s.heap x dx C mA) (hg : PySem.W.plainGet K C name = true) (hh : PySem.W.hasDictIn K C = true)
    (ha : PySem.W.findIn K (.ref C) name = some (some a)) (hn : PySem.W.specialIn K a "__get__" = some none) (hc : PySem.W.copiedNames.contains name = false) (hv : mA name = none) (hv' : PySem.W.handedIn a = true)
    (h : Q a { s with toks := s.toks + 1 }) : wpAny (model prog w) A (getAttr (.ref x) name expr) Q E s := by
  obtain ⟨od, J, hl⟩ := I.look
  exact PySem.W.get_value X J (PySem.W.plainGet_of hg).1 (PySem.W.findObj_cls hh ha hn hv' hc (by rw [hl, hv])) hv' h

theorem get_meth {pl : Sem Bool} {Q : Value × List Value → Shared → Prop} (X : K.In s.heap) (I : ObjM s.heap x dx C mA) (hg : PySem.W.plainGet K C name = true)
    (hf : PySem.W.findIn K (.ref C) name = some (some (.ref f))) (ht : PySem.W.isFn K (.ref f) = true) (hv : mA name = none) (h : Q (.ref f, [.ref x]) s) :
    wpAny (model prog w) A (getMethod (.ref x) name pl) Q E s := by
  obtain ⟨od, J, hl⟩ := I.look
  exact PySem.W.method_fn X J (PySem.W.plainGet_of hg).1 (PySem.W.plainGet_of hg).2 hf (beq_iff_eq.mp ht) (by show (PySem.W.lookIn name od).map (·.isSome) = some false; rw [hl, hv]; rfl) h

theorem set_map {ns : List Str} {Q : Unit → Shared → Prop} (X : K.In s.heap) (I : ObjM s.heap x dx C mA)
    (hs : PySem.W.findIn K (.ref C) "__setattr__" = some (some (.builtin "object.__setattr__"))) (hp : PySem.W.plainOver K C = true) (ht : PySem.W.takerIn K C name = some none) (hh : PySem.W.hasDictIn K C = true)
    (hw : PySem.Within mA ns) (hsz : ns.length ≤ sizeLine)
    (h : ∀ h', ObjM h' x dx C (fun y => if y = name then some v else mA y) → Heap.SameBut dx s.heap h' → Q () { s with heap := h', toks := s.toks + 2 }) :
    wpAny (model prog w) A (setAttr (.ref x) name v) Q E s := by
  obtain ⟨od, J, hl⟩ := I.look
  refine PySem.W.set_plain X J hs (PySem.W.osa_open (s := { s with toks := s.toks + 1 }) (r := none) X J hp ht fun b => ?_)
  obtain ⟨cd, hc, hd'⟩ := PySem.W.any_some hh
  have hx : s.heap.get? x = some ⟨.ref C, some dx, .plain, #[]⟩ := I.obj
  refine wpAny_bind (wpAny_pure (wpAny_bind (wpAny_bind (wpAny_loadPart hx (wpAny_bind (PySem.W.Looks.here (s := { s with toks := s.toks + 1 }) (PySem.W.looks_clsIn X hc) ?_))))))
  rw [hd']
  refine wpAny_pure (a := some dx) (wpAny_bind (wpAny_pure (wpAny_bind ?_)))
  refine wpAny_nsSet1 (s := { s with toks := s.toks + 1 }) I.ns fun h' hn2 hs2 => ?_
  obtain ⟨oD, esD, epD, hoD, hdD, hcD⟩ := hn2.count (PySem.Within.cons name v hw)
  refine wpAny_bind (wpAny_lookBehind hoD (by rw [hdD]; exact pastItsLine_dict (Nat.le_trans hcD (by rw [List.length_cons]; omega))) ?_)
  exact wpAny_pure (h _ ⟨(hs2.2 _ (Ne.symm I.ne)).trans I.obj, hn2, I.ne⟩ hs2)

/-- C(..): the dict at the heap's end, the instance behind it; then its __init__ -/
theorem make_map {R : Result → Shared → Prop} {vs : List Value} {kw : List (Str × Value)} (X : K.In s.heap) (hm : PySem.W.makesIn K C = true)
    (hi : PySem.W.findIn K (.ref C) "__init__" = some (some (.ref f))) (hf : PySem.W.typeIn K (.ref f) = some (.type "function"))
    (h : codeAny (model prog w) (A.under (.builtin "type.__call__" ⟨.ref C :: vs, kw⟩)) (.call (.ref f) ⟨.ref (s.heap.objs.size + 1) :: vs, kw⟩) (PySem.W.InitBack (s.heap.objs.size + 1) R)
      { s with heap := (s.heap.push PySem.W.emptyDict).push (PySem.W.instObj C s.heap.objs.size) }) :
    codeAny (model prog w) A (.call (.ref C) ⟨vs, kw⟩) R s := by
  obtain ⟨hh, g, d, t, os⟩ := s
  exact PySem.W.make_core (PySem.W.makes_of X hm) (PySem.W.looks_findIn X hi) (fun self => PySem.W.bind_fn X self hf) (.inl rfl) h
/-- C() where there is no __init__ but object's -/
theorem make_map0 {R : Result → Shared → Prop} (X : K.In s.heap) (hm : PySem.W.makesIn K C = true)
    (hi : PySem.W.findIn K (.ref C) "__init__" = some (some (.builtin "object.__init__")))
    (hb : ∀ self, PySem.W.Looks (model prog w) s.heap (bindSpecial (.builtin "object.__init__") self) (.builtin "object.__init__", [self]))
    (h : codeAny (model prog w) (A.under (.builtin "type.__call__" ⟨[.ref C], []⟩)) (.call (.builtin "object.__init__") ⟨[.ref (s.heap.objs.size + 1)], []⟩) (PySem.W.InitBack (s.heap.objs.size + 1) R)
      { s with heap := (s.heap.push PySem.W.emptyDict).push (PySem.W.instObj C s.heap.objs.size) }) :
    codeAny (model prog w) A (.call (.ref C) ⟨[], []⟩) R s := by
  obtain ⟨hh, g, d, t, os⟩ := s
  exact PySem.W.make_core (PySem.W.makes_of X hm) (PySem.W.looks_findIn X hi) hb (.inr ⟨rfl, rfl⟩) h
end

/-! ### the attributes as a list of pairs -/
def putF (f : Str) (v : V) : List (Str × V) → List (Str × V)
  | [] => [(f, v)]
  | (g, x) :: r => if g = f then (g, v) :: r else (g, x) :: putF f v r
theorem lookup_putF (f g : Str) (v : V) : ∀ fs : List (Str × V), (putF f v fs).lookup g = if g = f then some v else fs.lookup g
  | [] => by
    show List.lookup g [(f, v)] = _
    by_cases h : g = f
    · have hb : (g == f) = true := beq_iff_eq.mpr h
      simp only [List.lookup, hb, if_pos h]
    · have hb : (g == f) = false := beq_eq_false_iff_ne.mpr h
      simp only [List.lookup, hb, if_neg h]
  | (k, x) :: r => by
    have ih := lookup_putF f g v r
    rw [show putF f v ((k, x) :: r) = (if k = f then (k, v) :: r else (k, x) :: putF f v r) from rfl]
    by_cases hk : k = f
    · rw [if_pos hk]
      by_cases h : g = k
      · have hb : (g == k) = true := beq_iff_eq.mpr h
        simp only [List.lookup, hb, if_pos (h.trans hk)]
      · have hb : (g == k) = false := beq_eq_false_iff_ne.mpr h
        simp only [List.lookup, hb, if_neg (fun e : g = f => h (e.trans hk.symm))]
    · rw [if_neg hk]
      by_cases h : g = k
      · have hb : (g == k) = true := beq_iff_eq.mpr h
        simp only [List.lookup, hb, if_neg (fun e : g = f => hk (h.symm.trans e))]
      · have hb : (g == k) = false := beq_eq_false_iff_ne.mpr h
        simp only [List.lookup, hb]
        exact ih
theorem keys_putF (f : Str) (v : V) : ∀ fs : List (Str × V), f ∈ (putF f v fs).map (·.1) ∧ ∀ g, g ∈ fs.map (·.1) → g ∈ (putF f v fs).map (·.1)
  | [] => ⟨by simp [putF], fun g h => by simp at h⟩
  | (k, x) :: r => by
    obtain ⟨i1, i2⟩ := keys_putF f v r
    rw [show putF f v ((k, x) :: r) = (if k = f then (k, v) :: r else (k, x) :: putF f v r) from rfl]
    by_cases hk : k = f
    · rw [if_pos hk]
      subst hk
      exact ⟨by simp, fun g h => by simpa using h⟩
    · rw [if_neg hk]
      refine ⟨?_, fun g h => ?_⟩
      · rw [List.map_cons]
        exact List.mem_cons_of_mem _ i1
      · rw [List.map_cons] at h ⊢
        rcases List.mem_cons.mp h with e | e
        · exact List.mem_cons.mpr (.inl e)
        · exact List.mem_cons_of_mem _ (i2 g e)
theorem length_putF (f : Str) (v : V) : ∀ fs : List (Str × V), (putF f v fs).length ≤ fs.length + 1
  | [] => by simp [putF]
  | (k, x) :: r => by
    have ih := length_putF f v r
    rw [show putF f v ((k, x) :: r) = (if k = f then (k, v) :: r else (k, x) :: putF f v r) from rfl]
    by_cases hk : k = f
    · rw [if_pos hk, List.length_cons, List.length_cons]; omega
    · rw [if_neg hk, List.length_cons, List.length_cons]; omega

theorem RelO.some_of {v : V} {o : Option Value} (r : RelO (some v) o) : ∃ u, o = some u ∧ RelV v u := by
  cases o with
  | none => exact (show False from r).elim
  | some u => exact ⟨u, rfl, r⟩
theorem RelO.none_of {o : Option Value} (r : RelO none o) : o = none := by
  cases o with
  | none => rfl
  | some u => exact (show False from r).elim
theorem handed_of {v : V} {u : Value} (r : RelV v u) : PySem.W.handedIn u = true := by
  cases v with
  | non => cases (show u = Value.none from r); rfl
  | bl b => cases (show u = Value.bool b from r); rfl
  | int i => obtain ⟨t, e⟩ := (show ∃ t, u = Value.int i t from r); cases e; rfl
  | str x => obtain ⟨t, e⟩ := (show ∃ t, u = Value.str x t from r); cases e; rfl
  | byt b => obtain ⟨t, e⟩ := (show ∃ t, u = Value.bytes b t from r); cases e; rfl
  | flt b => obtain ⟨t, e⟩ := (show ∃ t, u = Value.float b t from r); cases e; rfl
  | ref a => cases (show u = Value.ref a from r); rfl
  | ty n => cases (show u = Value.type n from r); rfl

section
variable {P : Program} {w : World} {H H' : Hp} {h h' : Heap} {a C dx : Addr} {fs fs' : List (Str × V)}
theorem ins_get (hok : HOk P w H h) (e : H a = some (.ins C dx fs)) : ∃ mA, ObjM h a dx C mA ∧ (∀ f, RelO (fs.lookup f) (mA f)) ∧ PySem.Within mA (fs.map (·.1)) ∧ fs.length ≤ 1000 ∧ H dx = some (.own a) := by
  obtain ⟨d, z, ne, ob, mA, n, r, q⟩ := (show ObjOk P w H h a (.ins C dx fs) from hok a _ e)
  exact ⟨mA, ⟨ob, n, ne⟩, r, q, z, d⟩
end

/-! ### what of the text a class must have -/
structure Cls (K : PySem.W.Frag) (C : Addr) : Prop where
  pg : PySem.W.plainGet K C Str.empty = true
  hd : PySem.W.hasDictIn K C = true
  po : PySem.W.plainOver K C = true
  sa : PySem.W.findIn K (.ref C) "__setattr__" = some (some (.builtin "object.__setattr__"))
theorem Cls.get {K : PySem.W.Frag} {C : Addr} (c : Cls K C) (f : Str) : PySem.W.plainGet K C f = true := c.pg
/-- no class of it has the name -/
def NoAttr (K : PySem.W.Frag) (C : Addr) (f : Str) : Prop := PySem.W.findIn K (.ref C) f = some none
theorem NoAttr.taker {K : PySem.W.Frag} {C : Addr} {f : Str} (n : NoAttr K C f) : PySem.W.takerIn K C f = some none := by
  unfold PySem.W.takerIn
  rw [show PySem.W.findIn K (.ref C) f = some none from n]
  rfl
/-- a constant of the class -/
structure Con (K : PySem.W.Frag) (C : Addr) (f : Str) (v : V) (u : Value) : Prop where
  at_ : PySem.W.findIn K (.ref C) f = some (some u)
  rel : RelV v u
  get : PySem.W.specialIn K u "__get__" = some none
  cp : PySem.W.copiedNames.contains f = false
/-- a method: a plain def of the class or of one above it -/
structure Meth (K : PySem.W.Frag) (C : Addr) (m : Str) (f : Addr) : Prop where
  at_ : PySem.W.findIn K (.ref C) m = some (some (.ref f))
  fn : PySem.W.isFn K (.ref f) = true
  kp : PySem.W.keepIn K (.ref f) = true

section
variable {X : Cx} {pins : List (Addr × Obj)} {σ : St} {H : Hp} {s : Shared} {a C dx : Addr} {fs : List (Str × V)} {f : Str} {v : V} {A : Around} {E : Value → Shared → Prop}

theorem getattr_ok {b : Bool} {Q : Value → Shared → Prop} (I : Inv X pins σ H s) (e : H a = some (.ins C dx fs)) (c : Cls X.K C) (n : NoAttr X.K C f) (l : fs.lookup f = some v)
    (h : ∀ u s', Inv X pins σ H s' → RelV v u → Q u s') : wpAny (model X.prog X.w) A (getAttr (.ref a) f b) Q E s := by
  obtain ⟨mA, O, r, _, _, _⟩ := ins_get I.hok e
  obtain ⟨u, hu, ru⟩ := RelO.some_of (v := v) (o := mA f) (by rw [← l]; exact r f)
  exact get_map I.kIn O (c.get f) c.hd n hu (handed_of ru) (h u _ (I.tok _) ru)

theorem getcon_ok {b : Bool} {u : Value} {Q : Value → Shared → Prop} (I : Inv X pins σ H s) (e : H a = some (.ins C dx fs)) (c : Cls X.K C) (k : Con X.K C f v u) (l : fs.lookup f = none)
    (h : ∀ s', Inv X pins σ H s' → Q u s') : wpAny (model X.prog X.w) A (getAttr (.ref a) f b) Q E s := by
  obtain ⟨mA, O, r, _, _, _⟩ := ins_get I.hok e
  have hn : mA f = none := RelO.none_of (by rw [← l]; exact r f)
  exact get_const I.kIn O (c.get f) c.hd k.at_ k.get k.cp hn (handed_of k.rel) (h _ (I.tok _))

theorem getmeth_ok {m : Str} {g : Addr} {pl : Sem Bool} {Q : Value × List Value → Shared → Prop} (I : Inv X pins σ H s) (e : H a = some (.ins C dx fs)) (c : Cls X.K C) (k : Meth X.K C m g) (l : fs.lookup m = none)
    (h : Q (.ref g, [.ref a]) s) : wpAny (model X.prog X.w) A (getMethod (.ref a) m pl) Q E s := by
  obtain ⟨mA, O, r, _, _, _⟩ := ins_get I.hok e
  have hn : mA m = none := RelO.none_of (by rw [← l]; exact r m)
  exact get_meth I.kIn O (c.get m) k.at_ k.fn hn h

theorem setattr_ok {y : V} {u : Value} {Q : Unit → Shared → Prop} (I : Inv X pins σ H s) (e : H a = some (.ins C dx fs)) (c : Cls X.K C) (n : NoAttr X.K C f) (hl : fs.length < 1000) (ry : RelV y u)
    (h : ∀ s', Inv X pins σ (upd H a (.ins C dx (putF f y fs))) s' → Q () s') : wpAny (model X.prog X.w) A (setAttr (.ref a) f u) Q E s := by
  obtain ⟨mA, O, r, wi, _, ho⟩ := ins_get I.hok e
  have hz : (fs.map (·.1)).length ≤ sizeLine := by rw [List.length_map, sizeLine_eq]; omega
  refine set_map I.kIn O c.sa c.po n.taker c.hd wi hz fun h' O' sb => h _ ?_
  have hd : ∃ o, h'.get? dx = some o := let ⟨o, _, _, e', _⟩ := O'.ns; ⟨o, e'⟩
  refine I.write (x := a) (e := dx) (by rw [e]; exact True.intro) (.inr ho) (fun b q hb z => (sb.2 b hb).trans z) hd ?_
  refine ⟨by rw [upd_ne O.ne]; exact ho, ?_, O.ne, O'.obj, _, O'.ns, fun g => ?_, fun g hg => ?_⟩
  · have := length_putF f y fs; omega
  · show RelO ((putF f y fs).lookup g) (if g = f then some u else mA g)
    rw [lookup_putF]
    by_cases q : g = f
    · rw [if_pos q, if_pos q]; exact ry
    · rw [if_neg q, if_neg q]; exact r g
  · by_cases q : g = f
    · rw [q]; exact (keys_putF f y fs).1
    · refine (keys_putF f y fs).2 g (wi g fun z => hg ?_)
      show (if g = f then some u else mA g) = none
      rw [if_neg q]; exact z

/-- a new instance, tracked, without attributes -/
theorem Inv.made (I : Inv X pins σ H s) : Inv X pins σ (upd (upd H s.heap.objs.size (.own (s.heap.objs.size + 1))) (s.heap.objs.size + 1) (.ins C s.heap.objs.size []))
    { s with heap := (s.heap.push PySem.W.emptyDict).push (PySem.W.instObj C s.heap.objs.size) } := by
  have e1 : (s.heap.push PySem.W.emptyDict).get? s.heap.objs.size = some PySem.W.emptyDict := Heap.get?_push_size s.heap rfl
  have e2 : ((s.heap.push PySem.W.emptyDict).push (PySem.W.instObj C s.heap.objs.size)).get? (s.heap.objs.size + 1) = some (PySem.W.instObj C s.heap.objs.size) := by
    have := Heap.get?_push_size (s.heap.push PySem.W.emptyDict) (o := PySem.W.instObj C s.heap.objs.size) rfl
    rwa [Heap.size_push] at this
  have e3 : (s.heap.push PySem.W.emptyDict).Ns s.heap.objs.size (fun _ => none) := ⟨PySem.W.emptyDict, #[], _, e1, rfl, (fun e he => absurd he (by simp)), fun _ => rfl⟩
  have I1 := I.laid (a := s.heap.objs.size) (o := .own (s.heap.objs.size + 1)) (h' := s.heap.push PySem.W.emptyDict) (t' := s.toks) (fun b u q => Heap.get?_push_of_some _ q) (Nat.le_refl _) ⟨_, e1⟩
  refine I1.laid (a := s.heap.objs.size + 1) (o := .ins C s.heap.objs.size []) (t' := s.toks) (fun b u q => Heap.get?_push_of_some _ q) (Nat.le_of_eq (Heap.size_push _ _)) ?_
  have ne : s.heap.objs.size ≠ s.heap.objs.size + 1 := Nat.ne_of_lt (Nat.lt_succ_self _)
  refine ⟨by rw [upd_ne ne, upd_same], Nat.zero_le _, ne, e2, fun _ => none, (Heap.Ns1.of_empty e3).at fun o q => Heap.get?_push_of_some _ q, fun _ => True.intro, fun y hy => absurd rfl hy⟩

/-- e.f where nothing but the object is asked: through attributeBase (super) and the last hold -/
theorem attr_of {prog : Program} {w : World} {env : Env} {e : Expr} {f : Str} {pos : Pos} {s : Shared} {Q : Value → Shared → Prop} (hb : attributeBase e f env (eval e env) = eval e env)
    (h : wpAny (model prog w) A (eval e env) (fun o s₁ => wpAny (model prog w) A (getAttr o f true) Q E s₁) E s) : wpAny (model prog w) A (eval (.Attribute e f pos) env) Q E s :=
  Attribute_any_ h (by rw [arm_eval_Attribute, hb])
end

/-! ### readings and rules -/
/-- e.f, an attribute of the instance -/
def tFld (K : PySem.W.Frag) (ta : TE) (f : Str) : TE := fun σ H Q => ta σ H fun x H1 => ∃ a C dx fs v, x = .ref a ∧ H1 a = some (.ins C dx fs) ∧ Cls K C ∧ NoAttr K C f ∧ fs.lookup f = some v ∧ Q v H1
/-- e.f, a constant of the class -/
def tCon (K : PySem.W.Frag) (ta : TE) (f : Str) : TE := fun σ H Q => ta σ H fun x H1 => ∃ a C dx fs v u, x = .ref a ∧ H1 a = some (.ins C dx fs) ∧ Cls K C ∧ Con K C f v u ∧ fs.lookup f = none ∧ Q v H1
/-- e.f = value -/
def sFld (K : PySem.W.Frag) (ta tv : TE) (f : Str) : TS := fun D σ H => tv σ H fun y H1 => ta σ H1 fun x H2 => ∃ a C dx fs, x = .ref a ∧ H2 a = some (.ins C dx fs) ∧ Cls K C ∧ NoAttr K C f ∧ fs.length < 1000 ∧
  D.nx σ (upd H2 a (.ins C dx (putF f y fs)))
/-- an augmented operator on two values -/
def InOp (X : Cx) (op : Operator) (rd : V → V → Hp → VK → Prop) : Prop :=
  ∀ (pins : List (Addr × Obj)) (s : Shared) (σ : St) (H : Hp) (x y : V) (u v : Value) (Q : VK), Inv X pins σ H s → RelV x u → RelV y v → rd x y H Q → wpAny (model X.prog X.w) X.A (inplaceOp op u v) (EP X pins σ Q) X.xe s
/-- e.f op= value -/
def sFldAug (K : PySem.W.Frag) (ta tv : TE) (rd : V → V → Hp → VK → Prop) (f : Str) : TS := fun D σ H => ta σ H fun x H1 => ∃ a C dx fs v, x = .ref a ∧ H1 a = some (.ins C dx fs) ∧ Cls K C ∧ NoAttr K C f ∧ fs.lookup f = some v ∧
  tv σ H1 fun y H2 => rd v y H2 fun z H3 => ∃ dx' fs', H3 a = some (.ins C dx' fs') ∧ fs'.length < 1000 ∧ D.nx σ (upd H3 a (.ins C dx' (putF f z fs')))

section
variable {X : Cx} {o e value : Expr} {f : Str} {pos pos' tpos : Pos} {ta tv : TE}
theorem pe_fld (he : PE X e ta) (hb : attributeBase e f X.env (eval e X.env) = eval e X.env) : PE X (.Attribute e f pos) (tFld X.K ta f) := by
  intro pins s σ H Q I h
  refine attr_of hb (thn (he pins s σ H _ I h) fun u s1 ⟨x, H1, I1, rx, a, C, dx, fs, v, ex, ea, c, n, l, q⟩ => ?_)
  subst ex
  obtain rfl : u = Value.ref a := rx
  exact getattr_ok I1 ea c n l fun u' s2 I2 ru => ⟨v, H1, I2, ru, q⟩
theorem pe_con (he : PE X e ta) (hb : attributeBase e f X.env (eval e X.env) = eval e X.env) : PE X (.Attribute e f pos) (tCon X.K ta f) := by
  intro pins s σ H Q I h
  refine attr_of hb (thn (he pins s σ H _ I h) fun u s1 ⟨x, H1, I1, rx, a, C, dx, fs, v, u0, ex, ea, c, k, l, q⟩ => ?_)
  subst ex
  obtain rfl : u = Value.ref a := rx
  exact getcon_ok I1 ea c k l fun s2 I2 => ⟨v, H1, I2, k.rel, q⟩
theorem ps_fld (ha : PE X o ta) (hv : PE X value tv) (hs : swapsWith value (some (.Attribute o f pos')) pos.line X.env = pure false) : PS X (.Assign [.Attribute o f pos'] value pos) (sFld X.K ta tv f) := by
  intro pins s σ H D I h
  refine plainObj_wpAny_Assign_Attribute (thn (hv pins s σ H _ I h) fun u s1 ⟨y, H1, I1, ry, q⟩ => thn (ha pins s1 σ H1 _ I1 q) fun ov s2 ⟨x, H2, I2, rx, a, C, dx, fs, ex, ea, c, n, l, q2⟩ => ?_) hs
  subst ex
  obtain rfl : ov = Value.ref a := rx
  exact setattr_ok I2 ea c n l ry fun s3 I3 => ⟨σ, _, I3, q2⟩
theorem ps_fldaug {op : Operator} {rd : V → V → Hp → VK → Prop} (ha : PE X o ta) (hv : PE X value tv) (hop : InOp X op rd) : PS X (.AugAssign (.Attribute o f tpos) op value pos) (sFldAug X.K ta tv rd f) := by
  intro pins s σ H D I h
  refine wpAny_AugAssign_AttributeAny (thn (ha pins s σ H _ I h) fun ov s1 ⟨x, H1, I1, rx, a, C, dx, fs, v, ex, ea, c, n, l, q⟩ => ?_)
  subst ex
  obtain rfl : ov = Value.ref a := rx
  refine getattr_ok I1 ea c n l fun u s2 I2 ru => thn (hv pins s2 σ H1 _ I2 q) fun w3 s3 ⟨y, H2, I3, ry, q3⟩ => thn (hop pins s3 σ H2 v y u w3 _ I3 ru ry q3) fun w4 s4 ⟨z, H3, I4, rz, dx', fs', ea', l', q4⟩ => ?_
  exact setattr_ok I4 ea' c n l' rz fun s5 I5 => ⟨σ, _, I5, q4⟩
def rAdd : V → V → Hp → VK → Prop := fun x y H Q => ∃ i j, x = .int i ∧ y = .int j ∧ Q (.int (i + j)) H
def rSub : V → V → Hp → VK → Prop := fun x y H Q => ∃ i j, x = .int i ∧ y = .int j ∧ Q (.int (i - j)) H
theorem in_add : InOp X .Add rAdd := by
  rintro pins s σ H x y u v Q I rx ry ⟨i, j, rfl, rfl, q⟩
  obtain ⟨t, rfl⟩ := (show ∃ t, u = Value.int i t from rx)
  obtain ⟨t', rfl⟩ := (show ∃ t', v = Value.int j t' from ry)
  exact PyProof.Rows.iadd_int ⟨.int (i + j), H, I.tok _, ⟨_, rfl⟩, q⟩
theorem in_sub : InOp X .Sub rSub := by
  rintro pins s σ H x y u v Q I rx ry ⟨i, j, rfl, rfl, q⟩
  obtain ⟨t, rfl⟩ := (show ∃ t, u = Value.int i t from rx)
  obtain ⟨t', rfl⟩ := (show ∃ t', v = Value.int j t' from ry)
  exact PyProof.Rows.isub_int ⟨.int (i - j), H, I.tok _, ⟨_, rfl⟩, q⟩

/-- what is between an instance and its method: the tree of a method call -/
theorem methcall_of {pl : Sem Bool} {m : Str} {apos : Pos} {args : List Expr} {pins : List (Addr × Obj)} {s : Shared} {σ : St} {H : Hp} {Q : Value → Shared → Prop} {te : TE} (he : PE X e te) (I : Inv X pins σ H s)
    (h : te σ H fun x H1 => ∃ a C dx fs g, x = .ref a ∧ H1 a = some (.ins C dx fs) ∧ Cls X.K C ∧ Meth X.K C m g ∧ fs.lookup m = none ∧
      ∀ s1, Inv X pins σ H1 s1 → wpAny (model X.prog X.w) X.A (callWith pos (.ref g) [.ref a] (backTo pos (starEach args X.env)) (backToKw pos (keywordEach [] X.env))) Q X.xe s1)
    (ht : eval (.Call (.Attribute e m apos) args [] pos) X.env = (do
      let ov ← eval e X.env
      standAt apos.atName
      let (f, first) ← holding [ov] (getMethod ov m pl)
      callWith pos f first (backTo pos (starEach args X.env)) (backToKw pos (keywordEach [] X.env)))) :
    wpAny (model X.prog X.w) X.A (eval (.Call (.Attribute e m apos) args [] pos) X.env) Q X.xe s := by
  refine PySem.W.methodCall_KW (pl := pl) (thn (he pins s σ H _ I h) fun u s1 ⟨x, H1, I1, rx, a, C, dx, fs, g, ex, ea, c, k, l, q⟩ => ?_) ht
  subst ex
  obtain rfl : u = Value.ref a := rx
  exact getmeth_ok I1 ea c k l (q s1 I1)
end

/-! ### isinstance -/
section
variable {X : Cx} {pins : List (Addr × Obj)} {σ : St} {H : Hp} {s : Shared} {A : Around} {E : Value → Shared → Prop} {Q : Value → Shared → Prop} {c : Value} {b : Bool}
/-- the type of a value, as the fragment's deciders take it; for an instance its class -/
inductive TyOf (K : PySem.W.Frag) (H : Hp) : V → Value → Prop where
  | non : TyOf K H .non (.type "NoneType")
  | bl (x : Bool) : TyOf K H (.bl x) (.type "bool")
  | int (i : Int) : TyOf K H (.int i) (.type "int")
  | str (x : Str) : TyOf K H (.str x) (.type "str")
  | flt (x : UInt64) : TyOf K H (.flt x) (.type "float")
  | lst {a : Addr} {xs : List V} (e : H a = some (.lst xs)) : TyOf K H (.ref a) (.type "list")
  | frz {a : Addr} {o : Obj} {xs : List V} (e : H a = some (.frz o (.lst xs))) : TyOf K H (.ref a) (.type "list")
  | tup {a : Addr} {xs : List V} (e : H a = some (.tup xs)) : TyOf K H (.ref a) (.type "tuple")
  | dK {a : Addr} {kvs : List (Key × V)} (e : H a = some (.dK kvs)) : TyOf K H (.ref a) (.type "dict")
  | dT {a : Addr} {kvs : List (List Key × V)} (e : H a = some (.dT kvs)) : TyOf K H (.ref a) (.type "dict")
  | ins {a C dx : Addr} {fs : List (Str × V)} (e : H a = some (.ins C dx fs)) (cl : Cls K C) (ha : PySem.W.findIn K (.ref C) "__class__" = some (some (.builtin "object.__class__")))
      (hn : PySem.W.specialIn K (.builtin "object.__class__") "__get__" = some (some (.builtin "getset_descriptor.__get__"))) (htk : PySem.W.takesIn K (.builtin "object.__class__") = some true)
      (hm : PySem.W.mroIn K C (.type "object") = some true) : TyOf K H (.ref a) (.ref C)
/-- isinstance(x, c) for one class c, a built-in or an own one: kitOne's answer -/
theorem isinst_ok {x : V} {u t : Value} (I : Inv X pins σ H s) (rx : RelV x u) (ty : TyOf X.K H x t) (e : PySem.W.kitOne X.K t c = some b) (h : ∀ tk, Q (.bool b) { s with toks := tk }) :
    wpAny (model X.prog X.w) A (call (.builtin "isinstance") [u, c]) Q E s := by
  cases ty with
  | non => cases (show u = Value.none from rx); exact PySem.W.kia_one PySem.W.kitx_none I.kIn True.intro e (fun z => nomatch z) h
  | bl y => cases (show u = Value.bool y from rx); exact PySem.W.kia_one PySem.W.kitx_bool I.kIn True.intro e (fun z => nomatch z) h
  | int i => obtain ⟨t, q⟩ := (show ∃ t, u = Value.int i t from rx); cases q; exact PySem.W.kia_one PySem.W.kitx_int I.kIn True.intro e (fun z => nomatch z) h
  | str y => obtain ⟨t, q⟩ := (show ∃ t, u = Value.str y t from rx); cases q; exact PySem.W.kia_one PySem.W.kitx_str I.kIn True.intro e (fun z => nomatch z) h
  | flt y => obtain ⟨t, q⟩ := (show ∃ t, u = Value.float y t from rx); cases q; exact PySem.W.kia_one PySem.W.kitx_float I.kIn True.intro e (fun z => nomatch z) h
  | @lst a xs ea =>
    cases (show u = Value.ref a from rx)
    obtain ⟨_, _, n, _, h1⟩ := (show ObjOk X.prog X.w H s.heap a (.lst xs) from I.hok a _ ea)
    exact PySem.W.kia_one PySem.W.kitx_list I.kIn ⟨_, h1, rfl⟩ e (fun z => nomatch z) h
  | @frz a ob xs ea =>
    cases (show u = Value.ref a from rx)
    obtain ⟨_, _, _, n, _, h1⟩ := (show ObjOk X.prog X.w H s.heap a (.frz ob (.lst xs)) from I.hok a _ ea)
    exact PySem.W.kia_one PySem.W.kitx_list I.kIn ⟨_, h1, rfl⟩ e (fun z => nomatch z) h
  | @tup a xs ea =>
    cases (show u = Value.ref a from rx)
    obtain ⟨_, _, _, p⟩ := (show ObjOk X.prog X.w H s.heap a (.tup xs) from I.hok a _ ea)
    obtain ⟨o, h1, h2, _⟩ := p
    exact PySem.W.kia_one PySem.W.kitx_tuple I.kIn ⟨o, h1, h2⟩ e (fun z => nomatch z) h
  | @dK a kvs ea =>
    cases (show u = Value.ref a from rx)
    obtain ⟨_, _, vs, _, p⟩ := (show ObjOk X.prog X.w H s.heap a (.dK kvs) from I.hok a _ ea)
    obtain ⟨o, es, ep, h1, h2, _⟩ := p
    exact PySem.W.kia_one PySem.W.kitx_dict I.kIn ⟨o, h1, h2.1⟩ e (fun z => nomatch z) h
  | @dT a kvs ea =>
    cases (show u = Value.ref a from rx)
    obtain ⟨_, _, xs, _, o, es, ep, h1, h2, _⟩ := (show ObjOk X.prog X.w H s.heap a (.dT kvs) from I.hok a _ ea)
    exact PySem.W.kia_one PySem.W.kitx_dict I.kIn ⟨o, h1, h2.1⟩ e (fun z => nomatch z) h
  | @ins a C dx fs ea cl ha hn htk hm =>
    cases (show u = Value.ref a from rx)
    obtain ⟨mA, O, _⟩ := ins_get I.hok ea
    obtain ⟨od, J, _⟩ := O.look
    exact PySem.W.kia_one (PySem.W.kitx_own (cl.get _) cl.hd ha hn htk hm) I.kIn J e (fun z => nomatch z) h
end
end L2

namespace L2
open PySem PySem.Spec PyProof.Rows

/-! ### room -/
structure Room (k : Nat) (A : Around) : Prop where
  hd : A.handled = none
  dp : A.depth + 3 * k + 5 < recursionLimit
  un : A.units + 16 * k + 200 < cLine
  gd : A.guards = some []
theorem Room.mono {j k : Nat} {A : Around} (r : Room k A) (h : j ≤ k) : Room j A := ⟨r.hd, by have := r.dp; omega, by have := r.un; omega, r.gd⟩
theorem Room.deeper {k : Nat} {A : Around} (r : Room (k + 1) A) (env : Env) : Room k (A.deeper env) :=
  ⟨r.hd, by have := r.dp; show A.depth + 1 + 3 * k + 5 < _; omega, by have := r.un; show A.units + 3 + 16 * k + 200 < _; omega, r.gd⟩
theorem Room.in1 {k : Nat} {A : Around} (r : Room (k + 1) A) : Room k A.in1 :=
  ⟨r.hd, by have := r.dp; show A.depth + 3 * k + 5 < _; omega, by have := r.un; show A.units + 1 + 16 * k + 200 < _; omega, r.gd⟩
theorem make_depth {A : Around} {C : Addr} {us : List Value} {kw : List (Str × Value)} : (A.under (.builtin "type.__call__" ⟨.ref C :: us, kw⟩)).depth = A.depth + 1 := by
  first | rfl | simp [Around.under, Code.weight, Code.isCreation, Code.isGuard, Code.isCaller, Code.frames, Code.isFrame, guardIds]
theorem make_units {A : Around} {C : Addr} {us : List Value} {kw : List (Str × Value)} : (A.under (.builtin "type.__call__" ⟨.ref C :: us, kw⟩)).units = A.units + 1 := by
  first | rfl | simp [Around.under, Code.cUnits, Code.frames, Code.isFrame]
theorem Room.make {k : Nat} {A : Around} (r : Room (k + 1) A) (C : Addr) (us : List Value) (kw : List (Str × Value)) : Room k (A.under (.builtin "type.__call__" ⟨.ref C :: us, kw⟩)) :=
  ⟨r.hd, by have := r.dp; rw [make_depth]; omega, by have := r.un; rw [make_units]; omega, by
    have g := r.gd
    first | exact g | simp [Around.under, Code.guards, Code.isGuard, guardIds, pushGuards, g]⟩
theorem Room.depth {k : Nat} {A : Around} (r : Room k A) : A.depth < recursionLimit := by have := r.dp; omega
theorem Room.units {k : Nat} {A : Around} (r : Room k A) : A.units + 64 < cLine := by have := r.un; omega
theorem Room.units0 {k : Nat} {A : Around} (r : Room k A) : A.units < cLine := by have := r.un; omega

/-! ### argument lists and displays -/
def tNil : TA := fun _ H Q => Q [] H
def tCons (ta : TE) (tr : TA) : TA := fun σ H Q => ta σ H fun x H1 => tr σ H1 fun xs H2 => Q (x :: xs) H2
section
variable {X : Cx} {e : Expr} {es : List Expr} {te : TE} {t : TA} {pos : Pos}
theorem pa_nil : PA X [] tNil := fun _ _ _ _ H Q I h => Calls.spliced_nil ⟨[], H, I, .nil, h⟩
theorem pa_cons (ha : PE X e te) (hr : PA X es t) (hs : starEach (e :: es) X.env = (false, eval e X.env) :: starEach es X.env := by rfl) : PA X (e :: es) (tCons te t) := by
  intro pos pins s σ H Q I h
  rw [hs]
  show wpAny _ _ (spliced ((false, eval e X.env) :: backTo pos (starEach es X.env))) _ _ s
  refine Calls.spliced_cons (thn (ha pins s σ H _ I h) fun u s1 ⟨x, H1, I1, r1, q1⟩ => ?_)
  exact thn (hr pos pins s1 σ H1 _ I1 q1) fun us s2 ⟨xs, H2, I2, r2, q2⟩ => ⟨x :: xs, H2, I2, .cons r1 r2, q2⟩

/-- a tuple, a list of written items -/
def tTup (t : TA) : TE := fun σ H Q => t σ H fun xs H1 => xs.length ≤ sizeLine ∧ ∀ p, H1 p = none → Q (.ref p) (upd H1 p (.tup xs))
def tLst (t : TA) : TE := fun σ H Q => t σ H fun xs H1 => xs.length ≤ sizeLine ∧ ∀ p, H1 p = none → Q (.ref p) (upd H1 p (.lst xs))
theorem pe_tup {x1} (h : PA X es t) : PE X (.Tuple es x1 pos) (tTup t) := by
  intro pins s σ H Q I hq
  refine wpAny_Tuple_spliced (thn (h pos pins s σ H _ I hq) fun us s1 ⟨xs, H1, I1, r, z, q⟩ => ⟨by rw [← r.length]; exact z, ?_⟩)
  have hf : H1 s1.heap.objs.size = none := I1.hok.fresh (Nat.le_refl _)
  refine ⟨.ref s1.heap.objs.size, upd H1 s1.heap.objs.size (.tup xs), I1.laid (t' := s1.toks) (fun b u e => Heap.get?_push_of_some _ e) (Nat.le_refl _) ?_, rfl, q _ hf⟩
  exact ⟨z, us, r, ⟨_, Heap.get?_push_size _ rfl, rfl, _, rfl⟩⟩
theorem pe_lst (h : PA X es t) : PE X (.List es pos) (tLst t) := by
  intro pins s σ H Q I hq
  refine wpAny_List_spliced (thn (h pos pins s σ H _ I hq) fun us s1 ⟨xs, H1, I1, r, z, q⟩ => ⟨by rw [← r.length]; exact z, ?_⟩)
  have hf : H1 s1.heap.objs.size = none := I1.hok.fresh (Nat.le_refl _)
  refine ⟨.ref s1.heap.objs.size, upd H1 s1.heap.objs.size (.lst xs), I1.laid (t' := s1.toks) (fun b u e => Heap.get?_push_of_some _ e) (Nat.le_refl _) ?_, rfl, q _ hf⟩
  exact ⟨z, us, 0, r, Heap.get?_push_size _ rfl⟩
end

/-! ### what a def promises -/
/-- a def's promise: the bound arguments in the parameters' order, the heap, the wanted end, the wanted exception -/
abbrev Sp := List V → Hp → VK → XK → Prop
/-- how an exception lies behind a call (file 08 gives it): the callers' frames, abstract heap and state ahead of the call, the wish, the exception, the state -/
abbrev CXT := List Env → Hp → Shared → XK → Value → Shared → Prop

/-- the state at a call -/
structure Env0 (P : Program) (w : World) (K : PySem.W.Frag) (mg : Str → Option Value) (base : Heap) (A : Around) (outer : List Env) (s : Shared) (H : Hp) : Prop where
  frames : A.frames = some outer
  mod : Mod K mg base
  bs : ∀ b o, base.get? b = some o → s.heap.get? b = some o ∧ H b = none
  bsz : base.objs.size ≤ s.heap.objs.size
  funs : s.heap.FunFrames base outer
  frf : ∀ b ∈ frs outer, H b = none
  hok : HOk P w H s.heap
  bare : AllBare s.gens
/-- a call's end -/
def CE (outer : List Env) (P : Program) (w : World) (H : Hp) (s : Shared) (Q : VK) (u : Value) (s' : Shared) : Prop :=
  ∃ v H', s'.os = s.os ∧ AllBare s'.gens ∧ Un (frs outer) [] H H' s.heap s'.heap ∧ HOk P w H' s'.heap ∧ RelV v u ∧ Q v H'
def CR (CX : CXT) (outer : List Env) (P : Program) (w : World) (H : Hp) (s : Shared) (Q : VK) (E : XK) (r : Result) (s' : Shared) : Prop :=
  match r with
  | .ok (.ret u) => CE outer P w H s Q u s'
  | .ok _ => False
  | .error e => CX outer H s E e s'
structure FnOk (P : Program) (w : World) (K : PySem.W.Frag) (mg : Str → Option Value) (base : Heap) (CX : CXT) (k : Nat) (f : Addr) (fd : FuncData) (ps : List Str) (sp : Sp) : Prop where
  len : ∀ vs H Q E, sp vs H Q E → vs.length = ps.length
  run : ∀ (A : Around) (outer : List Env) (s : Shared) (H : Hp) (args : Args) (us : List Value) (vs : List V) (Q : VK) (E : XK), Room k A → Env0 P w K mg base A outer s H → BindsTo s fd args (ps.zip us) → Vals vs us → sp vs H Q E →
    codeAny (model P w) A (.call (.ref f) args) (CR CX outer P w H s Q E) s
theorem FnOk.mono {P : Program} {w : World} {K : PySem.W.Frag} {mg : Str → Option Value} {base : Heap} {CX : CXT} {j k : Nat} {f : Addr} {fd : FuncData} {ps : List Str} {sp : Sp} (F : FnOk P w K mg base CX j f fd ps sp) (h : j ≤ k) :
    FnOk P w K mg base CX k f fd ps sp := ⟨F.len, fun A outer s H args us vs Q E hr => F.run A outer s H args us vs Q E (hr.mono h)⟩
/-- a weaker promise -/
theorem FnOk.imp {P : Program} {w : World} {K : PySem.W.Frag} {mg : Str → Option Value} {base : Heap} {CX : CXT} {k : Nat} {f : Addr} {fd : FuncData} {ps : List Str} {sp sp' : Sp} (F : FnOk P w K mg base CX k f fd ps sp)
    (h : ∀ vs H Q E, sp' vs H Q E → sp vs H Q E) : FnOk P w K mg base CX k f fd ps sp' :=
  ⟨fun vs H Q E q => F.len vs H Q E (h _ _ _ _ q), fun A outer s H args us vs Q E hr he hb hv hs => F.run A outer s H args us vs Q E hr he hb hv (h _ _ _ _ hs)⟩

theorem Env0.make {P : Program} {w : World} {K : PySem.W.Frag} {mg : Str → Option Value} {base : Heap} {A : Around} {outer : List Env} {s : Shared} {H : Hp} (e : Env0 P w K mg base A outer s H) (C : Addr) (us : List Value) (kw : List (Str × Value)) :
    Env0 P w K mg base (A.under (.builtin "type.__call__" ⟨.ref C :: us, kw⟩)) outer s H := ⟨by first | exact e.frames | (simpa [Around.under, Code.envs, Code.isFrame, pushEnvs] using e.frames), e.mod, e.bs, e.bsz, e.funs, e.frf, e.hok, e.bare⟩
theorem Env0.in1 {P : Program} {w : World} {K : PySem.W.Frag} {mg : Str → Option Value} {base : Heap} {A : Around} {outer : List Env} {s : Shared} {H : Hp} (e : Env0 P w K mg base A outer s H) :
    Env0 P w K mg base A.in1 outer s H := ⟨e.frames, e.mod, e.bs, e.bsz, e.funs, e.frf, e.hok, e.bare⟩

section
variable {X : Cx} {pins : List (Addr × Obj)} {σ : St} {H : Hp} {s s' : Shared}
/-- from a body: what a callee wants -/
theorem Inv.env0 (I : Inv X pins σ H s) : Env0 X.prog X.w X.K X.mg X.base X.A X.stack s H :=
  ⟨I.ok.frames, I.ok.mod, I.bs, Nat.le_trans I.ok.bsz I.sz, I.stack, I.stkFree, I.hok, I.bare⟩
/-- behind a call -/
theorem Inv.after {Q : VK} {u : Value} (I : Inv X pins σ H s) (h : CE X.stack X.prog X.w H s Q u s') : EP X pins σ Q u s' := by
  obtain ⟨v, H', os, bare, un, hok, r, q⟩ := h
  obtain ⟨hh, g, d, t, os'⟩ := s'
  obtain rfl : os' = s.os := os
  exact ⟨v, H', I.call (h' := hh) (g' := g) (d' := d) (t' := t) (ch := []) un hok bare (fun b z => absurd z (by simp)), r, q⟩
end

/-! ### calls -/
/-- f(..): the written arguments, then the defaults dvs; E: what is wanted of an exception -/
def tCall (sp : Sp) (dvs : List V) (E : XK) (t : TA) : TE := fun σ H Q => t σ H fun vs H1 => sp (vs ++ dvs) H1 Q E
/-- o.m(..) of an instance of the class at C -/
def tMeth (C : Addr) (m : Str) (sp : Sp) (dvs : List V) (E : XK) (ta : TE) (t : TA) : TE := fun σ H Q => ta σ H fun x H1 => ∃ a dx fs, x = .ref a ∧ H1 a = some (.ins C dx fs) ∧ fs.lookup m = none ∧
  t σ H1 fun vs H2 => sp (x :: (vs ++ dvs)) H2 Q E
/-- C(..): a new instance and its dict, then __init__ -/
def tMake (C : Addr) (sp : Sp) (dvs : List V) (E : XK) (t : TA) : TE := fun σ H Q => t σ H fun vs H1 => ∀ x dx, H1 x = none → H1 dx = none → dx ≠ x →
  sp (.ref x :: (vs ++ dvs)) (upd (upd H1 dx (.own x)) x (.ins C dx [])) (fun v H2 => v = .non ∧ Q (.ref x) H2) E

/-- how the parameters are bound: us the positional arguments, kw the keywords' values by name, ds the defaults that fill up -/
def Binds (K : PySem.W.Frag) (fd : FuncData) (ps : List Str) (ds : List Value) : Prop :=
  ∀ (s : Shared) (us : List Value), K.In s.heap → (us ++ ds).length = ps.length → BindsTo s fd ⟨us, []⟩ (ps.zip (us ++ ds))
/-- every parameter is given -/
theorem Binds.all {K : PySem.W.Frag} {fd : FuncData} {ps : List Str} (h : ∀ us : List Value, us.length = ps.length → bindArgs fd ⟨us, []⟩ = pure (ps.zip us)) : Binds K fd ps [] := fun s us _ hl => by
  rw [List.append_nil] at hl ⊢
  exact .of_eq (h us hl)

/-- an exception of a callee reaches what this body wants of exceptions -/
def Passes (CX : CXT) (X : Cx) (E : XK) : Prop := ∀ (pins : List (Addr × Obj)) (σ : St) (H : Hp) (s : Shared) (e : Value) (s' : Shared), Inv X pins σ H s → CX X.stack H s E e s' → X.xe e s'

section
variable {X : Cx} {CX : CXT} {k : Nat} {f C : Addr} {fd : FuncData} {ps : List Str} {sp : Sp} {dvs : List V} {ds : List Value} {E : XK} {x m : Str} {p pos apos : Pos} {e o : Expr} {es : List Expr} {ta : TE} {t : TA}

/-- the callee runs -/
theorem run_fn {pins : List (Addr × Obj)} {σ : St} {H : Hp} {s : Shared} {Q : VK} {us : List Value} {vs : List V} (F : FnOk X.prog X.w X.K X.mg X.base CX k f fd ps sp) (hr : Room k X.A) (hb : Binds X.K fd ps ds) (hd : Vals dvs ds) (hx : Passes CX X E)
    (I : Inv X pins σ H s) (r : Vals vs us) (h : sp (vs ++ dvs) H Q E) : wpAny (model X.prog X.w) X.A (call (.ref f) us) (EP X pins σ Q) X.xe s := by
  have r2 : Vals (vs ++ dvs) (us ++ ds) := r.append hd
  have hl : (us ++ ds).length = ps.length := by rw [← r2.length]; exact F.len _ _ _ _ h
  refine wpAny_call (codeAny_mono (F.run X.A X.stack s H ⟨us, []⟩ (us ++ ds) (vs ++ dvs) Q E hr I.env0 (hb s us I.kIn hl) r2 h) fun r s' hq => ?_)
  cases r with
  | error e => exact hx pins σ H s e s' I hq
  | ok fl =>
    cases fl with
    | ret u => exact I.after hq
    | next => exact False.elim hq
    | brk => exact False.elim hq
    | cont => exact False.elim hq

theorem pe_call (F : FnOk X.prog X.w X.K X.mg X.base CX k f fd ps sp) (hr : Room k X.A) (hg : Gl X x) (hm : X.mg x = some (.ref f)) (hk : PySem.W.keepIn X.K (.ref f) = true) (hb : Binds X.K fd ps ds) (hd : Vals dvs ds) (hx : Passes CX X E)
    (ha : PA X (e :: es) t) (hdb : (x == ("__debug__" : Str)) = false := by decide) (he : starEach (e :: es) X.env = (false, eval e X.env) :: starEach es X.env := by rfl) (hpl : (backTo pos (starEach es X.env)).any (·.1) = false := by rfl) :
    PE X (.Call (.Name x p) (e :: es) [] pos) (tCall sp dvs E t) := by
  intro pins s σ H Q I h
  refine wpAny_Call_Name_kw (ld_glob I hg hm ?_ hdb)
  refine PySem.W.callWith_K (h₀ := X.base) I.ok.mod.kin hk (thn (ha pos pins s σ H _ I h) fun us s1 ⟨vs, H1, I1, r, q⟩ => ⟨I1.kIn, ?_⟩) he hpl
  exact run_fn F hr hb hd hx I1 r q
theorem pe_call0 (F : FnOk X.prog X.w X.K X.mg X.base CX k f fd ps sp) (hr : Room k X.A) (hg : Gl X x) (hm : X.mg x = some (.ref f)) (hk : PySem.W.keepIn X.K (.ref f) = true) (hb : Binds X.K fd ps ds) (hd : Vals dvs ds) (hx : Passes CX X E)
    (hdb : (x == ("__debug__" : Str)) = false := by decide) : PE X (.Call (.Name x p) [] [] pos) (tCall sp dvs E tNil) := by
  intro pins s σ H Q I h
  refine wpAny_Call_Name_kw (ld_glob I hg hm ?_ hdb)
  exact PySem.W.callWith_K0 I.kIn hk (run_fn (us := []) F hr hb hd hx I .nil h)

/-- o.m(e, ..) -/
theorem pe_meth {pl : Sem Bool} (he : PE X o ta) (c : Cls X.K C) (hm : Meth X.K C m f) (F : FnOk X.prog X.w X.K X.mg X.base CX k f fd ps sp) (hr : Room k X.A) (hb : Binds X.K fd ps ds) (hd : Vals dvs ds) (hx : Passes CX X E) (ha : PA X (e :: es) t)
    (hst : starEach (e :: es) X.env = (false, eval e X.env) :: starEach es X.env := by rfl) (hpl : (backTo pos (starEach es X.env)).any (·.1) = false := by rfl)
    (ht : eval (.Call (.Attribute o m apos) (e :: es) [] pos) X.env = (do
      let ov ← eval o X.env
      standAt apos.atName
      let (f, first) ← holding [ov] (getMethod ov m pl)
      callWith pos f first (backTo pos (starEach (e :: es) X.env)) (backToKw pos (keywordEach [] X.env))) := by rfl) :
    PE X (.Call (.Attribute o m apos) (e :: es) [] pos) (tMeth C m sp dvs E ta t) := by
  intro pins s σ H Q I h
  refine PySem.W.methodCall_KW (pl := pl) (thn (he pins s σ H _ I h) fun u s1 ⟨x, H1, I1, rx, a, dx, fs, ex, ea, l, q⟩ => ?_) ht
  subst ex
  obtain rfl : u = Value.ref a := rx
  refine getmeth_ok I1 ea c hm l ?_
  refine PySem.W.callWith_K (first := [.ref a]) (h₀ := X.base) I.ok.mod.kin hm.kp (thn (ha pos pins s1 σ H1 _ I1 q) fun us s2 ⟨vs, H2, I2, r, q2⟩ => ⟨I2.kIn, ?_⟩) hst hpl
  exact run_fn (us := .ref a :: us) (vs := .ref a :: vs) F hr hb hd hx I2 (.cons rfl r) q2
/-- o.m() -/
theorem pe_meth0 {pl : Sem Bool} (he : PE X o ta) (c : Cls X.K C) (hm : Meth X.K C m f) (F : FnOk X.prog X.w X.K X.mg X.base CX k f fd ps sp) (hr : Room k X.A) (hb : Binds X.K fd ps ds) (hd : Vals dvs ds) (hx : Passes CX X E)
    (ht : eval (.Call (.Attribute o m apos) [] [] pos) X.env = (do
      let ov ← eval o X.env
      standAt apos.atName
      let (f, first) ← holding [ov] (getMethod ov m pl)
      callWith pos f first (backTo pos (starEach [] X.env)) (backToKw pos (keywordEach [] X.env))) := by rfl) :
    PE X (.Call (.Attribute o m apos) [] [] pos) (tMeth C m sp dvs E ta tNil) := by
  intro pins s σ H Q I h
  refine PySem.W.methodCall_KW (pl := pl) (thn (he pins s σ H _ I h) fun u s1 ⟨x, H1, I1, rx, a, dx, fs, ex, ea, l, q⟩ => ?_) ht
  subst ex
  obtain rfl : u = Value.ref a := rx
  refine getmeth_ok I1 ea c hm l ?_
  exact PySem.W.callWith_K0 (first := [.ref a]) I1.kIn hm.kp (run_fn (us := [.ref a]) (vs := [.ref a]) F hr hb hd hx I1 (.cons rfl .nil) q)

/-- what a class must have to be made -/
structure Mk (K : PySem.W.Frag) (C f : Addr) : Prop where
  makes : PySem.W.makesIn K C = true
  init : PySem.W.findIn K (.ref C) "__init__" = some (some (.ref f))
  fn : PySem.W.isFn K (.ref f) = true
  kp : PySem.W.keepIn K (.ref C) = true

theorem run_make {pins : List (Addr × Obj)} {σ : St} {H : Hp} {s : Shared} {Q : VK} {us : List Value} {vs : List V} (M : Mk X.K C f) (F : FnOk X.prog X.w X.K X.mg X.base CX k f fd ps sp) (hr : Room (k + 1) X.A) (hb : Binds X.K fd ps ds) (hd : Vals dvs ds)
    (hx : Passes CX X E) (I : Inv X pins σ H s) (r : Vals vs us)
    (h : ∀ x dx, H x = none → H dx = none → dx ≠ x → sp (.ref x :: (vs ++ dvs)) (upd (upd H dx (.own x)) x (.ins C dx [])) (fun v H2 => v = .non ∧ Q (.ref x) H2) E) :
    wpAny (model X.prog X.w) X.A (call (.ref C) us) (EP X pins σ Q) X.xe s := by
  have hq := h (s.heap.objs.size + 1) s.heap.objs.size (I.hok.fresh (Nat.le_succ _)) (I.hok.fresh (Nat.le_refl _)) (Nat.ne_of_lt (Nat.lt_succ_self _))
  have I2 := Inv.made (C := C) I
  have r2 : Vals (V.ref (s.heap.objs.size + 1) :: (vs ++ dvs)) (Value.ref (s.heap.objs.size + 1) :: (us ++ ds)) := .cons rfl (r.append hd)
  have hl : (Value.ref (s.heap.objs.size + 1) :: us ++ ds).length = ps.length := by
    have e := r2.length
    rw [F.len _ _ _ _ hq] at e
    exact e.symm
  refine wpAny_call (make_map (f := f) I.kIn M.makes M.init (beq_iff_eq.mp M.fn) (codeAny_mono (F.run _ X.stack _ _ ⟨Value.ref (s.heap.objs.size + 1) :: us, []⟩ (Value.ref (s.heap.objs.size + 1) :: (us ++ ds)) _ _ E (hr.make C us [])
    (I2.env0.make C us []) (hb _ (Value.ref (s.heap.objs.size + 1) :: us) I2.kIn hl) r2 hq) fun r s' hq' => ?_))
  cases r with
  | error e => exact hx pins σ _ _ e s' I2 hq'
  | ok fl =>
    cases fl with
    | ret u =>
      obtain ⟨v, H', I3, rv, ev, q3⟩ := I2.after hq'
      subst ev
      exact ⟨rv, ⟨V.ref (s.heap.objs.size + 1), H', I3, rfl, q3⟩⟩
    | next => exact False.elim hq'
    | brk => exact False.elim hq'
    | cont => exact False.elim hq'
theorem pe_make (M : Mk X.K C f) (F : FnOk X.prog X.w X.K X.mg X.base CX k f fd ps sp) (hr : Room (k + 1) X.A) (hg : Gl X x) (hm : X.mg x = some (.ref C)) (hb : Binds X.K fd ps ds) (hd : Vals dvs ds) (hx : Passes CX X E)
    (ha : PA X (e :: es) t) (hdb : (x == ("__debug__" : Str)) = false := by decide) (he : starEach (e :: es) X.env = (false, eval e X.env) :: starEach es X.env := by rfl) (hpl : (backTo pos (starEach es X.env)).any (·.1) = false := by rfl) :
    PE X (.Call (.Name x p) (e :: es) [] pos) (tMake C sp dvs E t) := by
  intro pins s σ H Q I h
  refine wpAny_Call_Name_kw (ld_glob I hg hm ?_ hdb)
  refine PySem.W.callWith_K (h₀ := X.base) I.ok.mod.kin M.kp (thn (ha pos pins s σ H _ I h) fun us s1 ⟨vs, H1, I1, r, q⟩ => ⟨I1.kIn, ?_⟩) he hpl
  exact run_make M F hr hb hd hx I1 r q
theorem pe_make0 (M : Mk X.K C f) (F : FnOk X.prog X.w X.K X.mg X.base CX k f fd ps sp) (hr : Room (k + 1) X.A) (hg : Gl X x) (hm : X.mg x = some (.ref C)) (hb : Binds X.K fd ps ds) (hd : Vals dvs ds) (hx : Passes CX X E)
    (hdb : (x == ("__debug__" : Str)) = false := by decide) : PE X (.Call (.Name x p) [] [] pos) (tMake C sp dvs E tNil) := by
  intro pins s σ H Q I h
  refine wpAny_Call_Name_kw (ld_glob I hg hm ?_ hdb)
  exact PySem.W.callWith_K0 I.kIn M.kp (run_make (us := []) M F hr hb hd hx I .nil h)
end

/-! ### keywords -/
/-- the values of the keywords, from the left -/
def PK (X : Cx) (kws : List Keyword) (t : TA) : Prop :=
  ∀ (pos : Pos) (pins : List (Addr × Obj)) (s : Shared) (σ : St) (H : Hp) (Q : List V → Hp → Prop), Inv X pins σ H s → t σ H Q → wpAny (model X.prog X.w) X.A (evalAll ((backToKw pos (keywordEach kws X.env)).map (·.2))) (AP X pins σ Q) X.xe s
section
variable {X : Cx} {CX : CXT} {k : Nat} {f C : Addr} {fd : FuncData} {ps ks : List Str} {sp : Sp} {E : XK} {x m : Str} {p pos apos kpos : Pos} {e o : Expr} {es : List Expr} {kws : List Keyword} {te ta : TE} {t tk : TA} {nm : Option Str}
theorem pk_nil : PK X [] tNil := fun _ _ _ _ H Q I h => wpAny_evalAll_nil ⟨[], H, I, .nil, h⟩
theorem pk_cons (ha : PE X e te) (hr : PK X kws t) : PK X (⟨nm, e, kpos⟩ :: kws) (tCons te t) := by
  intro pos pins s σ H Q I h
  show wpAny _ _ (evalAll ((do let v ← eval e X.env; standAt pos; pure v) :: (backToKw pos (keywordEach kws X.env)).map (·.2))) _ _ s
  refine wpAny_evalAll_cons (wpAny_bind (thn (ha pins s σ H _ I h) fun u s1 ⟨x, H1, I1, r1, q1⟩ => wpAny_bind (wpAny_standAt (wpAny_pure ?_))))
  exact thn (hr pos pins s1 σ H1 _ I1 q1) fun us s2 ⟨xs, H2, I2, r2, q2⟩ => ⟨x :: xs, H2, I2, .cons r1 r2, q2⟩

/-- how a call with keywords binds: g puts the positional values us and the keywords' values ws (names ks) in the parameters' order, defaults among them -/
structure KBinds (K : PySem.W.Frag) (fd : FuncData) (ps ks : List Str) (g : List Value → List Value → List Value) (gV : List V → List V → List V) : Prop where
  to : ∀ (s : Shared) (us ws : List Value), K.In s.heap → (g us ws).length = ps.length → BindsTo s fd ⟨us, ks.zip ws⟩ (ps.zip (g us ws))
  rel : ∀ {vs : List V} {us : List Value} {zs : List V} {ws : List Value}, Vals vs us → Vals zs ws → Vals (gV vs zs) (g us ws)
def tCallK (sp : Sp) (gV : List V → List V → List V) (E : XK) (t tk : TA) : TE := fun σ H Q => t σ H fun vs H1 => tk σ H1 fun zs H2 => sp (gV vs zs) H2 Q E
variable {g : List Value → List Value → List Value} {gV : List V → List V → List V}
theorem run_fnk {pins : List (Addr × Obj)} {σ : St} {H : Hp} {s : Shared} {Q : VK} {us ws : List Value} {vs zs : List V} (F : FnOk X.prog X.w X.K X.mg X.base CX k f fd ps sp) (hr : Room k X.A) (hb : KBinds X.K fd ps ks g gV) (hx : Passes CX X E)
    (I : Inv X pins σ H s) (r : Vals vs us) (rz : Vals zs ws) (h : sp (gV vs zs) H Q E) : wpAny (model X.prog X.w) X.A (call (.ref f) us (ks.zip ws)) (EP X pins σ Q) X.xe s := by
  have r2 := hb.rel r rz
  have hl : (g us ws).length = ps.length := by rw [← r2.length]; exact F.len _ _ _ _ h
  refine wpAny_call (codeAny_mono (F.run X.A X.stack s H ⟨us, ks.zip ws⟩ (g us ws) (gV vs zs) Q E hr I.env0 (hb.to s us ws I.kIn hl) r2 h) fun r s' hq => ?_)
  cases r with
  | error e => exact hx pins σ H s e s' I hq
  | ok fl =>
    cases fl with
    | ret u => exact I.after hq
    | next => exact False.elim hq
    | brk => exact False.elim hq
    | cont => exact False.elim hq
/-- f(e, .., k = v, ..) -/
theorem pe_callK (F : FnOk X.prog X.w X.K X.mg X.base CX k f fd ps sp) (hr : Room k X.A) (hg : Gl X x) (hm : X.mg x = some (.ref f)) (hk : PySem.W.keepIn X.K (.ref f) = true) (hb : KBinds X.K fd ps ks g gV) (hx : Passes CX X E)
    (ha : PA X (e :: es) t) (hkw : PK X kws tk) (hall : (backToKw pos (keywordEach kws X.env)).all (·.1.isSome) = true := by rfl) (hks : (backToKw pos (keywordEach kws X.env)).filterMap (·.1) = ks := by rfl)
    (hdb : (x == ("__debug__" : Str)) = false := by decide) (he : starEach (e :: es) X.env = (false, eval e X.env) :: starEach es X.env := by rfl)
    (hpl : ((backTo pos (starEach (e :: es) X.env)).any (·.1) || (backToKw pos (keywordEach kws X.env)).any (·.1.isNone)) = false := by rfl) :
    PE X (.Call (.Name x p) (e :: es) kws pos) (tCallK sp gV E t tk) := by
  intro pins s σ H Q I h
  refine wpAny_Call_Name_kw (ld_glob I hg hm ?_ hdb)
  refine PySem.W.callWith_KW (h₀ := X.base) I.ok.mod.kin hk hall (thn (ha pos pins s σ H _ I h) fun us s1 ⟨vs, H1, I1, r, q⟩ => ?_) hpl he
  refine thn (hkw pos pins s1 σ H1 _ I1 q) fun ws s2 ⟨zs, H2, I2, rz, q2⟩ => ⟨I2.kIn, ?_⟩
  rw [hks]
  exact run_fnk F hr hb hx I2 r rz q2
end

/-! ### a def's body keeps its promise -/
/-- names: the parameters first -/
structure FnScope (N P : List Str) (sc : Scope) : Prop where
  kind : sc.kind = .function
  co : sc.isCoroutine = false
  gen : sc.isGenerator = false
  nd : N.Nodup
  pre : N.take P.length = P
  par : ∀ x ∈ P, sc.names.lookup x = some .local ∨ sc.names.lookup x = some .cell
  nofree : ∀ y ∈ sc.names, y.2 ≠ .free

theorem bindL_out {kindOf : Str → Option NameKind} {x : Str} : ∀ {binds : List (Str × Value)} {m : Str → Option Value}, (∀ v, (x, v) ∉ binds) → bindL kindOf binds m x = m x
  | [], _, _ => rfl
  | (n, v) :: r, m, h => by
    unfold bindL
    rw [bindL_out fun w hw => h w (List.mem_cons_of_mem _ hw)]
    split
    · have : x ≠ n := by rintro rfl; exact h v List.mem_cons_self
      simp [this]
    · rfl
theorem bindC_out {kindOf : Str → Option NameKind} {x : Str} : ∀ {binds : List (Str × Value)} {m : Str → Option Value}, (∀ v, (x, v) ∉ binds) → bindC kindOf binds m x = m x
  | [], _, _ => rfl
  | (n, v) :: r, m, h => by
    unfold bindC
    rw [bindC_out fun w hw => h w (List.mem_cons_of_mem _ hw)]
    split
    · rfl
    · have : x ≠ n := by rintro rfl; exact h v List.mem_cons_self
      simp [this]
theorem bindL_get {kindOf : Str → Option NameKind} {x : Str} {v : Value} : ∀ {P : List Str} {vs : List Value} {i : Nat} {m : Str → Option Value}, P.Nodup → P[i]? = some x → vs[i]? = some v → kindOf x = some .local →
    bindL kindOf (P.zip vs) m x = some v
  | [], _, _, _, _, h, _, _ => by simp at h
  | _ :: _, [], _, _, _, _, h, _ => by simp at h
  | p :: P, w :: vs, 0, m, nd, h1, h2, hk => by
    simp at h1 h2; subst h1; subst h2
    show bindL kindOf ((p, w) :: P.zip vs) m p = _
    unfold bindL
    rw [bindL_out fun v hv => (List.nodup_cons.mp nd).1 (List.of_mem_zip hv).1, if_pos hk]
    simp
  | p :: P, w :: vs, i + 1, m, nd, h1, h2, hk => by
    show bindL kindOf ((p, w) :: P.zip vs) m x = _
    unfold bindL
    exact bindL_get (i := i) (List.nodup_cons.mp nd).2 (by simpa using h1) (by simpa using h2) hk
theorem bindC_get {kindOf : Str → Option NameKind} {x : Str} {v : Value} : ∀ {P : List Str} {vs : List Value} {i : Nat} {m : Str → Option Value}, P.Nodup → P[i]? = some x → vs[i]? = some v → kindOf x ≠ some .local →
    bindC kindOf (P.zip vs) m x = some v
  | [], _, _, _, _, h, _, _ => by simp at h
  | _ :: _, [], _, _, _, _, h, _ => by simp at h
  | p :: P, w :: vs, 0, m, nd, h1, h2, hk => by
    simp at h1 h2; subst h1; subst h2
    show bindC kindOf ((p, w) :: P.zip vs) m p = _
    unfold bindC
    rw [bindC_out fun v hv => (List.nodup_cons.mp nd).1 (List.of_mem_zip hv).1, if_neg hk]
    simp
  | p :: P, w :: vs, i + 1, m, nd, h1, h2, hk => by
    show bindC kindOf ((p, w) :: P.zip vs) m x = _
    unfold bindC
    exact bindC_get (i := i) (List.nodup_cons.mp nd).2 (by simpa using h1) (by simpa using h2) hk

/-- the names' values at the entry -/
def start (N : List Str) (vs : List V) : St := vs.map some ++ List.replicate (N.length - vs.length) none

/-- the context of a def's body, at its entry; an exception leaves the frame, then lies as CX says -/
def cxOf (CX : CXT) (P : Program) (w : World) (K : PySem.W.Frag) (mg : Str → Option Value) (base : Heap) (N : List Str) (qual : Str) (scope : Scope) (f : Addr) (cd : Value) (A : Around) (outer : List Env) (s : Shared) (H : Hp) (E : XK) : Cx where
  prog := P
  w := w
  K := K
  mg := mg
  base := base
  A := A.deeper (envOfC qual scope s.heap.objs.size f cd)
  N := N
  s₀ := s
  H₀ := H
  env := envOfC qual scope s.heap.objs.size f cd
  outer := outer
  stack := envOfC qual scope s.heap.objs.size f cd :: outer
  ex := []
  calm := true
  fn := fun _ => true
  pn := []
  xe := fun e s' => wpAny (model P w) (A.deeper (envOfC qual scope s.heap.objs.size f cd)) (leaving (envOfC qual scope s.heap.objs.size f cd) e) (fun _ s'' => CX outer H s E e s'') (fun e' s'' => CX outer H s E e' s'') s'

theorem cell_has {sc : Scope} {n : Nat} {x : Str} (h : sc.names.lookup x = some .cell) : ∃ c, (cellsFrom n sc.names []).lookup x = some c := by
  have q := PySem.W.cellsFrom_some sc.names n [] (.inl h)
  exact Option.isSome_iff_exists.mp q

theorem inv_start {CX : CXT} {P : Program} {w : World} {K : PySem.W.Frag} {mg : Str → Option Value} {base : Heap} {N ps : List Str} {qual : Str} {scope : Scope} {f : Addr} {cd : Value} {A : Around} {outer : List Env} {s s1 : Shared} {H : Hp} {E : XK} {us : List Value} {vs : List V}
    (S : FnScope N ps scope) (hd : A.handled = none) (e0 : Env0 P w K mg base A outer s H) (hl : vs.length = ps.length) (r : Vals vs us)
    (x : InCallC s s.heap.objs.size (bindL (envOfC qual scope s.heap.objs.size f cd).kindOf (ps.zip us) fun _ => none) (cellsFrom (s.heap.objs.size + 1) scope.names []) (bindC (envOfC qual scope s.heap.objs.size f cd).kindOf (ps.zip us) fun _ => none) s1) :
    Inv (cxOf CX P w K mg base N qual scope f cd A outer s H E) [] (start N vs) H s1 := by
  have hpl : ps.length ≤ N.length := by have := congrArg List.length S.pre; rw [List.length_take] at this; omega
  obtain ⟨h1, tk, rfl, hk⟩ := x.done
  have noA : ∀ b : Addr, b ∉ (cxOf CX P w K mg base N qual scope f cd A outer s H E).ex := fun b z => absurd (show b ∈ ([] : List Addr) from z) (by simp)
  refine ⟨⟨e0.mod, S.kind, rfl, rfl, Nat.le_refl _, fun y z c h1 h2 => ?_, fun y hy => ?_, fun y c _ h => ?_, fun _ => hd, Around.frames_deeper e0.frames, .inr ⟨rfl, rfl⟩, fun b z => absurd z (noA b), e0.bs, e0.bsz, fun b _ _ => noA b, fun b z => absurd z (noA b), e0.funs, e0.frf⟩,
    rfl, e0.bare, Un.kept hk, ⟨_, x.toInCall.ns, fun i y v h1 h2 h3 => ?_⟩, fun y c h => ⟨_, x.cell y c h⟩, e0.hok.fresh (Nat.le_refl _), fun y c h => ?_, fun p hp => absurd (show p ∈ ([] : List (Addr × Obj)) from hp) (by simp), e0.hok.kept hk, ?_⟩
  · exact name_of_addr x.apart (PySem.mem_of_lookup h1) (PySem.mem_of_lookup h2)
  · have hy : scope.names.lookup y = some .cell ∨ scope.names.lookup y = some .free := hy
    rcases hy with hy | hy
    · exact cell_has hy
    · exact absurd rfl (S.nofree _ (PySem.mem_of_lookup hy))
  · exact Nat.le_of_lt (x.above y c (PySem.mem_of_lookup h))
  · have hi : i < vs.length := by
      unfold start at h2
      by_cases hi : i < vs.length
      · exact hi
      · rw [List.getElem?_append_right (by simpa using hi)] at h2
        rw [List.getElem?_replicate] at h2
        split at h2 <;> cases h2
    have ha : vs[i]? = some v := by
      unfold start at h2
      rw [List.getElem?_append_left (by simpa using hi), List.getElem?_map] at h2
      cases e : vs[i]? with
      | none => rw [e] at h2; cases h2
      | some a => rw [e] at h2; cases h2; rfl
    obtain ⟨u, hu, rv⟩ := r.get ha
    have hp : ps[i]? = some y := by
      rw [← S.pre, List.getElem?_take_of_lt (by omega)]; exact h1
    have ndP : ps.Nodup := by rw [← S.pre]; exact S.nd.sublist (List.take_sublist _ _)
    refine ⟨u, rv, ?_⟩
    rcases S.par y (List.mem_of_getElem? hp) with k | k
    · exact .inl ⟨k, bindL_get ndP hp hu k⟩
    · obtain ⟨c, e⟩ := cell_has (n := s.heap.objs.size + 1) k
      refine .inr ⟨.inl k, c, e, ?_⟩
      have q := x.cell y c e
      rw [bindC_get ndP hp hu (by show scope.names.lookup y ≠ _; rw [k]; decide)] at q
      exact q
  · exact e0.hok.fresh (Nat.le_of_lt (x.above y c (PySem.mem_of_lookup h)))
  · unfold start
    show _ = N.length
    rw [List.length_append, List.length_map, List.length_replicate]
    omega

/-- THE RULE: a def (or a method) of the text, by its body. The body's reading t is chosen for each entry; it is run at the parameters' values -/
theorem fn_of {CX : CXT} {P : Program} {w : World} {K : PySem.W.Frag} {mg : Str → Option Value} {base : Heap} {k : Nat} {f : Addr} {name qual : Str} {params : Arguments} {body : List Stmt} {scope : Scope} {dV kV doc pm cdv ct oc : Value} {an od : Option Addr}
    {osl : Array (Option Value)} {N ps : List Str} {sp : Sp} (lk : K.lookup f = some ⟨oc, od, .func (PySem.W.fnOf name qual params body scope dV kV doc pm an cdv ct), osl⟩) (hcd : PySem.W.codeIn K cdv qual = true) (S : FnScope N ps scope)
    (len : ∀ vs H Q E, sp vs H Q E → vs.length = ps.length)
    (hbody : ∀ (A : Around) (outer : List Env) (s : Shared) (H : Hp) (vs : List V) (Q : VK) (E : XK), Room k (A.deeper (envOfC qual scope s.heap.objs.size f cdv)) → sp vs H Q E →
      ∃ t, PSs (cxOf CX P w K mg base N qual scope f cdv A outer s H E) body t ∧ t { nx := fun _ H' => Q .non H', rt := Q } (start N vs) H) :
    FnOk P w K mg base CX (k + 1) f (PySem.W.fnOf name qual params body scope dV kV doc pm an cdv ct) ps sp := by
  refine ⟨len, fun A outer s H args us vs Q E hr e0 hb r hsp => ?_⟩
  have hl := len _ _ _ _ hsp
  have KX : K.In s.heap := e0.mod.kin.keeps fun b o e => (e0.bs b o e).1
  have lim : s.heap.NoLimit := e0.mod.nolimit.keeps fun b o e => (e0.bs b o e).1
  have hkind : ∀ y ∈ ps.zip us, scope.names.lookup y.1 = some .local ∨ (scope.names.lookup y.1 = some .cell ∧ ((cellsFrom (s.heap.objs.size + 1) scope.names []).lookup y.1).isSome = true) := fun ⟨n, v⟩ hy => by
    rcases S.par n (List.of_mem_zip hy).1 with q | q
    · exact .inl q
    · exact .inr ⟨q, PySem.W.cellsFrom_some _ _ _ (.inl q)⟩
  refine codeAny_call_function hr.depth (KX _ _ lk) rfl S.co S.gen rfl (PySem.W.codeRec_of KX hcd) (hb _ _ _ _ ?_)
  refine wpAny_newFunctionEnv_cells S.kind hkind fun env he s1 x => ?_
  subst he
  refine ⟨lim.keeps x.toInCall.keep, codeAny_func ?_⟩
  obtain ⟨t, ht, hq⟩ := hbody A outer s H vs Q E (hr.deeper _) hsp
  have I : Inv (cxOf CX P w K mg base N qual scope f cdv A outer s H E) [] (start N vs) H s1 := inv_start S hr.hd e0 hl r x
  refine wpAny_mono (ht [] s1 (start N vs) H _ I hq) (fun fl s' hs => ?_) fun e s' hs => hs
  have fin : ∀ {σ' : St} {H' : Hp} {v : V} {u : Value}, Inv (cxOf CX P w K mg base N qual scope f cdv A outer s H E) [] σ' H' s' → RelV v u → Q v H' → CE outer P w H s Q u s' :=
    fun {σ' H' v u} J rv q => ⟨v, H', J.os, J.bare, J.base, J.hok, rv, q⟩
  cases fl with
  | ret u =>
    obtain ⟨v, σ', H', J, rv, q⟩ := hs
    exact fin J rv q
  | next =>
    obtain ⟨σ', H', J, q⟩ := hs
    exact fin (v := V.non) (u := Value.none) J rfl q
  | brk =>
    obtain ⟨_, _, _, q⟩ := hs
    exact False.elim q
  | cont =>
    obtain ⟨_, _, _, q⟩ := hs
    exact False.elim q
end L2

namespace L2
open PySem PySem.Spec PyProof.Rows
section
variable {X : Cx} {x : Str} {p pos : Pos} {e : Expr} {es : List Expr} {t : TA} {id T : String} {r : List V → Hp → VK → Prop}

def tCB (r : List V → Hp → VK → Prop) (t : TA) : TE := fun σ H Q => t σ H fun vs H1 => r vs H1 Q
/-- f(e, ..), f a built-in function -/
theorem pe_callB (hc : CallR X (.builtin id) r) (hg : Gl X x) (hm : X.mg x = none) (hv : bootBuiltins x = some (.builtin id)) (ha : PA X (e :: es) t) (hn : x ≠ "__name__" := by decide) (hdb : (x == ("__debug__" : Str)) = false := by decide)
    (he : starEach (e :: es) X.env = (false, eval e X.env) :: starEach es X.env := by rfl) (hpl : (backTo pos (starEach es X.env)).any (·.1) = false := by rfl) : PE X (.Call (.Name x p) (e :: es) [] pos) (tCB r t) := by
  intro pins s σ H Q I h
  refine wpAny_Call_Name_kw (ld_blt I hg hm hv ?_ hn hdb)
  exact PyProof.Rows.callWith_builtin1 (thn (ha pos pins s σ H _ I h) fun us s1 ⟨vs, H1, I1, r1, q1⟩ => hc pins s1 σ H1 vs us Q I1 r1 q1) he hpl
/-- T(e, ..), T a built-in type -/
theorem pe_callTy (hc : CallR X (.type T) r) (hg : Gl X x) (hm : X.mg x = none) (hv : bootBuiltins x = some (.type T)) (ha : PA X (e :: es) t) (hn : x ≠ "__name__" := by decide) (hdb : (x == ("__debug__" : Str)) = false := by decide)
    (he : starEach (e :: es) X.env = (false, eval e X.env) :: starEach es X.env := by rfl) (hpl : (backTo pos (starEach es X.env)).any (·.1) = false := by rfl) : PE X (.Call (.Name x p) (e :: es) [] pos) (tCB r t) := by
  intro pins s σ H Q I h
  refine wpAny_Call_Name_kw (ld_blt I hg hm hv ?_ hn hdb)
  exact PyProof.Rows.callWith_type1 (thn (ha pos pins s σ H _ I h) fun us s1 ⟨vs, H1, I1, r1, q1⟩ => hc pins s1 σ H1 vs us Q I1 r1 q1) he hpl
/-- T() -/
theorem pe_callTy0 (hc : CallR X (.type T) r) (hg : Gl X x) (hm : X.mg x = none) (hv : bootBuiltins x = some (.type T)) (hn : x ≠ "__name__" := by decide) (hdb : (x == ("__debug__" : Str)) = false := by decide) :
    PE X (.Call (.Name x p) [] [] pos) (tCB r tNil) := by
  intro pins s σ H Q I h
  refine wpAny_Call_Name_kw (ld_blt I hg hm hv ?_ hn hdb)
  exact PyProof.Rows.callWith_type0 (hc pins s σ H [] [] Q I .nil h)
end
end L2

namespace HT
open PySem PyProof.Rows

/-- t < u of tuples of ints -/
def lexLt : List Int → List Int → Bool
  | [], [] => false
  | [], _ :: _ => true
  | _ :: _, [] => false
  | x :: xs, y :: ys => if x = y then lexLt xs ys else decide (x < y)
theorem lexLt_cons (x y : Int) (xs ys : List Int) : lexLt (x :: xs) (y :: ys) = if x = y then lexLt xs ys else decide (x < y) := rfl
theorem lexLt_nil_nil : lexLt [] [] = false := rfl
theorem lexLt_nil_cons (y : Int) (ys : List Int) : lexLt [] (y :: ys) = true := rfl
theorem lexLt_cons_nil (x : Int) (xs : List Int) : lexLt (x :: xs) [] = false := rfl

theorem eqAt_int (A : Around) (s : Shared) (a : Int) (t : Tok) (c : Int) (u : Tok) : ∃ e, SeqAt.EqAt A s (.int a t) (.int c u) e ∧ (e = true ↔ a = c) :=
  ⟨(a == c), SeqAt.EqAt.int_int a t c u, by simp⟩
theorem rcLt_int (A : Around) (s : Shared) (a : Int) (t : Tok) (c : Int) (u : Tok) (prog : Program) (w : World) (E : Value → Shared → Prop) (Q : Value → Shared → Prop) (h : Q (.bool (decide (a < c))) s) :
    wpAny (model prog w) A (richCompare .Lt (.int a t) (.int c u)) Q E s :=
  (PyProof.Rows.lt_int h : wpAny (model prog w) A (compareOp .Lt (.int a t) (.int c u)) Q E s)

section
open PySem.SeqAt
open PySem.AutoSeq1 (wpAny_loadPart')
open PySem.MeetsSeq PySem.MeetsSeq2 PySem.MeetsSeq3

theorem tuple_lt_ints (l b : Addr) (items items2 : Array Value) (n n2 : Nat) (dd dd2 : Option Addr) (sl sl2 : Array (Option Value)) (ns ms : List Int) (hi : IntsAre items.toList ns) (hj : IntsAre items2.toList ms) :
    Meets (Builtin.«tuple.__lt__» ⟨[.ref l, .ref b], []⟩)
      (fun _ R s => s.heap.get? l = some { cls := .type "tuple", dict := dd, data := .seq items n, slots := sl } ∧ s.heap.get? b = some { cls := .type "tuple", dict := dd2, data := .seq items2 n2, slots := sl2 } ∧
        R (.ok (.ret (.bool (lexLt ns ms)))) s) :=
  .of_wp fun prog w A R s h => by
    obtain ⟨hp, g, d, tk, os⟩ := s; obtain ⟨hl, hb, h⟩ := h
    have f2 := AutoSeq1.sub_tuple_tuple
    have z1 : items.size = ns.length := by rw [← hi.length]; simp
    have z2 : items2.size = ms.length := by rw [← hj.length]; simp
    wp_walk using wpAny_loadPart' hl, wpAny_loadPart' hb, wpAny_forIn_list _ (fun rest b s' => b.1 = none ∧ s' = ⟨hp, g, d, tk, os⟩ ∧ ∃ (vs ws : List Value) (ns' ms' : List Int), rest = vs.zip ws ∧
      IntsAre vs ns' ∧ IntsAre ws ms' ∧ ns'.length + items2.size = ms'.length + items.size ∧ R (.ok (.ret (.bool (lexLt ns' ms')))) ⟨hp, g, d, tk, os⟩) _
    case turn =>
      rintro ⟨y, x⟩ rest b s' ⟨hb', rfl, vs, ws, ns', ms', hz, hvi, hwi, hlen, hR⟩
      cases hvi with
      | nil => rw [List.zip_nil_left] at hz; cases hz
      | cons a t hvi' =>
        cases hwi with
        | nil => rw [List.zip_nil_right] at hz; cases hz
        | cons c u hwi' =>
          rw [List.zip_cons_cons] at hz
          injection hz with hyx hrest
          injection hyx with hy hx
          subst hy hx
          rw [lexLt_cons] at hR
          simp only [List.length_cons] at hlen
          obtain ⟨e, he, hiff⟩ := eqAt_int A.in1 ⟨hp, g, d, tk, os⟩ a t c u
          refine wpAny_bind (he prog w _ _ ?_)
          cases e with
          | true =>
            rw [if_pos (hiff.mp rfl)] at hR
            wp_walk
            exact ⟨rfl, rfl, _, _, _, _, hrest, hvi', hwi', by omega, hR⟩
          | false =>
            rw [if_neg (fun q => absurd (hiff.mpr q) Bool.false_ne_true)] at hR
            have hri := rcLt_int A.in1 ⟨hp, g, d, tk, os⟩ a t c u prog w
            wp_walk using hri
            exact ⟨_, rfl, by simpa using hR⟩
    case fin =>
      rintro ⟨b1, b2⟩ s' ⟨hb', rfl, vs, ws, ns', ms', hz, hvi, hwi, hlen, hR⟩
      simp only at hb'
      subst hb'
      have hv : lexLt ns' ms' = decide (items.size < items2.size) := by
        cases hvi with
        | nil =>
          cases hwi with
          | nil =>
            simp only [List.length_nil] at hlen
            rw [lexLt_nil_nil]
            exact (decide_eq_false (by omega)).symm
          | cons c u hw =>
            simp only [List.length_nil, List.length_cons] at hlen
            rw [lexLt_nil_cons]
            exact (decide_eq_true (by omega)).symm
        | cons a t hv =>
          cases hwi with
          | nil =>
            simp only [List.length_nil, List.length_cons] at hlen
            rw [lexLt_cons_nil]
            exact (decide_eq_false (by omega)).symm
          | cons c u hw =>
            rw [List.zip_cons_cons] at hz
            cases hz
      rw [hv] at hR
      wp_walk
      exact ⟨_, rfl, by simpa [Builtin.Tuple.tupleCompareSizes] using hR⟩
    case h =>
      exact ⟨rfl, rfl, items.toList, items2.toList, ns, ms, rfl, hi, hj, by omega, h⟩
end

section
variable {prog : Program} {w : World} {A : Around} {E : Value → Shared → Prop} {s : Shared}

theorem lt_tupInts {l b : Addr} {items items2 : Array Value} {ns ms : List Int} {Q : Value → Shared → Prop} (hl : IsTup s.heap l items) (hb : IsTup s.heap b items2) (hi : IntsAre items.toList ns) (hj : IntsAre items2.toList ms)
    (hu : A.units < cLine) (h : Q (.bool (lexLt ns ms)) s) : wpAny (model prog w) A (compareOp .Lt (.ref l) (.ref b)) Q E s := by
  obtain ⟨⟨cls, dd, data, sl⟩, ho, hc, n, hd⟩ := id hl
  obtain ⟨⟨cls2, dd2, data2, sl2⟩, ho2, hc2, n2, hd2⟩ := id hb
  simp only at hc hd hc2 hd2
  subst hc hd hc2 hd2
  exact richCompare_meets_room (op := .Lt) ⟨_, ho, rfl⟩ ⟨_, ho2, rfl⟩ PySem.F.slot_tuple_lt PySem.F.entry_tuple_lt (PySem.F.args_tuple_lt_2 _ _) (tuple_lt_ints l b items items2 n n2 dd dd2 sl sl2 ns ms hi hj)
    ⟨ho, ho2, show Value.bool (lexLt ns ms) ≠ Value.notImplemented ∧ Q (.bool (lexLt ns ms)) s from ⟨(fun x => nomatch x), h⟩⟩ hu

/-- t + u, t not empty -/
theorem cat_tup {t b : Addr} {vs ws : List Value} {Q : Value → Shared → Prop} (ht : IsTup s.heap t vs.toArray) (hb : IsTup s.heap b ws.toArray) (hv : vs ≠ [])
    (h1 : ws = [] → Q (.ref t) s) (h2 : ws ≠ [] → Q (.ref s.heap.objs.size) { s with heap := s.heap.push { cls := .type "tuple", data := .seq (vs ++ ws).toArray } })
    (hsz : vs.length + ws.length ≤ sizeLine) : wpAny (model prog w) A (binaryOp .Add (.ref t) (.ref b)) Q E s := by
  obtain ⟨⟨cls, dd, data, sl⟩, ho, hc, n, hd⟩ := id ht
  obtain ⟨⟨cls2, dd2, data2, sl2⟩, ho2, hc2, n2, hd2⟩ := id hb
  simp only at hc hd hc2 hd2
  subst hc hd hc2 hd2
  have e : vs.toArray ++ ws.toArray = (vs ++ ws).toArray := by simp
  by_cases hw : ws = []
  · exact concat_meets ⟨_, ho, rfl⟩ ⟨_, ho2, rfl⟩ noFill_tuple_add seq_tuple_add PySem.F.slot_tuple_add PySem.F.entry_tuple_add (PySem.F.args_tuple_add_2 _ _)
      (tuple_addW1 t b vs.toArray ws.toArray n n2 dd dd2 sl sl2 (by simpa using hv) (by simp [hw])) ⟨ho, ho2, h1 hw⟩
  · refine concat_meets ⟨_, ho, rfl⟩ ⟨_, ho2, rfl⟩ noFill_tuple_add seq_tuple_add PySem.F.slot_tuple_add PySem.F.entry_tuple_add (PySem.F.args_tuple_add_2 _ _)
      (tuple_addW2 t b vs.toArray ws.toArray n n2 dd dd2 sl sl2 (by simpa using hv) (by simpa using hw) (by rw [List.size_toArray, List.size_toArray]; exact hsz)) ⟨ho, ho2, ?_⟩
    rw [e]
    exact h2 hw

/-! ### t[a:b], not the whole -/
/-- a slice's bound as a place among n (d where it is left out) -/
def sIx (n d : Nat) : Option Int → Nat
  | none => d
  | some v => if v < 0 then (v + (n : Int)).toNat else min v.toNat n
theorem sIx_none (n d : Nat) : sIx n d none = d := rfl
theorem sIx_nat (n d k : Nat) : sIx n d (some (k : Int)) = min k n := by
  show (if (k : Int) < 0 then ((k : Int) + (n : Int)).toNat else min (k : Int).toNat n) = min k n
  rw [if_neg (by omega), Int.toNat_natCast]
theorem sIx_le (n d : Nat) (hd : d ≤ n) (o : Option Int) : sIx n d o ≤ n := by
  cases o with
  | none => exact hd
  | some v =>
    show (if v < 0 then (v + (n : Int)).toNat else min v.toNat n) ≤ n
    by_cases hv : v < 0
    · rw [if_pos hv]; omega
    · rw [if_neg hv]; exact Nat.min_le_right _ _
theorem clip_eq (v : Int) (n d : Nat) : (if v < 0 then max (v + (n : Int)) 0 else min v (n : Int)) = ((sIx n d (some v) : Nat) : Int) := by
  show (if v < 0 then max (v + (n : Int)) 0 else min v (n : Int)) = (((if v < 0 then (v + (n : Int)).toNat else min v.toNat n) : Nat) : Int)
  by_cases hv : v < 0
  · simp only [if_pos hv]; omega
  · simp only [if_neg hv]; omega
theorem adjust_gen (lo hi : Option Int) (n : Nat) : Builtin.Slice.sliceAdjust lo hi 1 (n : Int) = (((sIx n 0 lo : Nat) : Int), ((sIx n n hi : Nat) : Int)) := by
  have h1 : ¬ ((1 : Int) < 0) := by omega
  unfold Builtin.Slice.sliceAdjust
  simp only [h1, if_false]
  refine Prod.ext ?_ ?_
  · cases lo with
    | none => rfl
    | some v => exact clip_eq v n 0
  · cases hi with
    | none => rfl
    | some v => exact clip_eq v n n
theorem places_gen (i j : Nat) : Builtin.Slice.slicePlaces (i : Int) (j : Int) 1 = j - i := by
  unfold Builtin.Slice.slicePlaces
  have h1 : (1 : Int) > 0 := by omega
  simp only [h1, if_true, Int.ediv_one]
  split <;> omega
theorem slicePart_ {v : Value} {o : Option Int} {Q : Option Int → Shared → Prop} (p : IsPart v o) (h : Q o s) : wpAny (model prog w) A (Builtin.Slice.slicePartIndex v) Q E s := by
  cases p with
  | none => exact slicePart_none h
  | int i t => exact slicePart_int h
theorem sliceApplied_gen {sl : Addr} {vl vu : Value} {lo hi : Option Int} {n : Nat} {Q : Int × Int × Nat → Shared → Prop} (hs : s.heap.IsSliceOf sl vl vu .none) (pl : IsPart vl lo) (pu : IsPart vu hi)
    (h : Q (((sIx n 0 lo : Nat) : Int), 1, sIx n n hi - sIx n 0 lo) s) : wpAny (model prog w) A (Builtin.Slice.sliceApplied (.ref sl) (pure (n : Int))) Q E s := by
  obtain ⟨os, hos, hcs, hds⟩ := id hs
  unfold Builtin.Slice.sliceApplied Builtin.Slice.sliceFields
  refine wpAny_bind (wpAny_bind (wpAny_field hos hds (x := vl) rfl (wpAny_bind (wpAny_field hos hds (x := vu) rfl (wpAny_bind (wpAny_field hos hds (x := .none) rfl (wpAny_pure ?_)))))))
  refine wpAny_bind (slicePart_none ?_)
  show wpAny _ _ (if ((1 : Int) == 0) = true then _ else _) _ _ s
  rw [if_neg (by decide)]
  refine wpAny_bind (slicePart_ pl (wpAny_bind (slicePart_ pu (wpAny_bind (wpAny_pure ?_)))))
  show wpAny _ _ (match Builtin.Slice.sliceAdjust lo hi 1 (n : Int) with | (lo, hi) => pure (lo, (1 : Int), Builtin.Slice.slicePlaces lo hi 1)) _ _ s
  rw [adjust_gen lo hi n]
  show wpAny _ _ (pure (((sIx n 0 lo : Nat) : Int), (1 : Int), Builtin.Slice.slicePlaces ((sIx n 0 lo : Nat) : Int) ((sIx n n hi : Nat) : Int) 1)) _ _ s
  rw [places_gen]
  exact wpAny_pure h
theorem pick_gen (xs : Array Value) (i k : Nat) : ((List.range k).filterMap fun (m : Nat) => xs[((i : Int) + (m : Int) * 1).toNat]?).toArray = ((xs.toList.drop i).take k).toArray := by
  have e : (fun (m : Nat) => xs[((i : Int) + (m : Int) * 1).toNat]?) = fun m => xs[i + m]? := by
    funext m
    have : ((i : Int) + (m : Int) * 1).toNat = i + m := by omega
    rw [this]
  rw [e]
  have := pick_run xs i k
  rw [List.filterMap_map] at this
  have e2 : ((fun x => xs[x]?) ∘ fun x => i + x) = fun m => xs[i + m]? := rfl
  rw [e2] at this
  rw [this]

theorem getItem_tuple_cut {t sl : Addr} {items : Array Value} {vl vu : Value} {lo hi : Option Int} {Q : Value → Shared → Prop} (ht : IsTup s.heap t items) (hs : s.heap.IsSliceOf sl vl vu .none) (pl : IsPart vl lo) (pu : IsPart vu hi)
    (hw : ¬ (sIx items.size 0 lo = 0 ∧ sIx items.size items.size hi = items.size))
    (h : Q (.ref s.heap.objs.size) { s with heap := s.heap.push { cls := .type "tuple", data := .seq ((items.toList.drop (sIx items.size 0 lo)).take (sIx items.size items.size hi - sIx items.size 0 lo)).toArray } })
    (hsz : items.size ≤ sizeLine) : wpAny (model prog w) A (getItem (.ref t) (.ref sl)) Q E s := by
  have htake : sizeOk (.seq ((items.toList.drop (sIx items.size 0 lo)).take (sIx items.size items.size hi - sIx items.size 0 lo)).toArray) := by
    show ((items.toList.drop (sIx items.size 0 lo)).take (sIx items.size items.size hi - sIx items.size 0 lo)).toArray.size ≤ sizeLine
    rw [List.size_toArray, List.length_take, List.length_drop, Array.length_toList]
    omega
  have hj : sIx items.size items.size hi ≤ items.size := sIx_le _ _ (Nat.le_refl _) hi
  obtain ⟨os, hos, hcs, hds⟩ := id hs
  have hTs : s.TypeIs (.ref sl) "slice" := ⟨os, hos, hcs⟩
  unfold getItem
  try with_reducible refine wpAny_holding ?_
  first | refine wpAny_bind (wpAny_pure ?_) | skip
  refine wpAny_bind (wpAny_sequenceKey ht.typeIs (by decide) ?_)
  refine wpAny_bind (wpAny_callSpecial?_slot (name := Str.ofString "__getitem__") ht.typeIs PyProof.Rows.slot_tuple_getitem
    (wpAny_call_entry PyProof.Rows.slot_tuple_getitem ht.typeIs entry_tuple_getitem ?_ (args_tuple_getitem _ _)))
  show wpAny _ _ (Builtin.Tuple.tupleItemsOf (.ref t) >>= _) _ _ s
  refine wpAny_bind (tupleItemsOf_ ht ?_)
  refine wpAny_bind (wpAny_typeOf hTs ?_)
  rw [if_pos (by decide)]
  refine wpAny_bind (sliceApplied_gen hs pl pu ?_)
  have hno : ¬ ((((sIx items.size 0 lo : Nat) : Int) == 0 && (1 : Int) == 1 && (sIx items.size items.size hi - sIx items.size 0 lo) == items.size) = true) := by
    intro q
    rw [Bool.and_eq_true, Bool.and_eq_true] at q
    have q1 : ((sIx items.size 0 lo : Nat) : Int) = 0 := eq_of_beq q.1.1
    have q2 : sIx items.size items.size hi - sIx items.size 0 lo = items.size := eq_of_beq q.2
    exact hw ⟨by omega, by omega⟩
  show wpAny _ _ (if (((sIx items.size 0 lo : Nat) : Int) == 0 && (1 : Int) == 1 && (sIx items.size items.size hi - sIx items.size 0 lo) == items.size) = true then _ else _) _ _ s
  rw [if_neg hno, pick_gen]
  first
    | exact wpAny_bind (m := Builtin.Tuple.tupleExact _) (wpAny_newObj_type (wpAny_pure ⟨_, rfl, wpAny_pure h⟩) htake)
    | exact wpAny_bind (m := Builtin.Tuple.tupleExact _) (wpAny_newObj_type (wpAny_bind (wpAny_pure (wpAny_pure ⟨_, rfl, wpAny_pure h⟩))) htake)
    | exact wpAny_bind (wpAny_bind (m := Builtin.Tuple.tupleExact _) (wpAny_newObj_type (wpAny_pure (wpAny_pure ⟨_, rfl, wpAny_pure h⟩)) htake))
    | exact wpAny_bind (wpAny_bind (m := Builtin.Tuple.tupleExact _) (wpAny_newObj_type (wpAny_pure ⟨_, rfl, wpAny_pure h⟩) htake))
end
end HT

namespace L2
open PySem PySem.Spec PyProof.Rows

/-! ### the parts of a slice -/
abbrev TO := St → Hp → (Option Int → Hp → Prop) → Prop
/-- a slice's part (left out, or an int) -/
def PO (X : Cx) (e : Option Expr) (t : TO) : Prop :=
  ∀ (pins : List (Addr × Obj)) (s : Shared) (σ : St) (H : Hp) (Q : Option Int → Hp → Prop), Inv X pins σ H s → t σ H Q →
    wpAny (model X.prog X.w) X.A (evalPart e X.env) (fun u s' => ∃ o H', Inv X pins σ H' s' ∧ IsPart u o ∧ Q o H') X.xe s
def tNoPart : TO := fun _ H Q => Q none H
def tPart (t : TE) : TO := fun σ H Q => t σ H fun x H1 => ∃ i, x = .int i ∧ Q (some i) H1

theorem intsAre_of {ns : List Int} : ∀ {us : List Value}, Vals (ns.map V.int) us → IntsAre us ns := by
  induction ns with
  | nil => intro us r; rw [List.map_nil] at r; cases r; exact .nil
  | cons n ns ih =>
    intro us r
    rw [List.map_cons] at r
    cases r with
    | cons r1 r2 =>
      obtain ⟨t, e⟩ := r1
      subst e
      exact .cons n t (ih r2)

section
variable {X : Cx} {e : Expr} {te : TE} {lo hi : Option Expr} {tl th : TO} {pos p2 : Pos}

theorem po_none : PO X none tNoPart := by
  intro pins s σ H Q I h
  rw [evalPart_none]
  exact wpAny_pure ⟨none, H, I, .none, h⟩
theorem po_some (h : PE X e te) : PO X (some e) (tPart te) := by
  intro pins s σ H Q I hw
  rw [evalPart_some]
  refine thn (h pins s σ H _ I hw) fun u s1 ⟨x, H1, I1, r1, q1⟩ => ?_
  obtain ⟨i, rfl, q⟩ := q1
  obtain ⟨t, rfl⟩ := r1
  exact ⟨some i, H1, I1, .int i t, q⟩

/-- what a slice of a value is, by values: the slice object stands at sl -/
def SlR (X : Cx) (r : V → Option Int → Option Int → Hp → VK → Prop) : Prop :=
  ∀ (pins : List (Addr × Obj)) (s : Shared) (σ : St) (H : Hp) (x : V) (v vl vu : Value) (lo hi : Option Int) (sl : Addr) (Q : VK), Inv X pins σ H s → RelV x v → s.heap.IsSliceOf sl vl vu .none → IsPart vl lo → IsPart vu hi → r x lo hi H Q →
    ∃ T id, typeLookup (.type T) "__getitem__" = pure (some (.builtin id)) ∧ s.TypeIs v T ∧ wpAny (model X.prog X.w) X.A (getItem v (.ref sl)) (EP X pins σ Q) X.xe s
theorem SlR.or {r r' : V → Option Int → Option Int → Hp → VK → Prop} (h : SlR X r) (h' : SlR X r') : SlR X (fun x lo hi H Q => r x lo hi H Q ∨ r' x lo hi H Q) := by
  intro pins s σ H x v vl vu lo hi sl Q I rx hs pl pu q
  rcases q with q | q
  · exact h pins s σ H x v vl vu lo hi sl Q I rx hs pl pu q
  · exact h' pins s σ H x v vl vu lo hi sl Q I rx hs pl pu q
def tSl (r : V → Option Int → Option Int → Hp → VK → Prop) (te : TE) (tl th : TO) : TE := fun σ H Q => te σ H fun x H1 => tl σ H1 fun l H2 => th σ H2 fun u H3 => r x l u H3 Q
/-- a[lo:hi], any a -/
theorem pe_slice {r : V → Option Int → Option Int → Hp → VK → Prop} (hr : SlR X r) (he : PE X e te) (hl : PO X lo tl) (hu : PO X hi th) : PE X (.Subscript e (.Slice lo hi none p2) pos) (tSl r te tl th) := by
  intro pins s σ H Q I h
  refine Subscript_ (thn (he pins s σ H _ I h) fun v s1 ⟨x, H1, I1, r1, q1⟩ => ?_)
  refine wpAny_Slice (thn (hl pins s1 σ H1 _ I1 q1) fun vl s2 ⟨l, H2, I2, pl, q2⟩ => thn (hu pins s2 σ H2 _ I2 q2) fun vu s3 ⟨u, H3, I3, pu, q3⟩ => ?_)
  rw [evalPart_none]
  refine wpAny_pure ?_
  have I4 : Inv X pins σ H3 { s3 with heap := s3.heap.push { cls := .type "slice", data := .fields #[vl, vu, .none] } } := I3.kept (t' := s3.toks) fun b ob q => Heap.get?_push_of_some _ q
  obtain ⟨T, id, hT, ht, hg⟩ := hr pins { s3 with heap := s3.heap.push { cls := .type "slice", data := .fields #[vl, vu, .none] } } σ H3 x v vl vu l u s3.heap.objs.size Q I4 r1 (Heap.IsSliceOf.new ..) pl pu q3
  show wpAny (model X.prog X.w) X.A (subscriptTail e (.Slice lo hi none p2) v (.ref s3.heap.objs.size)) (EP X pins σ Q) X.xe { s3 with heap := s3.heap.push { cls := .type "slice", data := .fields #[vl, vu, .none] } }
  exact tail_any (ops := [.ref s3.heap.objs.size, v]) ht hT hg (by with_unfolding_all rfl)

/-- the items of xs[lo:hi] -/
def cutV (xs : List V) (lo hi : Option Int) : List V := (xs.drop (HT.sIx xs.length 0 lo)).take (HT.sIx xs.length xs.length hi - HT.sIx xs.length 0 lo)
theorem cutV_length (xs : List V) (lo hi : Option Int) : (cutV xs lo hi).length ≤ xs.length := by
  unfold cutV
  rw [List.length_take, List.length_drop]
  omega
/-- t[lo:hi], not the whole of it (the whole would be t itself) -/
def rSlT (K : PySem.W.Frag) : V → Option Int → Option Int → Hp → VK → Prop := fun x lo hi H Q => ∃ a xs, x = .ref a ∧ SqT K H a xs ∧
  ¬ (HT.sIx xs.length 0 lo = 0 ∧ HT.sIx xs.length xs.length hi = xs.length) ∧ ∀ p, H p = none → Q (.ref p) (upd H p (.tup (cutV xs lo hi)))
theorem sl_tup : SlR X (rSlT X.K) := by
  intro pins s σ H x v vl vu lo hi sl Q I rx hs pl pu h
  obtain ⟨a, xs, rfl, hx, hw, q⟩ := h
  cases rx
  obtain ⟨its, r, ht, hz⟩ := I.tuple hx
  have hlen : its.toArray.size = xs.length := by rw [List.size_toArray]; exact r.length.symm
  refine ⟨"tuple", _, PyProof.Rows.slot_tuple_getitem.lookup, ht.typeIs, ?_⟩
  refine HT.getItem_tuple_cut ht hs pl pu (by rw [hlen]; exact hw) ?_ (by rw [hlen]; exact hz)
  rw [hlen]
  refine ⟨.ref s.heap.objs.size, _, I.laid (t' := s.toks) (o := .tup (cutV xs lo hi)) (fun b ob q => Heap.get?_push_of_some _ q) (Nat.le_refl _) ?_, rfl, q _ (I.hok.fresh (Nat.le_refl _))⟩
  exact ⟨Nat.le_trans (cutV_length xs lo hi) hz, _, (r.drop (HT.sIx xs.length 0 lo)).take (HT.sIx xs.length xs.length hi - HT.sIx xs.length 0 lo), IsTup.new _ _⟩

/-! ### t < u, t + u -/
def rLtT (K : PySem.W.Frag) : R2 := fun x y H Q => ∃ a b ns ms, x = .ref a ∧ y = .ref b ∧ SqT K H a (ns.map V.int) ∧ SqT K H b (ms.map V.int) ∧ Q (.bl (HT.lexLt ns ms)) H
theorem op_ltT (hu : X.A.units < cLine) : OpR X (compareOp .Lt) (rLtT X.K) := by
  intro pins s σ H x y v u Q I rx ry h
  obtain ⟨a, b, ns, ms, rfl, rfl, ha, hb, q⟩ := h
  cases rx
  cases ry
  obtain ⟨its, r1, p1, _⟩ := I.tuple ha
  obtain ⟨its2, r2, p2, _⟩ := I.tuple hb
  have i1 : IntsAre its.toArray.toList ns := intsAre_of r1
  have i2 : IntsAre its2.toArray.toList ms := intsAre_of r2
  exact HT.lt_tupInts p1 p2 i1 i2 hu ⟨.bl (HT.lexLt ns ms), H, I, rfl, q⟩
/-- t + u, t not empty: u empty gives t itself -/
def rCatT (K : PySem.W.Frag) : R2 := fun x y H Q => ∃ a b xs ys, x = .ref a ∧ y = .ref b ∧ SqT K H a xs ∧ SqT K H b ys ∧ xs ≠ [] ∧ xs.length + ys.length ≤ sizeLine ∧
  (ys = [] → Q (.ref a) H) ∧ (ys ≠ [] → ∀ p, H p = none → Q (.ref p) (upd H p (.tup (xs ++ ys))))
theorem Vals.nil_iff {xs : List V} {us : List Value} (r : Vals xs us) : us = [] ↔ xs = [] := by
  cases r with
  | nil => simp
  | cons _ _ => simp
theorem op_catT : OpR X (binaryOp .Add) (rCatT X.K) := by
  intro pins s σ H x y v u Q I rx ry h
  obtain ⟨a, b, xs, ys, rfl, rfl, ha, hb, hx, hz, q1, q2⟩ := h
  cases rx
  cases ry
  obtain ⟨its, r1, p1, _⟩ := I.tuple ha
  obtain ⟨its2, r2, p2, _⟩ := I.tuple hb
  refine HT.cat_tup p1 p2 (fun z => hx (r1.nil_iff.mp z)) (fun z => ⟨.ref a, H, I, rfl, q1 (r2.nil_iff.mp z)⟩) (fun z => ?_) (by rw [← r1.length, ← r2.length]; exact hz)
  refine ⟨.ref s.heap.objs.size, _, I.laid (t' := s.toks) (o := .tup (xs ++ ys)) (fun b ob q => Heap.get?_push_of_some _ q) (Nat.le_refl _) ?_, rfl, q2 (fun w => z (r2.nil_iff.mpr w)) _ (I.hok.fresh (Nat.le_refl _))⟩
  exact ⟨by rw [List.length_append]; exact hz, _, r1.append r2, IsTup.new _ _⟩
/-- tuple(t) -/
theorem call_tupleT : CallR X (.type "tuple") (fun xs H Q => ∃ a ys, xs = [.ref a] ∧ SqT X.K H a ys ∧ Q (.ref a) H) := by
  intro pins s σ H xs us Q I r h
  obtain ⟨a, ys, rfl, ha, q⟩ := h
  obtain ⟨u, rfl, ru⟩ := vals1 r
  cases ru
  obtain ⟨its, _, p1, _⟩ := I.tuple ha
  exact call_tuple_same (items := its.toArray) p1 ⟨.ref a, H, I, rfl, q⟩
end
end L2

namespace L2
open PySem PySem.Spec PyProof.Rows

/-! ### places -/
/-- the place that an index of any sign means -/
def ixN (n : Nat) (i : Int) : Option Nat := if 0 ≤ i then (if i < n then some i.toNat else none) else if -(n : Int) ≤ i then some (i + n).toNat else none
def atI {α : Type} (xs : List α) (i : Int) : Option α := (ixN xs.length i).bind fun j => xs[j]?
theorem ixN_seq {n : Nat} {i : Int} {j : Nat} (h : ixN n i = some j) : seqIndex? i n = some j ∧ j < n ∧ -(n : Int) ≤ i ∧ i < n := by
  unfold ixN at h
  by_cases h0 : 0 ≤ i
  · rw [if_pos h0] at h
    by_cases h1 : i < n
    · rw [if_pos h1] at h
      have e : i.toNat = j := Option.some.inj h
      exact ⟨by rw [seqIndex_of h0 h1, e], by omega, by omega, h1⟩
    · rw [if_neg h1] at h; cases h
  · rw [if_neg h0] at h
    by_cases h1 : -(n : Int) ≤ i
    · rw [if_pos h1] at h
      have e : (i + n).toNat = j := Option.some.inj h
      exact ⟨by rw [seqIndex_neg (by omega) h1, e], by omega, h1, by omega⟩
    · rw [if_neg h1] at h; cases h
theorem atI_get {α : Type} {xs : List α} {i : Int} {v : α} (h : atI xs i = some v) : ∃ j, seqIndex? i xs.length = some j ∧ xs[j]? = some v ∧ j < xs.length ∧ -(xs.length : Int) ≤ i ∧ i < xs.length := by
  unfold atI at h
  cases e : ixN xs.length i with
  | none => rw [e] at h; cases h
  | some j =>
    rw [e] at h
    obtain ⟨h1, h2, h3, h4⟩ := ixN_seq e
    exact ⟨j, h1, h, h2, h3, h4⟩
theorem atI_nat {α : Type} {xs : List α} {j : Nat} {v : α} (h : xs[j]? = some v) : atI xs (j : Int) = some v := by
  have hj : j < xs.length := (List.getElem?_eq_some_iff.mp h).1
  have e : ixN xs.length (j : Int) = some j := by
    unfold ixN
    rw [if_pos (by omega), if_pos (by omega)]; simp
  unfold atI; rw [e]; exact h
theorem atI_last {α : Type} (xs : List α) (v : α) : atI (xs ++ [v]) (-1) = some v := by
  have hl : (xs ++ [v]).length = xs.length + 1 := by simp
  have e : ixN (xs ++ [v]).length (-1) = some xs.length := by
    unfold ixN
    rw [hl, if_neg (by decide), if_pos (by omega)]
    congr 1
    omega
  unfold atI
  rw [e]
  show (xs ++ [v])[xs.length]? = some v
  simp

/-! ### what may be subscripted -/
/-- what stands as an index of a plain subscript -/
def PlainIx (b : Expr) : Prop := ∀ o i, subscripted b false o i = operate [o, i] (getItem o i)
/-- a subscript by values -/
def IxR (X : Cx) (r : R2) : Prop :=
  ∀ (value slice : Expr) (pins : List (Addr × Obj)) (s : Shared) (σ : St) (H : Hp) (x y : V) (v u : Value) (Q : VK), Inv X pins σ H s → RelV x v → RelV y u → r x y H Q →
    subscripted slice false v u = operate [v, u] (getItem v u) → wpAny (model X.prog X.w) X.A (subscriptTail value slice v u) (EP X pins σ Q) X.xe s
/-- a call of a builtin's method by values: the receiver, the arguments -/
def MtR (X : Cx) (id : String) (r : V → List V → Hp → VK → Prop) : Prop :=
  ∀ (pins : List (Addr × Obj)) (s : Shared) (σ : St) (H : Hp) (x : V) (xs : List V) (v : Value) (us : List Value) (Q : VK), Inv X pins σ H s → RelV x v → Vals xs us → r x xs H Q →
    wpAny (model X.prog X.w) X.A (call (.builtin id) (v :: us)) (EP X pins σ Q) X.xe s
section
variable {X : Cx} {a b : Expr} {ta tb : TE} {pos : Pos}
theorem IxR.or {r r' : R2} (h : IxR X r) (h' : IxR X r') : IxR X (fun x y H Q => r x y H Q ∨ r' x y H Q) := by
  intro value slice pins s σ H x y v u Q I rx ry q hs
  rcases q with q | q
  · exact h value slice pins s σ H x y v u Q I rx ry q hs
  · exact h' value slice pins s σ H x y v u Q I rx ry q hs
theorem MtR.or {id : String} {r r' : V → List V → Hp → VK → Prop} (h : MtR X id r) (h' : MtR X id r') : MtR X id (fun x xs H Q => r x xs H Q ∨ r' x xs H Q) := by
  intro pins s σ H x xs v us Q I rx rs q
  rcases q with q | q
  · exact h pins s σ H x xs v us Q I rx rs q
  · exact h' pins s σ H x xs v us Q I rx rs q
/-- a[b] -/
theorem pe_ix {r : R2} (hr : IxR X r) (ha : PE X a ta) (hb : PE X b tb) (hs : PlainIx b) : PE X (.Subscript a b pos) (tOp r ta tb) := by
  intro pins s σ H Q I h
  exact Subscript_ (binT ha hb I h fun v u s2 x y H2 I2 rx ry q => hr a b pins s2 σ H2 x y v u Q I2 rx ry q (hs _ _))

def rIxL (K : PySem.W.Frag) : R2 := fun x y H Q => ∃ p xs i v, x = .ref p ∧ y = .int i ∧ SqL K H p xs ∧ atI xs i = some v ∧ Q v H
def rIxT (K : PySem.W.Frag) : R2 := fun x y H Q => ∃ p xs i v, x = .ref p ∧ y = .int i ∧ SqT K H p xs ∧ atI xs i = some v ∧ Q v H
def rIxS : R2 := fun x y H Q => ∃ z i c, x = .str z ∧ y = .int i ∧ z.length ≤ sizeLine ∧ atI z.cps.toList i = some c ∧ Q (.str ⟨#[c]⟩) H
theorem ix_list : IxR X (rIxL X.K) := by
  intro value slice pins s σ H x y v u Q I rx ry h hs
  obtain ⟨p, xs, i, z, rfl, rfl, hq, he, q⟩ := h
  cases rx
  obtain ⟨t, rfl⟩ := ry
  obtain ⟨its, r, pl, hz⟩ := I.list hq
  obtain ⟨j, h1, h2, h3, h4, h5⟩ := atI_get he
  obtain ⟨w, ew, rw'⟩ := r.get h2
  have hl := r.length
  have hn := line63
  have fin : EP X pins σ Q w s := ⟨z, H, I, rw', q⟩
  by_cases h0 : 0 ≤ i
  · have hj : i.toNat = j := by
      rw [seqIndex_of h0 h5] at h1
      exact Option.some.inj h1
    exact item_listR pl.isList h0 (by omega) (by rw [hj]; simpa using ew) fin hs
  · have hj : (i + (its.toArray.size : Int)).toNat = j := by
      rw [seqIndex_neg (by omega) h4] at h1
      rw [List.size_toArray, ← hl]
      exact Option.some.inj h1
    exact subscriptTail_builtinR (x := w) pl.isList.typeIs slot_list_getitem.lookup
      (wpAny_getItem_list_neg (Q := fun r s' => r = w ∧ EP X pins σ Q r s') pl.isList (by omega) (by rw [List.size_toArray] <;> omega) (by omega) (by rw [hj]; simpa using ew) ⟨rfl, fin⟩) hs
theorem ix_tup : IxR X (rIxT X.K) := by
  intro value slice pins s σ H x y v u Q I rx ry h hs
  obtain ⟨p, xs, i, z, rfl, rfl, hq, he, q⟩ := h
  cases rx
  obtain ⟨t, rfl⟩ := ry
  obtain ⟨its, r, pl, hz⟩ := I.tuple hq
  obtain ⟨j, h1, h2, h3, h4, h5⟩ := atI_get he
  obtain ⟨w, ew, rw'⟩ := r.get h2
  have hl := r.length
  have hn := line63
  have fin : EP X pins σ Q w s := ⟨z, H, I, rw', q⟩
  exact subscriptTail_builtinR (x := w) pl.typeIs slot_tuple_getitem.lookup
    (getItem_tuple (j := j) (Q := fun r s' => r = w ∧ EP X pins σ Q r s') pl (by omega) (by omega) (by rw [List.size_toArray, ← hl]; exact h1) (by simpa using ew) ⟨rfl, fin⟩) hs
theorem ix_str : IxR X rIxS := by
  intro value slice pins s σ H x y v u Q I rx ry h hs
  obtain ⟨z, i, c, rfl, rfl, hz, he, q⟩ := h
  obtain ⟨t, rfl⟩ := rx
  obtain ⟨t', rfl⟩ := ry
  obtain ⟨j, h1, h2, h3, h4, h5⟩ := atI_get he
  have hl : z.cps.toList.length = z.length := by simp [Str.length]
  rw [hl] at h1 h4 h5
  have hn := line63
  exact tail_any (typeIs_str s z t) slot_str_getitem.lookup (getItem_str (c := c) (by
    have e1 : decide (i < -(2 ^ 63 : Int)) = false := decide_eq_false (by omega)
    have e2 : decide (i ≥ 2 ^ 63) = false := decide_eq_false (by omega)
    rw [e1, e2, Bool.or_false]) (by rw [h1]; simpa using h2) ⟨.str ⟨#[c]⟩, H, I.tok _, ⟨_, rfl⟩, q⟩) hs
/-- list, tuple or str -/
def rIx (K : PySem.W.Frag) : R2 := fun x y H Q => rIxL K x y H Q ∨ rIxT K x y H Q ∨ rIxS x y H Q
theorem ix_seq : IxR X (rIx X.K) := ix_list.or (ix_tup.or ix_str)

/-! ### xs[i] = v, any sign -/
/-- the list's object behind a store -/
theorem mapSeq_set (its : List Value) (n j : Nat) (u : Value) : Obj.mapSeq (·.setIfInBounds j u) { cls := .type "list", data := .seq its.toArray n } = { cls := .type "list", data := .seq (its.set j u).toArray n } := by
  simp [Obj.mapSeq]
theorem Inv.lst {pins : List (Addr × Obj)} {σ : St} {H : Hp} {s : Shared} {p : Addr} {xs : List V} (I : Inv X pins σ H s) (h : H p = some (.lst xs)) :
    ∃ (its : List Value) (n : Nat), Vals xs its ∧ s.heap.get? p = some { cls := .type "list", data := .seq its.toArray n } ∧ xs.length ≤ sizeLine := by
  obtain ⟨z, its, n, r, e⟩ := I.hok p _ h
  exact ⟨its, n, r, e, z⟩
/-- the list at p is written by an update of its object -/
theorem Inv.lstUpd {pins : List (Addr × Obj)} {σ : St} {H : Hp} {s : Shared} {p : Addr} {xs ys : List V} {its its' : List Value} {n n' : Nat} {f : Obj → Obj} (I : Inv X pins σ H s) (h : H p = some (.lst xs))
    (ho : s.heap.get? p = some { cls := .type "list", data := .seq its.toArray n }) (hf : f { cls := .type "list", data := .seq its.toArray n } = { cls := .type "list", data := .seq its'.toArray n' }) (r : Vals ys its') (hz : ys.length ≤ sizeLine) (t : Nat) :
    Inv X pins σ (upd H p (.lst ys)) { s with heap := s.heap.update p f, toks := t } := by
  have e : (s.heap.update p f).get? p = some { cls := .type "list", data := .seq its'.toArray n' } := by
    rw [Heap.get?_update_self f ho (by rw [hf] <;> rfl), hf]
  refine I.write (x := p) (e := p) (by rw [h]; trivial) (.inl rfl) (fun b u hb q => (Heap.get?_update_other _ _ (Ne.symm hb)).trans q) ⟨_, e⟩ ?_
  exact ⟨hz, its', n', r, e⟩
def rSetL : V → V → V → Hp → (Hp → Prop) → Prop := fun o i v H Q => ∃ p xs k j, o = .ref p ∧ i = .int k ∧ H p = some (.lst xs) ∧ ixN xs.length k = some j ∧ Q (upd H p (.lst (xs.set j v)))
theorem set_list : PSet X rSetL := by
  intro pins s σ H o i v ov iv u Q I ro ri rv h
  obtain ⟨p, xs, k, j, rfl, rfl, hp, hj, q⟩ := h
  cases ro
  obtain ⟨t, rfl⟩ := ri
  obtain ⟨its, n, r, ho, hz⟩ := I.lst hp
  obtain ⟨h1, h2, h3, h4⟩ := ixN_seq hj
  have hl := r.length
  have hn := line63
  have I' : Inv X pins σ (upd H p (.lst (xs.set j v))) { s with heap := s.heap.update p (Obj.mapSeq (·.setIfInBounds j u)) } :=
    I.lstUpd hp ho (mapSeq_set its n j u) (r.set rv j) (by rw [List.length_set]; exact hz) s.toks
  by_cases h0 : 0 ≤ k
  · have hk : k.toNat = j := by
      rw [seqIndex_of h0 h4] at h1
      exact Option.some.inj h1
    exact PySem.W.ki_setAt ho h0 (by omega) (by rw [List.size_toArray, ← hl]; exact h4) (by rw [hk]; exact ⟨_, I', q⟩)
  · have hk : (k + (its.toArray.size : Int)).toNat = j := by
      rw [seqIndex_neg (by omega) h3] at h1
      rw [List.size_toArray, ← hl]
      exact Option.some.inj h1
    exact PySem.W.ki_setBack ho (by omega) (by rw [List.size_toArray, ← hl]; exact h3) (by omega) (by rw [hk]; exact ⟨_, I', q⟩)

/-! ### slices -/
theorem slice_bounds (lo hi : Option Int) (n : Nat) : (sliceBounds lo hi none n).1 = ((HT.sIx n 0 lo : Nat) : Int) ∧ (sliceBounds lo hi none n).2.1 = ((HT.sIx n n hi : Nat) : Int) ∧ (sliceBounds lo hi none n).2.2 = 1 := by
  refine ⟨?_, ?_, rfl⟩
  · cases lo with
    | none => simp [sliceBounds, HT.sIx]
    | some i =>
      simp only [sliceBounds, HT.sIx, Option.getD_none, show (1 : Int) > 0 by decide, if_true]
      by_cases h : i < 0
      · simp only [h, if_true] <;> omega
      · simp only [h, if_false] <;> omega
  · cases hi with
    | none => simp [sliceBounds, HT.sIx]
    | some i =>
      simp only [sliceBounds, HT.sIx, Option.getD_none, show (1 : Int) > 0 by decide, if_true]
      by_cases h : i < 0
      · simp only [h, if_true] <;> omega
      · simp only [h, if_false] <;> omega
theorem slicePick_cut (its : List Value) (lo hi : Option Int) : slicePick its.toArray lo hi none = ((its.drop (HT.sIx its.length 0 lo)).take (HT.sIx its.length its.length hi - HT.sIx its.length 0 lo)).toArray := by
  obtain ⟨h1, h2, h3⟩ := slice_bounds lo hi its.toArray.size
  unfold slicePick
  rw [h1, h2, h3]
  simp only [sliceRange_one, pick_run, List.size_toArray] <;> rfl
/-- xs[lo:hi] of a list: a new list -/
def rSlL (K : PySem.W.Frag) : V → Option Int → Option Int → Hp → VK → Prop := fun x lo hi H Q => ∃ a xs, x = .ref a ∧ SqL K H a xs ∧ ∀ p, H p = none → Q (.ref p) (upd H p (.lst (cutV xs lo hi)))
theorem sl_list : SlR X (rSlL X.K) := by
  intro pins s σ H x v vl vu lo hi sl Q I rx hs pl pu h
  obtain ⟨a, xs, rfl, hx, q⟩ := h
  cases rx
  obtain ⟨its, r, ht, hz⟩ := I.list hx
  have hlen := r.length
  refine ⟨"list", _, slot_list_getitem.lookup, ht.isList.typeIs, ?_⟩
  refine wpAny_getItem_list_slice ht.isList hs pl pu .none (by simp) ?_ (by rw [List.size_toArray] <;> omega)
  rw [slicePick_cut, ← hlen]
  refine ⟨.ref s.heap.objs.size, _, I.laid (t' := s.toks) (o := .lst (cutV xs lo hi)) (fun b ob q => Heap.get?_push_of_some _ q) (Nat.le_refl _) ?_, rfl, q _ (I.hok.fresh (Nat.le_refl _))⟩
  exact ⟨Nat.le_trans (cutV_length xs lo hi) hz, _, 0, (r.drop (HT.sIx xs.length 0 lo)).take (HT.sIx xs.length xs.length hi - HT.sIx xs.length 0 lo), Heap.get?_push_size _ rfl⟩

/-! ### in, not in: flat items -/
def flatV : V → Bool
  | .non => true
  | .bl _ => true
  | .int _ => true
  | .str _ => true
  | _ => false
/-- == of flat values -/
def eqV : V → V → Bool
  | .non, .non => true
  | .bl a, .bl b => a == b
  | .bl a, .int b => (if a then 1 else 0) == b
  | .int a, .bl b => a == (if b then 1 else 0)
  | .int a, .int b => a == b
  | .str a, .str b => a == b
  | _, _ => false
theorem eqAt_V {A : Around} {s : Shared} {y x : V} {u v : Value} (ry : RelV y u) (rx : RelV x v) (fy : flatV y = true) (fx : flatV x = true) : SeqAt.EqAt A s u v (eqV y x) := by
  cases y with
  | non =>
    cases ry
    cases x with
    | non => cases rx; exact SeqAt.EqAt.same _
    | bl b => cases rx; exact SeqAt.EqAt.none_bool b
    | int b => obtain ⟨t, rfl⟩ := rx; exact SeqAt.EqAt.none_int b t
    | str b => obtain ⟨t, rfl⟩ := rx; exact SeqAt.EqAt.none_str b t
    | _ => exact absurd (show false = true from fx) Bool.false_ne_true
  | bl a =>
    cases ry
    cases x with
    | non => cases rx; exact SeqAt.EqAt.bool_none a
    | bl b => cases rx; exact SeqAt.EqAt.bool_bool a b
    | int b => obtain ⟨t, rfl⟩ := rx; exact SeqAt.EqAt.bool_int a b t
    | str b => obtain ⟨t, rfl⟩ := rx; exact SeqAt.EqAt.bool_str a b t
    | _ => exact absurd (show false = true from fx) Bool.false_ne_true
  | int a =>
    obtain ⟨t', rfl⟩ := ry
    cases x with
    | non => cases rx; exact SeqAt.EqAt.int_none a t'
    | bl b => cases rx; exact SeqAt.EqAt.int_bool a t' b
    | int b => obtain ⟨t, rfl⟩ := rx; exact SeqAt.EqAt.int_int a t' b t
    | str b => obtain ⟨t, rfl⟩ := rx; exact SeqAt.EqAt.int_str a t' b t
    | _ => exact absurd (show false = true from fx) Bool.false_ne_true
  | str a =>
    obtain ⟨t', rfl⟩ := ry
    cases x with
    | non => cases rx; exact SeqAt.EqAt.str_none a t'
    | bl b => cases rx; exact SeqAt.EqAt.str_bool a t' b
    | int b => obtain ⟨t, rfl⟩ := rx; exact SeqAt.EqAt.str_int a t' b t
    | str b => obtain ⟨t, rfl⟩ := rx; exact SeqAt.EqAt.str_str a t' b t
    | _ => exact absurd (show false = true from fx) Bool.false_ne_true
  | _ => exact absurd (show false = true from fy) Bool.false_ne_true
/-- the items' answers, read off the values (a value's own answer does not lean on its token) -/
def eqU (x : V) (u : Value) : Bool := match u with
  | .none => eqV .non x
  | .bool b => eqV (.bl b) x
  | .int i _ => eqV (.int i) x
  | .str z _ => eqV (.str z) x
  | _ => false
theorem eqU_of {x y : V} {u : Value} (r : RelV y u) (f : flatV y = true) : eqU x u = eqV y x := by
  cases y with
  | non => cases r; rfl
  | bl b => cases r; rfl
  | int i => obtain ⟨t, rfl⟩ := r; rfl
  | str z => obtain ⟨t, rfl⟩ := r; rfl
  | _ => exact absurd (show false = true from f) Bool.false_ne_true
theorem any_eqU {x : V} : ∀ {xs : List V} {us : List Value}, Vals xs us → xs.all flatV = true → us.any (eqU x) = xs.any fun y => eqV y x
  | _, _, .nil, _ => rfl
  | y :: xs, u :: us, .cons r t, f => by
    rw [List.all_cons, Bool.and_eq_true] at f
    rw [List.any_cons, List.any_cons, eqU_of r f.1, any_eqU t f.2]
theorem mem_eqAt {A : Around} {s : Shared} {x : V} {v : Value} (rx : RelV x v) (fx : flatV x = true) : ∀ {xs : List V} {us : List Value}, Vals xs us → xs.all flatV = true → ∀ u ∈ us, SeqAt.EqAt A s u v (eqU x u)
  | _, _, .nil, _ => fun u hu => by cases hu
  | y :: xs, u :: us, .cons r t, f => fun u' hu => by
    rw [List.all_cons, Bool.and_eq_true] at f
    rcases List.mem_cons.mp hu with rfl | hu
    · rw [eqU_of r f.1]; exact eqAt_V r rx f.1 fx
    · exact mem_eqAt rx fx t f.2 u' hu
def inV (x : V) (xs : List V) : Bool := xs.any fun y => eqV y x
/-- x in a list or tuple of flat items -/
def rIn (K : PySem.W.Frag) (neg : Bool) : R2 := fun x y H Q => ∃ p xs, y = .ref p ∧ (SqL K H p xs ∨ SqT K H p xs) ∧ flatV x = true ∧ xs.all flatV = true ∧ Q (.bl (if neg then !inV x xs else inV x xs)) H
theorem op_in_seq : OpR X (compareOp .In) (rIn X.K false) := by
  intro pins s σ H x y v u Q I rx ry h
  obtain ⟨p, xs, rfl, hq, fx, fs, q⟩ := h
  cases ry
  rcases hq with hq | hq
  · obtain ⟨its, r, pl, hz⟩ := I.list hq
    refine SeqAt.in_listAt (eqU x) pl.isList (fun w hw => mem_eqAt rx fx r fs w (by simpa using hw)) ⟨.bl _, H, I, rfl, ?_⟩
    rw [show its.toArray.any (eqU x) = its.any (eqU x) by simp, any_eqU r fs]
    exact q
  · obtain ⟨its, r, pl, hz⟩ := I.tuple hq
    refine SeqAt.in_tupleAt (eqU x) pl (fun w hw => mem_eqAt rx fx r fs w (by simpa using hw)) ⟨.bl _, H, I, rfl, ?_⟩
    rw [show its.toArray.any (eqU x) = its.any (eqU x) by simp, any_eqU r fs]
    exact q
theorem op_notIn_seq : OpR X (compareOp .NotIn) (rIn X.K true) := by
  intro pins s σ H x y v u Q I rx ry h
  obtain ⟨p, xs, rfl, hq, fx, fs, q⟩ := h
  cases ry
  rcases hq with hq | hq
  · obtain ⟨its, r, pl, hz⟩ := I.list hq
    refine SeqAt.notIn_listAt (eqU x) pl.isList (fun w hw => mem_eqAt rx fx r fs w (by simpa using hw)) ⟨.bl _, H, I, rfl, ?_⟩
    rw [show its.toArray.any (eqU x) = its.any (eqU x) by simp, any_eqU r fs]
    exact q
  · obtain ⟨its, r, pl, hz⟩ := I.tuple hq
    refine SeqAt.notIn_tupleAt (eqU x) pl (fun w hw => mem_eqAt rx fx r fs w (by simpa using hw)) ⟨.bl _, H, I, rfl, ?_⟩
    rw [show its.toArray.any (eqU x) = its.any (eqU x) by simp, any_eqU r fs]
    exact q
theorem op_notIn_str : OpR X (compareOp .NotIn) (fun x y H Q => ∃ i j, x = .str i ∧ y = .str j ∧ Q (.bl (!(!(Builtin.Str.occurrences j i 0 j.length 1).isEmpty))) H) := by
  intro pins s σ H x y v u Q I rx ry h
  obtain ⟨i, j, rfl, rfl, q⟩ := h
  obtain ⟨t, rfl⟩ := rx
  obtain ⟨t', rfl⟩ := ry
  exact notIn_str ⟨.bl _, H, I, rfl, q⟩

/-! ### len, list(x), tuple(x) of any list or tuple that is read -/
theorem call_len_seq : CallR X (.builtin "len") (fun xs H Q => ∃ p ys, xs = [.ref p] ∧ (SqL X.K H p ys ∨ SqT X.K H p ys) ∧ Q (.int ys.length) H) := by
  intro pins s σ H xs us Q I r h
  obtain ⟨p, ys, rfl, hq, q⟩ := h
  obtain ⟨u, rfl, rx⟩ := vals1 r
  cases rx
  have hn := line63
  rcases hq with hq | hq
  · obtain ⟨its, r', pl, hz⟩ := I.list hq
    have hlen := r'.length
    exact Calls.call_len_list pl.isList (by simp only [List.size_toArray] <;> omega) ⟨.int ys.length, H, I.tok _, ⟨s.toks + 1, by rw [List.size_toArray, hlen]⟩, q⟩
  · obtain ⟨its, r', pl, hz⟩ := I.tuple hq
    have hlen := r'.length
    exact len_tuple pl (by simp only [List.size_toArray] <;> omega) ⟨.int ys.length, H, I.tok _, ⟨s.toks + 1, by rw [List.size_toArray, hlen]⟩, q⟩
theorem call_len_str : CallR X (.builtin "len") (fun xs H Q => ∃ z, xs = [.str z] ∧ z.length ≤ sizeLine ∧ Q (.int z.length) H) := by
  intro pins s σ H xs us Q I r h
  obtain ⟨z, rfl, hz, q⟩ := h
  obtain ⟨u, rfl, t, rfl⟩ := vals1 r
  have hn := line63
  exact len_str (by omega) ⟨.int z.length, H, I.tok _, ⟨_, rfl⟩, q⟩
theorem CallR.or {f : Value} {r r' : List V → Hp → VK → Prop} (h : CallR X f r) (h' : CallR X f r') : CallR X f (fun xs H Q => r xs H Q ∨ r' xs H Q) := by
  intro pins s σ H xs us Q I rs q
  rcases q with q | q
  · exact h pins s σ H xs us Q I rs q
  · exact h' pins s σ H xs us Q I rs q
theorem call_list_of : CallR X (.type "list") (fun xs H Q => ∃ p ys, xs = [.ref p] ∧ (SqL X.K H p ys ∨ SqT X.K H p ys) ∧ ∀ l, H l = none → Q (.ref l) (upd H l (.lst ys))) := by
  intro pins s σ H xs us Q I r h
  obtain ⟨p, ys, rfl, hq, q⟩ := h
  obtain ⟨u, rfl, rx⟩ := vals1 r
  cases rx
  have fin : ∀ (its : List Value), Vals ys its → ys.length ≤ sizeLine → ∀ (h' : Heap) (c' : Nat), (∀ b o', s.heap.get? b = some o' → h'.get? b = some o') →
      h'.get? s.heap.objs.size = some { cls := .type "list", dict := none, data := .seq its.toArray c', slots := #[] } → EP X pins σ Q (.ref s.heap.objs.size) { s with heap := h' } := fun its r' hz h' c' kp e =>
    ⟨.ref s.heap.objs.size, _, I.laid (t' := s.toks) kp (Nat.le_refl _) (show ObjOk X.prog X.w _ h' _ (.lst ys) from ⟨hz, its, c', r', e⟩), rfl, q _ (I.hok.fresh (Nat.le_refl _))⟩
  rcases hq with hq | hq
  · obtain ⟨its, r', pl, hz⟩ := I.list hq
    have hlen := r'.length
    obtain ⟨o, ho, hc, n, hd⟩ := pl.isList
    exact call_list_seq p (.inl rfl) ho hc hd (fun h' c' kp e => fin its r' hz h' c' kp e) (by simp only [List.size_toArray] <;> omega)
  · obtain ⟨its, r', pl, hz⟩ := I.tuple hq
    have hlen := r'.length
    obtain ⟨o, ho, hc, n, hd⟩ := pl
    exact call_list_seq p (.inr rfl) ho hc hd (fun h' c' kp e => fin its r' hz h' c' kp e) (by simp only [List.size_toArray] <;> omega)
theorem call_tuple_of : CallR X (.type "tuple") (fun xs H Q => ∃ p ys, xs = [.ref p] ∧ ((SqL X.K H p ys ∧ ∀ l, H l = none → Q (.ref l) (upd H l (.tup ys))) ∨ (SqT X.K H p ys ∧ Q (.ref p) H))) := by
  intro pins s σ H xs us Q I r h
  obtain ⟨p, ys, rfl, h⟩ := h
  obtain ⟨u, rfl, rx⟩ := vals1 r
  cases rx
  rcases h with ⟨hq, q⟩ | ⟨hq, q⟩
  · obtain ⟨its, r', pl, hz⟩ := I.list hq
    have hlen := r'.length
    refine call_tuple_list pl.isList (fun h' kp => ?_) (by simp only [List.size_toArray] <;> omega)
    have I1 : Inv X pins σ H { s with heap := h' } := I.kept (t' := s.toks) kp
    have I2 : Inv X pins σ (upd H h'.objs.size (.tup ys)) { s with heap := h'.push { cls := .type "tuple", data := .seq its.toArray } } :=
      I1.laid (t' := s.toks) (fun b o e => Heap.get?_push_of_some _ e) (Nat.le_refl _) (show ObjOk X.prog X.w _ _ _ (.tup ys) from ⟨hz, its, r', IsTup.new _ _⟩)
    exact ⟨.ref h'.objs.size, _, I2, rfl, q _ (I1.hok.fresh (Nat.le_refl _))⟩
  · obtain ⟨its, r', pl, hz⟩ := I.tuple hq
    exact call_tuple_same pl ⟨.ref p, H, I, rfl, q⟩

/-! ### the call of a builtin's method: o.m(..) -/
/-- the value is of that builtin type -/
def tyV (K : PySem.W.Frag) (T : String) (x : V) (H : Hp) : Prop := match x with
  | .str _ => T = "str"
  | .int _ => T = "int"
  | .ref p => (T = "list" ∧ ∃ xs, SqL K H p xs) ∨ (T = "tuple" ∧ ∃ o, K.lookup p = some o ∧ o.cls = .type "tuple" ∧ o.dict = none) ∨
      (T = "dict" ∧ ((∃ kvs, H p = some (.dK kvs)) ∨ ∃ kvs, H p = some (.dT kvs))) ∨ (T = "set" ∧ ∃ S n, H p = some (.set S n))
  | _ => False
theorem tyV_is {pins : List (Addr × Obj)} {σ : St} {H : Hp} {s : Shared} {T : String} {x : V} {v : Value} (I : Inv X pins σ H s) (r : RelV x v) (ty : tyV X.K T x H) :
    s.TypeIs v T ∧ ∀ a, v = .ref a → ∃ ob, s.heap.get? a = some ob ∧ ob.dict = none := by
  cases x with
  | str z =>
    obtain ⟨t, rfl⟩ := r
    cases (show T = "str" from ty)
    exact ⟨typeIs_str s z t, fun _ e => nomatch e⟩
  | int i =>
    obtain ⟨t, rfl⟩ := r
    cases (show T = "int" from ty)
    exact ⟨typeIs_int s i t, fun _ e => nomatch e⟩
  | ref p =>
    cases r
    rcases ty with ⟨rfl, xs, hq⟩ | ⟨rfl, o, hk, hc, hd⟩ | ⟨rfl, hk⟩ | ⟨rfl, S, n, hk⟩
    · obtain ⟨its, _, pl, _⟩ := I.list hq
      refine ⟨pl.isList.typeIs, fun a e => ?_⟩
      cases e
      obtain ⟨o, n, e, c, hd, _⟩ := pl
      exact ⟨o, e, hd⟩
    · refine ⟨⟨o, I.kIn p o hk, hc⟩, fun a e => ?_⟩
      cases e
      exact ⟨o, I.kIn _ o hk, hd⟩
    · have z : ∃ o, s.heap.get? p = some o ∧ o.ExactDict := by
        rcases hk with ⟨kvs, hk⟩ | ⟨kvs, hk⟩
        · obtain ⟨_, _, _, _, o, _, _, e, ex, _⟩ := I.hok p _ hk
          exact ⟨o, e, ex⟩
        · obtain ⟨_, _, _, _, o, _, _, e, ex, _⟩ := I.hok p _ hk
          exact ⟨o, e, ex⟩
      obtain ⟨o, e, ex⟩ := z
      refine ⟨⟨o, e, ex.1⟩, fun a e2 => ?_⟩
      cases e2
      exact ⟨o, e, ex.2.1⟩
    · obtain ⟨o, _, _, _, e, ex, _⟩ := I.hok p _ hk
      refine ⟨⟨o, e, ex.1⟩, fun a e2 => ?_⟩
      cases e2
      exact ⟨o, e, ex.2.1⟩
  | _ => exact False.elim ty
def tBM0 (K : PySem.W.Frag) (T : String) (r : V → List V → Hp → VK → Prop) (to : TE) : TE := fun σ H Q => to σ H fun x H1 => tyV K T x H1 ∧ r x [] H1 Q
def tBM (K : PySem.W.Frag) (T : String) (r : V → List V → Hp → VK → Prop) (to : TE) (t : TA) : TE := fun σ H Q => to σ H fun x H1 => tyV K T x H1 ∧ t σ H1 fun xs H2 => r x xs H2 Q
variable {o e : Expr} {es : List Expr} {to : TE} {t : TA} {name : Str} {apos cpos : Pos} {T id : String} {r : V → List V → Hp → VK → Prop}
theorem pe_bm0 (pa : PlainAttrs T) (slot : Slot T name id) (hty : typeOf (.builtin id) = pure (.type "method_descriptor")) (hm : MtR X id r) (ho : PE X o to)
    (hbase : attributeBase o name X.env (eval o X.env) = eval o X.env := by rfl) (hline : (apos.endLine == cpos.line) = true := by rfl) : PE X (.Call (.Attribute o name apos) [] [] cpos) (tBM0 X.K T r to) := by
  intro pins s σ H Q I h
  refine wpAny_Call_method0_late hbase hline (thn (ho pins s σ H _ I h) fun v s1 ⟨x, H1, I1, r1, ty, q1⟩ => ?_)
  obtain ⟨h1, h2⟩ := tyV_is I1 r1 ty
  exact ⟨T, id, pa, slot, hty, h1, h2, Calls.callWith_builtin rfl (PySem.evalArgs_none (hm pins s1 σ H1 x [] v [] Q I1 r1 .nil q1))⟩
theorem pe_bm (pa : PlainAttrs T) (slot : Slot T name id) (hty : typeOf (.builtin id) = pure (.type "method_descriptor")) (hm : MtR X id r) (ho : PE X o to) (ha : PA X (e :: es) t)
    (hbase : attributeBase o name X.env (eval o X.env) = eval o X.env := by rfl)
    (hfew : ((backTo cpos (starEach (e :: es) X.env)).all (fun x => !x.1) && (backToKw cpos (keywordEach [] X.env)).all (fun x => x.1.isSome)
      && decide ((e :: es).length + ([] : List Keyword).length + (if ([] : List Keyword).isEmpty then 0 else 1) < 30)) = true := by rfl)
    (hline : (apos.endLine == cpos.line) = true := by rfl) (hs : starEach (e :: es) X.env = (false, eval e X.env) :: starEach es X.env := by rfl) (hplain : (backTo cpos (starEach es X.env)).any (·.1) = false := by rfl) :
    PE X (.Call (.Attribute o name apos) (e :: es) [] cpos) (tBM X.K T r to t) := by
  intro pins s σ H Q I h
  refine wpAny_Call_method_late hbase hfew hline rfl (thn (ho pins s σ H _ I h) fun v s1 ⟨x, H1, I1, r1, ty, q1⟩ => ?_)
  obtain ⟨h1, h2⟩ := tyV_is I1 r1 ty
  refine ⟨T, id, pa, slot, hty, h1, h2, ?_⟩
  have hA := ha cpos pins s1 σ H1 _ I1 q1
  rw [hs] at hA ⊢
  refine Calls.callWith_builtin (by show (false || (backTo cpos (starEach es X.env)).any (·.1)) = false; rw [hplain] <;> rfl) (Calls.evalArgs_plain ?_)
  exact thn hA fun us s2 ⟨vs, H2, I2, r2, q2⟩ => hm pins s2 σ H2 x vs v us Q I2 r1 r2 q2
/- xs.append(e), list.index on a module's tuple .. are MtR facts of 06m -/
end
end L2

namespace L2
open PySem PySem.Spec PyProof.Rows

def MtM (X : Cx) (id : String) (r : V → List V → Hp → VK → Prop) : Prop :=
  ∀ (pins : List (Addr × Obj)) (s : Shared) (σ : St) (H : Hp) (x : V) (xs : List V) (v : Value) (us : List Value) (Q : VK), Inv X pins σ H s → RelV x v → Vals xs us → r x xs H Q →
    wpAny (model X.prog X.w) X.A (call (.builtin id) (v :: us)) (EP X pins σ Q) X.xe s

/-! ### lists of values -/
theorem Vals.one : ∀ {x : V} {us : List Value}, Vals [x] us → ∃ u, us = [u] ∧ RelV x u
  | _, _, .cons r .nil => ⟨_, rfl, r⟩
theorem Vals.two : ∀ {x y : V} {us : List Value}, Vals [x, y] us → ∃ u v, us = [u, v] ∧ RelV x u ∧ RelV y v
  | _, _, _, .cons r (.cons q .nil) => ⟨_, _, rfl, r, q⟩
theorem Vals.zero : ∀ {us : List Value}, Vals [] us → us = []
  | _, .nil => rfl
theorem Vals.dropLast {xs : List V} {us : List Value} (h : Vals xs us) : Vals xs.dropLast us.dropLast := by
  induction h with
  | nil => exact .nil
  | cons r t ih =>
    cases t with
    | nil => exact .nil
    | cons q t' => exact .cons r ih
theorem Vals.eraseIdx : ∀ {xs : List V} {us : List Value} (i : Nat), Vals xs us → Vals (xs.eraseIdx i) (us.eraseIdx i)
  | _, _, _, .nil => .nil
  | _, _, 0, .cons _ t => t
  | _, _, i + 1, .cons r t => .cons r (Vals.eraseIdx i t)
theorem Vals.reverse {xs : List V} {us : List Value} (h : Vals xs us) : Vals xs.reverse us.reverse := by
  induction h with
  | nil => exact .nil
  | cons r t ih => rw [List.reverse_cons, List.reverse_cons]; exact Vals.append ih (.cons r .nil)
theorem Vals.rep {xs : List V} {us : List Value} (h : Vals xs us) : ∀ k : Nat, Vals (List.replicate k xs).flatten (List.replicate k us).flatten
  | 0 => .nil
  | k + 1 => by
    rw [List.replicate_succ, List.replicate_succ, List.flatten_cons, List.flatten_cons]
    exact Vals.append h (Vals.rep h k)
theorem erase_last {α : Type} (l : List α) : l.eraseIdx (l.length - 1) = l.dropLast := by
  induction l with
  | nil => rfl
  | cons a r ih =>
    cases r with
    | nil => rfl
    | cons b r =>
      have e : (a :: b :: r).length - 1 = ((b :: r).length - 1) + 1 := by
        have h1 : (a :: b :: r).length = r.length + 2 := rfl
        have h2 : (b :: r).length = r.length + 1 := rfl
        omega
      rw [e, List.eraseIdx_cons_succ, ih]
      all_goals rfl
theorem len_erase {α : Type} : ∀ (l : List α) (i : Nat), (l.eraseIdx i).length ≤ l.length
  | [], _ => Nat.le_refl _
  | _ :: _, 0 => Nat.le_succ _
  | _ :: r, i + 1 => Nat.succ_le_succ (len_erase r i)
theorem foldl_rep (its : List Value) : ∀ (k : Nat) (acc : List Value),
    List.foldl (fun x1 x2 => x1 ++ x2) acc.toArray (List.replicate k its.toArray) = (acc ++ (List.replicate k its).flatten).toArray
  | 0, acc => by simp
  | k + 1, acc => by
    have e : acc.toArray ++ its.toArray = (acc ++ its).toArray := by simp
    have e2 : (acc ++ its) ++ (List.replicate k its).flatten = acc ++ (List.replicate (k + 1) its).flatten := by
      rw [List.replicate_succ, List.flatten_cons, List.append_assoc]
    rw [← e2, ← foldl_rep its k (acc ++ its), ← e, List.replicate_succ, List.foldl_cons]

section
variable {X : Cx} {pins : List (Addr × Obj)} {σ : St} {H : Hp} {s : Shared} {l b : Addr} {xs ys zs : List V}

/-! ### the two steps: a tracked list is rewritten, a new list is laid -/
theorem Inv.lset {its its' : List Value} {n : Nat} {f : Array Value → Array Value} {t' : Nat} (I : Inv X pins σ H s) (hH : H l = some (.lst xs))
    (e : s.heap.get? l = some { cls := .type "list", data := .seq its.toArray n }) (hf : f its.toArray = its'.toArray) (hv : Vals ys its') (hz : ys.length ≤ sizeLine) :
    Inv X pins σ (upd H l (.lst ys)) { s with heap := s.heap.update l (Obj.mapSeq f), toks := t' } := by
  have q := PySem.IsL.update e f
  rw [hf] at q
  refine I.write (x := l) (e := l) (by rw [hH]; exact trivial) (.inl rfl) (fun b' u hb hu => (Heap.get?_update_other s.heap (Obj.mapSeq f) (Ne.symm hb)).trans hu) ⟨_, q⟩ ?_
  exact ⟨hz, its', _, hv, q⟩
theorem Inv.lnew {its : List Value} {t' : Nat} (I : Inv X pins σ H s) (hv : Vals ys its) (hz : ys.length ≤ sizeLine) :
    Inv X pins σ (upd H s.heap.objs.size (.lst ys)) { s with heap := s.heap.push { cls := .type "list", data := .seq its.toArray }, toks := t' } :=
  I.laid (fun _ _ q => Heap.get?_push_of_some _ q) (Nat.le_refl _) ⟨hz, its, 0, hv, Heap.get?_push_size _ rfl⟩
theorem Inv.fresh (I : Inv X pins σ H s) : H s.heap.objs.size = none := I.hok.fresh (Nat.le_refl _)
theorem Inv.lstM (I : Inv X pins σ H s) (hH : H l = some (.lst xs)) : xs.length ≤ sizeLine ∧ ∃ (its : List Value) (n : Nat), Vals xs its ∧ xs.length = its.length ∧ s.heap.get? l = some { cls := .type "list", data := .seq its.toArray n } := by
  obtain ⟨z, its, n, r, e⟩ := I.hok l _ hH
  exact ⟨z, its, n, r, r.length, e⟩

theorem notLongL {n : Nat} (h : n ≤ sizeLine) : Builtin.List.listTooLong n = false := by
  unfold Builtin.List.listTooLong
  exact decide_eq_false (by omega)
end

section
variable {X : Cx}

/-! ### methods -/
def rAppend : V → List V → Hp → VK → Prop := fun x vs H Q => ∃ l xs y, x = .ref l ∧ vs = [y] ∧ H l = some (.lst xs) ∧ xs.length < sizeLine ∧ Q .non (upd H l (.lst (xs ++ [y])))
theorem mt_append : MtM X "list.append" rAppend := by
  intro pins s σ H x vs v us Q I rx rv h
  obtain ⟨l, xs, y, rfl, rfl, hH, hz, q⟩ := h
  cases rx
  obtain ⟨u, rfl, ru⟩ := rv.one
  obtain ⟨z, its, n, r, hl, e⟩ := I.lstM hH
  refine call_meets F.slot_list_append ⟨_, e, rfl⟩ F.entry_list_append (F.args_list_append_2 _ _) (PySem.list_append l its.toArray n u (by rw [List.size_toArray]; omega)) ⟨e, ?_⟩
  refine ⟨.non, _, I.lset (its' := its ++ [u]) hH e (by simp) (r.append (.cons ru .nil)) ?_, rfl, q⟩
  rw [List.length_append, List.length_singleton]
  omega

def rExtend : V → List V → Hp → VK → Prop := fun x vs H Q => ∃ l b xs zs, x = .ref l ∧ vs = [.ref b] ∧ H l = some (.lst xs) ∧ H b = some (.lst zs) ∧ xs.length + zs.length ≤ sizeLine ∧ Q .non (upd H l (.lst (xs ++ zs)))
theorem mt_extend : MtM X "list.extend" rExtend := by
  intro pins s σ H x vs v us Q I rx rv h
  obtain ⟨l, b, xs, zs, rfl, rfl, hH, hB, hz, q⟩ := h
  cases rx
  obtain ⟨u, rfl, ru⟩ := rv.one
  cases ru
  obtain ⟨z, its, n, r, hl, e⟩ := I.lstM hH
  obtain ⟨z2, its2, n2, r2, hl2, e2⟩ := I.lstM hB
  have hsz : its.toArray.size + its2.toArray.size ≤ sizeLine := by rw [List.size_toArray, List.size_toArray]; omega
  have hlong : ¬ (!its.toArray.isEmpty && Builtin.List.listTooLong (its.toArray.size + its2.toArray.size)) = true := by
    rw [notLongL hsz, Bool.and_false]
    exact Bool.false_ne_true
  refine call_meets F.slot_list_extend ⟨_, e, rfl⟩ F.entry_list_extend (F.args_list_extend_2 _ _)
    (AutoSeq1.list_extend_list_list_0 l its.toArray n b its2.toArray n2 hlong (by rw [List.size_toArray]; omega) (by omega)) ⟨e, e2, ?_⟩
  refine ⟨.non, _, I.lset (its' := its ++ its2) hH e (by simp) (r.append r2) ?_, rfl, q⟩
  rw [List.length_append]
  omega

def rPop : V → List V → Hp → VK → Prop := fun x vs H Q => ∃ l xs y, x = .ref l ∧ vs = [] ∧ H l = some (.lst xs) ∧ xs[xs.length - 1]? = some y ∧ Q y (upd H l (.lst xs.dropLast))
theorem mt_pop : MtM X "list.pop" rPop := by
  intro pins s σ H x vs v us Q I rx rv h
  obtain ⟨l, xs, y, rfl, rfl, hH, hy, q⟩ := h
  cases rx
  have hus := rv.zero
  subst hus
  obtain ⟨z, its, n, r, hl, e⟩ := I.lstM hH
  obtain ⟨u, hu, ru⟩ := r.get hy
  have hy' : its.toArray[its.toArray.size - 1]? = some u := by
    show its.toArray[its.length - 1]? = some u
    rw [← Array.getElem?_toList, ← hl]
    exact hu
  refine call_meets F.slot_list_pop ⟨_, e, rfl⟩ F.entry_list_pop (F.args_list_pop_1 _) (MeetsSeq.list_pop_last l its.toArray n u hy' (by rw [List.size_toArray]; omega)) ⟨e, ?_⟩
  refine ⟨y, _, I.lset (its' := its.dropLast) hH e ?_ r.dropLast ?_, ru, q⟩
  · show its.toArray.eraseIdxIfInBounds (its.toArray.size - 1) = its.dropLast.toArray
    rw [List.size_toArray, List.eraseIdxIfInBounds_toArray, erase_last]
  · rw [List.length_dropLast]
    omega

def rPopAt : V → List V → Hp → VK → Prop := fun x vs H Q => ∃ l xs i k y, x = .ref l ∧ vs = [.int i] ∧ H l = some (.lst xs) ∧ -(2 ^ 63) ≤ i ∧ i < 2 ^ 63 ∧ seqIndex? i xs.length = some k ∧ xs[k]? = some y ∧ Q y (upd H l (.lst (xs.eraseIdx k)))
theorem mt_popAt : MtM X "list.pop" rPopAt := by
  intro pins s σ H x vs v us Q I rx rv h
  obtain ⟨l, xs, i, k, y, rfl, rfl, hH, h1, h2, hk, hy, q⟩ := h
  cases rx
  obtain ⟨u, rfl, ru⟩ := rv.one
  obtain ⟨t, rfl⟩ := ru
  obtain ⟨z, its, n, r, hl, e⟩ := I.lstM hH
  obtain ⟨w, hw, rw'⟩ := r.get hy
  refine call_meets F.slot_list_pop ⟨_, e, rfl⟩ F.entry_list_pop (F.args_list_pop_2 _ _)
    (MeetsSeq.list_pop_at l its.toArray n i t k w (fitsIndex_both h1 h2) (by rw [List.size_toArray, ← hl]; exact hk) (by rw [← Array.getElem?_toList]; exact hw) (by rw [List.size_toArray]; omega)) ⟨e, ?_⟩
  refine ⟨y, _, I.lset (its' := its.eraseIdx k) hH e ?_ (r.eraseIdx k) ?_, rw', q⟩
  · show its.toArray.eraseIdxIfInBounds k = (its.eraseIdx k).toArray
    rw [List.eraseIdxIfInBounds_toArray]
  · have := len_erase xs k
    omega

def rReverse : V → List V → Hp → VK → Prop := fun x vs H Q => ∃ l xs, x = .ref l ∧ vs = [] ∧ H l = some (.lst xs) ∧ Q .non (upd H l (.lst xs.reverse))
theorem mt_reverse : MtM X "list.reverse" rReverse := by
  intro pins s σ H x vs v us Q I rx rv h
  obtain ⟨l, xs, rfl, rfl, hH, q⟩ := h
  cases rx
  have hus := rv.zero
  subst hus
  obtain ⟨z, its, n, r, hl, e⟩ := I.lstM hH
  refine call_meets F.slot_list_reverse ⟨_, e, rfl⟩ F.entry_list_reverse (F.args_list_reverse_1 _) (AutoSeq1.list_reverse_list_0 l its.toArray n (by rw [List.size_toArray]; omega)) ⟨e, ?_⟩
  refine ⟨.non, _, I.lset (its' := its.reverse) hH e (by simp) r.reverse ?_, rfl, q⟩
  rw [List.length_reverse]
  omega

def rClear : V → List V → Hp → VK → Prop := fun x vs H Q => ∃ l xs, x = .ref l ∧ vs = [] ∧ H l = some (.lst xs) ∧ Q .non (upd H l (.lst []))
theorem mt_clear : MtM X "list.clear" rClear := by
  intro pins s σ H x vs v us Q I rx rv h
  obtain ⟨l, xs, rfl, rfl, hH, q⟩ := h
  cases rx
  have hus := rv.zero
  subst hus
  obtain ⟨z, its, n, r, hl, e⟩ := I.lstM hH
  refine call_meets F.slot_list_clear ⟨_, e, rfl⟩ F.entry_list_clear (F.args_list_clear_1 _) (AutoSeq1.list_clear_list_0 l its.toArray n (by rw [List.size_toArray]; omega)) ⟨e, ?_⟩
  exact ⟨.non, _, I.lset (its' := []) (ys := []) hH e rfl .nil (Nat.zero_le _), rfl, q⟩

/-! ### list + list, list += list, list * int -/
def rCat : R2 := fun x y H Q => ∃ l b xs zs, x = .ref l ∧ y = .ref b ∧ H l = some (.lst xs) ∧ H b = some (.lst zs) ∧ xs.length + zs.length ≤ sizeLine ∧ ∀ p, H p = none → Q (.ref p) (upd H p (.lst (xs ++ zs)))
theorem op_cat : OpR X (binaryOp .Add) rCat := by
  intro pins s σ H x y v u Q I rx ry h
  obtain ⟨l, b, xs, zs, rfl, rfl, hH, hB, hz, q⟩ := h
  cases rx
  cases ry
  obtain ⟨z, its, n, r, hl, e⟩ := I.lstM hH
  obtain ⟨z2, its2, n2, r2, hl2, e2⟩ := I.lstM hB
  refine PySem.P.add_list e e2 ?_ (by rw [List.size_toArray, List.size_toArray]; omega)
  have ea : its.toArray ++ its2.toArray = (its ++ its2).toArray := by simp
  rw [ea]
  exact ⟨.ref _, _, I.lnew (t' := s.toks) (r.append r2) (by rw [List.length_append]; omega), rfl, q _ I.fresh⟩
/-- a list times an int (a negative one is nothing) -/
def rRep : R2 := fun x y H Q => ∃ l k xs, x = .ref l ∧ y = .int k ∧ H l = some (.lst xs) ∧ -(2 ^ 63) ≤ k ∧ k < 2 ^ 63 ∧ xs.length * k.toNat ≤ sizeLine ∧
  ∀ p, H p = none → Q (.ref p) (upd H p (.lst (List.replicate k.toNat xs).flatten))
theorem len_rep {α : Type} (xs : List α) (k : Nat) : (List.replicate k xs).flatten.length = k * xs.length := by
  induction k with
  | zero => simp
  | succ k ih => rw [List.replicate_succ, List.flatten_cons, List.length_append, ih, Nat.succ_mul, Nat.add_comm]
theorem op_rep : OpR X (binaryOp .Mult) rRep := by
  intro pins s σ H x y v u Q I rx ry h
  obtain ⟨l, k, xs, rfl, rfl, hH, h1, h2, hz, q⟩ := h
  cases rx
  obtain ⟨t, rfl⟩ := ry
  obtain ⟨z, its, n, r, hl, e⟩ := I.lstM hH
  have hlen : its.toArray.size * k.toNat ≤ sizeLine := by rw [List.size_toArray, ← hl]; exact hz
  have hcap : ¬ its.toArray.size * k.toNat > (2 ^ 63 - 1) / 8 := by
    have : (sizeLine : Nat) ≤ (2 ^ 63 - 1) / 8 := by decide
    omega
  have hfit : ¬ (!Builtin.List.listFitsIndex k) = true := by
    rw [fitsIndex_both h1 h2]
    exact Bool.false_ne_true
  have hlong : ¬ Builtin.List.listTooLong (its.toArray.size * k.toNat) = true := by
    rw [notLongL hlen]
    exact Bool.false_ne_true
  have hnew : List.foldl (fun x1 x2 => x1 ++ x2) #[] (List.replicate (if its.toArray.isEmpty = true then 0 else k.toNat) its.toArray) = (List.replicate k.toNat its).flatten.toArray := by
    have f0 : ∀ m : Nat, List.foldl (fun x1 x2 => x1 ++ x2) #[] (List.replicate m its.toArray) = (List.replicate m its).flatten.toArray := fun m => by
      have := foldl_rep its m []
      rw [List.nil_append] at this
      exact this
    rw [f0]
    cases its with
    | nil => simp
    | cons a r' => rw [if_neg (by simp)]
  refine wpAny_binaryOp_repeat_ref (T := "list") (U := "int") (by decide) ⟨_, e, rfl⟩ (fun s' => typeIs_int s' k t) noFill_list_mul F.fills_int_mul F.slot_int_rmul repeat_list F.slot_int_index.lookup
    (call_meets F.slot_int_rmul (typeIs_int s k t) F.entry_int_rmul (F.args_int_rmul_2 _ _) (int___rmul___int_list k t l its.toArray n)
      ⟨e, rfl, ⟨_, e, rfl⟩, call_meets F.slot_list_mul ⟨_, e, rfl⟩ F.entry_list_mul (F.args_list_mul_2 _ _) (AutoListH.list___mul___list_int_3 l its.toArray n k t hfit hcap hlong) ⟨e, ?_⟩⟩)
  rw [hnew]
  exact ⟨.ref _, _, I.lnew (t' := s.toks) (r.rep k.toNat) (by rw [len_rep, Nat.mul_comm]; exact hz), rfl, q _ I.fresh⟩

/-! ### del xs[i] -/
theorem del_list {pins : List (Addr × Obj)} {s : Shared} {σ : St} {H : Hp} {l : Addr} {xs : List V} {i : Int} {t : Tok} {k : Nat} {Q : Unit → Shared → Prop} (I : Inv X pins σ H s) (hH : H l = some (.lst xs))
    (h1 : -(2 ^ 63) ≤ i) (h2 : i < 2 ^ 63) (hk : seqIndex? i xs.length = some k) (h : ∀ s', Inv X pins σ (upd H l (.lst (xs.eraseIdx k))) s' → Q () s') :
    wpAny (model X.prog X.w) X.A (delItem (.ref l) (.int i t)) Q X.xe s := by
  obtain ⟨z, its, n, r, hl, e⟩ := I.lstM hH
  refine PySem.P.delItem_list (k := k) e (fitsIndex_both h1 h2) (by rw [List.size_toArray, ← hl]; exact hk) (h _ ?_) (by rw [List.size_toArray]; omega)
  refine I.lset (its' := its.eraseIdx k) (t' := s.toks) hH e ?_ (r.eraseIdx k) ?_
  · show its.toArray.eraseIdxIfInBounds k = (its.eraseIdx k).toArray
    rw [List.eraseIdxIfInBounds_toArray]
  · have := len_erase xs k
    omega
end

/-! ### xs[a:b] = ys -/
section
variable {prog : Program} {w : World} {A : Around} {E : Value → Shared → Prop} {s : Shared}
theorem splice_eq (its its2 : List Value) (a c : Nat) : its.toArray.extract 0 a ++ its2.toArray ++ its.toArray.extract c its.toArray.size = (its.take a ++ its2 ++ its.drop c).toArray := by
  apply Array.toList_inj.mp
  first
    | (simp
       exact List.take_of_length_le (by simp))
    | simp [List.take_of_length_le]
    | simp
theorem bounds_run {a c n : Nat} (hac : a ≤ c) (hc : c ≤ n) : sliceBounds (some (a : Int)) (some (c : Int)) none n = ((a : Int), (c : Int), 1) := by
  simp only [sliceBounds, Option.getD_none]
  have h1 : ¬ ((a : Int) < 0) := by omega
  have h2 : ¬ ((c : Int) < 0) := by omega
  simp only [h1, h2, if_false, show (1 : Int) > 0 by decide, if_true]
  congr 1
  · omega
  · congr 1; omega
set_option maxRecDepth 100000 in
/-- list.__setitem__ with a slice of step one and another list -/
theorem setItem_slice {l b sl : Addr} {items new : Array Value} {n n2 : Nat} {vl vu : Value} {a c : Nat} {Q : Unit → Shared → Prop}
    (e : s.heap.get? l = some { cls := .type "list", data := .seq items n }) (e2 : s.heap.get? b = some { cls := .type "list", data := .seq new n2 }) (hne : l ≠ b)
    (hs : s.heap.IsSliceOf sl vl vu .none) (pl : IsPart vl (some (a : Int))) (pu : IsPart vu (some (c : Int))) (hac : a ≤ c) (hc : c ≤ items.size)
    (hsz : items.size + new.size ≤ sizeLine) (h : Q () { s with heap := s.heap.update l (Obj.mapSeq fun xs => xs.extract 0 a ++ new ++ xs.extract c xs.size) }) :
    wpAny (model prog w) A (setItem (.ref l) (.ref sl) (.ref b)) Q E s := by
  have hl : s.heap.IsList l items := PySem.IsL.isList e
  have hb : s.heap.IsList b new := PySem.IsL.isList e2
  obtain ⟨os, hos, hcs, hds⟩ := id hs
  have hTs : s.TypeIs (.ref sl) "slice" := ⟨os, hos, hcs⟩
  have hstep : ¬ ((rawPart none == rawInt 0) = true) := Bool.false_ne_true
  have hsame : Builtin.List.listSameRef (.ref l) (.ref b) = false := by
    unfold Builtin.List.listSameRef
    exact beq_eq_false_iff_ne.mpr hne
  have hmax : (max (a : Int) (c : Int)).toNat = c := by omega
  have hz' : ((fun xs : Array Value => xs.extract 0 a ++ new ++ xs.extract c xs.size) items).size ≤ sizeLine + 1 := by
    simp only [Array.size_append, Array.size_extract]
    omega
  unfold setItem
  try with_reducible refine wpAny_holding ?_
  first | refine wpAny_bind (wpAny_pure ?_) | skip
  refine wpAny_bind (wpAny_sequenceKey hl.typeIs (by decide) ?_)
  refine wpAny_bind (wpAny_callSpecial?_slot (name := Str.ofString "__setitem__") hl.typeIs slot_list_setitem
    (wpAny_call_entry slot_list_setitem hl.typeIs entry_list_setitem ?_ (args_list_setitem _ _ _)))
  show wpAny _ _ (Builtin.List.listSubscript? (.ref sl) >>= _) _ _ s
  refine wpAny_bind ?_
  unfold Builtin.List.listSubscript?
  refine wpAny_bind (wpAny_specialOf hTs slice_no_index ?_)
  simp only [Option.isNone_none, if_true]
  refine wpAny_pure ?_
  show wpAny _ _ (typeOf (.ref sl) >>= _) _ _ s
  refine wpAny_bind (wpAny_typeOf hTs ?_)
  first
    | rw [if_neg (by decide)]
    | refine PySem.W.KFB.if_not (by decide) ?_
  rw [listSliceParts_eq]
  refine wpAny_bind (wpAny_bind (wpAny_field hos hds (x := .none) rfl (wpAny_bind (wpAny_listPart .none ?_))))
  rw [if_neg hstep]
  refine wpAny_bind (wpAny_field hos hds (x := vl) rfl (wpAny_bind (wpAny_listPart pl ?_)))
  refine wpAny_bind (wpAny_field hos hds (x := vu) rfl (wpAny_bind (wpAny_listPart pu (wpAny_pure ?_))))
  first
    | simp only [hsame, Bool.false_eq_true, if_false]
    | refine PySem.W.KFB.if_not hsame ?_
    | (dsimp only
       rw [if_neg (by rw [hsame]; exact Bool.false_ne_true)])
  refine wpAny_bind (m := Builtin.List.listAllItems (.ref b) "must assign iterable to extended slice") ?_
  unfold Builtin.List.listAllItems
  refine wpAny_bind (wpAny_typeOf hb.typeIs ?_)
  first
    | refine PySem.W.KFB.if_so (by decide) ?_
    | rw [if_pos (by decide)]
    | simp only [beq_self_eq_true, Bool.true_or, if_true]
  unfold Builtin.List.listItems
  refine wpAny_bind (wpAny_seqItems e2 rfl (wpAny_pure ?_))
  refine wpAny_bind (wpAny_bind (wpAny_seqItems e rfl (wpAny_pure ?_)))
  refine wpAny_bind (wpAny_of_eq ((sliceIndices_raw (some (a : Int)) (some (c : Int)) none items.size (by simp)).trans (congrArg (pure : Int × Int × Int → Sem (Int × Int × Int)) (bounds_run hac hc))) ?_)
  show wpAny _ _ (if ((1 : Int) == 1) = true then _ else _) _ _ s
  rw [if_pos (by decide)]
  refine wpAny_bind (wpAny_rule ?_)
  first
    | simp only [notLongL hsz, Bool.false_eq_true, if_false]
    | refine PySem.W.KFB.if_not (notLongL hsz) ?_
  first | refine wpAny_bind (wpAny_pure ?_) | skip
  show wpAny _ _ (updateSeq l (fun xs => xs.extract 0 ((a : Int)).toNat ++ new ++ xs.extract (max (a : Int) (c : Int)).toNat xs.size) >>= _) _ _ s
  rw [hmax, Int.toNat_natCast]
  refine wpAny_bind (wpAny_updateSeq (hz := Nat.le_trans (Nat.le_add_right _ _) hsz) (_hz' := hz') e rfl ?_)
  refine wpAny_bind (wpAny_letGo ?_)
  first
    | exact wpAny_bind (wpAny_pure (wpAny_pure ⟨.none, rfl, wpAny_pure h⟩))
    | exact wpAny_pure ⟨.none, rfl, wpAny_pure h⟩
end

section
variable {X : Cx}
/-- xs[a:c] = ys of another list, at the value level: sl is the slice object that was just made -/
theorem set_slice {pins : List (Addr × Obj)} {s : Shared} {σ : St} {H : Hp} {l b sl : Addr} {xs ys : List V} {a c : Int} {vl vu : Value} {Q : Unit → Shared → Prop} (I : Inv X pins σ H s)
    (hH : H l = some (.lst xs)) (hB : H b = some (.lst ys)) (hne : l ≠ b) (hs : s.heap.IsSliceOf sl vl vu .none) (ra : RelV (.int a) vl) (rc : RelV (.int c) vu) (h0 : 0 ≤ a) (hac : a ≤ c) (hc : c ≤ xs.length)
    (hz : xs.length + ys.length ≤ sizeLine) (h : ∀ s', Inv X pins σ (upd H l (.lst (xs.take a.toNat ++ ys ++ xs.drop c.toNat))) s' → Q () s') :
    wpAny (model X.prog X.w) X.A (setItem (.ref l) (.ref sl) (.ref b)) Q X.xe s := by
  obtain ⟨ta, rfl⟩ := ra
  obtain ⟨tc, rfl⟩ := rc
  obtain ⟨z, its, n, r, hl, e⟩ := I.lstM hH
  obtain ⟨z2, its2, n2, r2, hl2, e2⟩ := I.lstM hB
  obtain ⟨a', rfl⟩ := Int.eq_ofNat_of_zero_le h0
  obtain ⟨c', rfl⟩ := Int.eq_ofNat_of_zero_le (Int.le_trans h0 hac)
  simp only [Int.toNat_natCast] at h
  refine setItem_slice (a := a') (c := c') e e2 hne hs (.int _ _) (.int _ _) (by omega) (by rw [List.size_toArray]; omega) (by rw [List.size_toArray, List.size_toArray]; omega) (h _ ?_)
  refine I.lset (its' := its.take a' ++ its2 ++ its.drop c') (t' := s.toks) hH e ?_ (Vals.append (Vals.append (r.take _) r2) (r.drop _)) ?_
  · exact splice_eq its its2 a' c'
  · rw [List.length_append, List.length_append, List.length_take, List.length_drop]
    omega
end
end L2

namespace Att
open PySem PySem.W PySem.Calls PyProof.Rows

/-! ### the script -/
theorem ints_of_wellAll {P : Params} {h : Heap} : ∀ (ns : List Int) (vs : List Value), WellAll P h vs (ns.map WData.int) → IntsAre vs ns := by
  intro ns
  induction ns with
  | nil =>
    intro vs w
    rw [List.map_nil] at w
    cases w
    exact .nil
  | cons n ns ih =>
    intro vs w
    rw [List.map_cons] at w
    cases w with
    | cons a b =>
      cases a
      exact .cons _ _ (ih _ b)

theorem script_of {l : OpenLaw} {n : Nat} (hn : l.most = some n) {P : Params} {h : Heap} {args : List WData} {vals : List Value}
    (hpre : l.row.toRowW.claim.pre args = true) (hwl : WellAll P h vals args) :
    ∃ a vs ns, vals = [Value.ref a] ∧ args = [WData.list (ns.map WData.int)] ∧ h.get? a = some { cls := .type "list", data := .seq vs.toArray } ∧ IntsAre vs ns ∧ ns.length ≤ n := by
  have hsh : WShape.hasAll [] args [.list .int] = true := (pre_splitW hpre).1
  have hc : l.pre.holds [] { args := args } = true := (pre_splitW hpre).2
  obtain ⟨d, r, rfl, h1, h2⟩ := hasAllW_cons hsh
  obtain rfl := hasAllW_nil h2
  obtain ⟨xs, rfl, h3⟩ := hasW_list h1
  obtain ⟨ns, rfl⟩ := items_int h3
  have hlen : ns.length ≤ n := by
    unfold OpenLaw.pre at hc
    have h4 : (WTm.not (.lt (.lit (.int (n : Int))) (.len (.arg 0)))).holds [] { args := [.list (ns.map .int)] } = true := by
      have h4 := (holds_andW hc).1
      rw [hn] at h4
      exact h4
    have h5 := condW_of h4 (w_not (w_lt w_lit (w_len_list (w_arg rfl))))
    rw [List.length_map] at h5
    refine Nat.le_of_not_lt fun q => ?_
    have q' : (n : Int) < ((ns.length : Nat) : Int) := by omega
    first
      | (rw [decide_eq_true q'] at h5; exact absurd h5 (by decide))
      | (simp at h5; omega)
  cases hwl with
  | cons w1 w2 =>
    cases w2
    cases w1 with
    | list ho hall => exact ⟨_, _, ns, rfl, rfl, ho, ints_of_wellAll ns _ hall, hlen⟩

theorem post_true (l : OpenLaw) (args : List WData) : l.row.toRowW.claim.post args (.bool true) args = true :=
  postW_of (r := l.row.toRowW) (X := (true == true))
    (show WShape.has [] (.bool true) .bool = true by first | rfl | decide | simp [WShape.has, WShape.arms, WShape.armsAll])
    (show (WTm.eq .res (.lit (.bool true))).value [] { args := args, res := some (.bool true), after := args } = some (.bool (true == true)) from w_eq_bool (w_res rfl) w_lit) rfl

/-! ### the attachment: holds_open's last premise (the goal 'hc' behind k_head) from a wpAny of the law's body -/
theorem attach {l : OpenLaw} {n : Nat} {q : Program} {loose : List Str} {XP : (Str → Option Value) → Heap → Prop} {YP : World → Heap → Prop} {d : DefRec} {x : Str}
    (hn : l.most = some n) (hdf : d.params.defaults = [])
    (hbind : ∀ pm cd doc v : Value, bindArgs (docDef d.name d.params d.body d.scope pm cd doc) ⟨[v], []⟩ = pure [(x, v)])
    (hx : d.scope.names.lookup x = some .local ∨ d.scope.names.lookup x = some .cell)
    (hk : d.scope.kind = .function) (hco : d.scope.isCoroutine = false) (hgen : d.scope.isGenerator = false)
    (body : ∀ (w : World) (s₀ s₁ s : Shared) (mg mb : Str → Option Value) (fa : Addr) (o : Obj) (pm cd doc : Value) (a : Addr) (vs : List Value) (ns : List Int),
      Ground q loose [] XP w s₀ mg mb s₁.heap → YP w s₁.heap →
      s₁.heap.get? fa = some o → o.data = .func (docDef d.name d.params d.body d.scope pm cd doc) → s₁.heap.CodeRec cd d.name → mg d.name = some (.ref fa) →
      s₁.heap.get? a = some { cls := .type "list", data := .seq vs.toArray } → IntsAre vs ns → ns.length ≤ n →
      s.gens = #[] → s.os = s₁.os →
      Fr s₁.heap s₁.heap.objs.size s.heap (bindL (envOfC d.name d.scope s₁.heap.objs.size fa cd).kindOf [(x, .ref a)] fun _ => none) →
      Cl s₁.heap.objs.size (cellsFrom (s₁.heap.objs.size + 1) d.scope.names []) s.heap (bindC (envOfC d.name d.scope s₁.heap.objs.size fa cd).kindOf [(x, .ref a)] fun _ => none) →
      wpAny (model l.prog w) (callerA.deeper (envOfC d.name d.scope s₁.heap.objs.size fa cd)) (execs d.body (envOfC d.name d.scope s₁.heap.objs.size fa cd))
        (fun f s' => f = .ret (.bool true) ∧ OldK s₁.heap s'.heap ∧ s'.os = s₁.os ∧ AllBare s'.gens) (fun _ _ => False) s) :
    WalkO q loose XP YP l.row.toRowW d [] (fun f vs => PySem.call f vs) := by
  intro w s₀ s₁ mg mb G Y fa o pm cd doc dV kV ho hd hcd hD hmg hg args vals as hpre hlay hrd hwl hlo
  obtain rfl : dV = .none := Dflts.none hD hdf
  obtain rfl : kV = .none := Dflts.noKw hD
  obtain ⟨a, vs, ns, rfl, rfl, hobj, hints, hlen⟩ := script_of hn hpre hwl
  refine enter_call ?_
  refine call_cells_ret (o := o) (by rw [depth_caller]; decide) ho (fd_plain hd) G.T.nolimit hcd (hbind pm cd doc (.ref a)) (fun y hy => ?_) (fun h₁ tk F X => ?_) hco hgen hk
  · obtain rfl : y = (x, Value.ref a) := List.mem_singleton.mp hy
    rcases hx with e | e
    · exact .inl e
    · exact .inr ⟨e, cellsFrom_some _ _ _ (.inl e)⟩
  · refine wpAny_mono (body w s₀ s₁ { s₁ with heap := h₁, toks := tk } mg mb fa o pm cd doc a vs ns G Y ho (fd_plain hd) hcd hmg hobj hints hlen hg rfl F X) (fun f s' hq => ?_) (fun _ _ hq => hq)
    obtain ⟨rfl, h2, h3, h4⟩ := hq
    exact ⟨.inl ⟨.bool true, .bool true, [], rfl, fun _ => rfl, .bool true, post_true l _, fun _ => ⟨List.Pairwise.nil, fun _ hm => (nomatch hm)⟩⟩, h2, h3, h4⟩

/-- the same from a codeAny of the CALL (for a layer whose function contracts speak of calls) -/
theorem attach_call {l : OpenLaw} {n : Nat} {q : Program} {loose : List Str} {XP : (Str → Option Value) → Heap → Prop} {YP : World → Heap → Prop} {d : DefRec}
    (hn : l.most = some n) (hdf : d.params.defaults = [])
    (call : ∀ (w : World) (s₀ s₁ : Shared) (mg mb : Str → Option Value) (fa : Addr) (o : Obj) (pm cd doc : Value) (a : Addr) (vs : List Value) (ns : List Int),
      Ground q loose [] XP w s₀ mg mb s₁.heap → YP w s₁.heap →
      s₁.heap.get? fa = some o → o.data = .func (docDef d.name d.params d.body d.scope pm cd doc) → s₁.heap.CodeRec cd d.name → mg d.name = some (.ref fa) →
      s₁.heap.get? a = some { cls := .type "list", data := .seq vs.toArray } → IntsAre vs ns → ns.length ≤ n → s₁.gens = #[] →
      codeAny (model l.prog w) callerA (.call (.ref fa) ⟨[.ref a], []⟩) (fun r s' => r = .ok (.ret (.bool true)) ∧ OldK s₁.heap s'.heap ∧ s'.os = s₁.os ∧ AllBare s'.gens) s₁) :
    WalkO q loose XP YP l.row.toRowW d [] (fun f vs => PySem.call f vs) := by
  intro w s₀ s₁ mg mb G Y fa o pm cd doc dV kV ho hd hcd hD hmg hg args vals as hpre hlay hrd hwl hlo
  obtain rfl : dV = .none := Dflts.none hD hdf
  obtain rfl : kV = .none := Dflts.noKw hD
  obtain ⟨a, vs, ns, rfl, rfl, hobj, hints, hlen⟩ := script_of hn hpre hwl
  refine enter_call (codeAny_mono (call w s₀ s₁ mg mb fa o pm cd doc a vs ns G Y ho (fd_plain hd) hcd hmg hobj hints hlen hg) fun r s' hq => ?_)
  obtain ⟨rfl, h2, h3, h4⟩ := hq
  exact ⟨.inl ⟨.bool true, .bool true, [], rfl, fun _ => rfl, .bool true, post_true l _, fun _ => ⟨List.Pairwise.nil, fun _ hm => (nomatch hm)⟩⟩, h2, h3, h4⟩

/-- the same where the top left finished generators (o_head chose holds_openN): nothing may have changed at all and no generator may be left -/
theorem attachN {l : OpenLaw} {n : Nat} {q : Program} {loose : List Str} {XP : (Str → Option Value) → Heap → Prop} {YP : World → Heap → Prop} {d : DefRec} {x : Str}
    (hn : l.most = some n) (hdf : d.params.defaults = [])
    (hbind : ∀ pm cd doc v : Value, bindArgs (docDef d.name d.params d.body d.scope pm cd doc) ⟨[v], []⟩ = pure [(x, v)])
    (hx : d.scope.names.lookup x = some .local ∨ d.scope.names.lookup x = some .cell)
    (hk : d.scope.kind = .function) (hco : d.scope.isCoroutine = false) (hgen : d.scope.isGenerator = false)
    (body : ∀ (w : World) (s₀ s₁ s : Shared) (mg mb : Str → Option Value) (fa : Addr) (o : Obj) (pm cd doc : Value) (a : Addr) (vs : List Value) (ns : List Int),
      Ground q loose [] XP w s₀ mg mb s₁.heap → YP w s₁.heap →
      s₁.heap.get? fa = some o → o.data = .func (docDef d.name d.params d.body d.scope pm cd doc) → s₁.heap.CodeRec cd d.name → mg d.name = some (.ref fa) →
      s₁.heap.get? a = some { cls := .type "list", data := .seq vs.toArray } → IntsAre vs ns → ns.length ≤ n →
      s.gens = #[] → s.os = s₁.os →
      Fr s₁.heap s₁.heap.objs.size s.heap (bindL (envOfC d.name d.scope s₁.heap.objs.size fa cd).kindOf [(x, .ref a)] fun _ => none) →
      Cl s₁.heap.objs.size (cellsFrom (s₁.heap.objs.size + 1) d.scope.names []) s.heap (bindC (envOfC d.name d.scope s₁.heap.objs.size fa cd).kindOf [(x, .ref a)] fun _ => none) →
      wpAny (model l.prog w) (callerA.deeper (envOfC d.name d.scope s₁.heap.objs.size fa cd)) (execs d.body (envOfC d.name d.scope s₁.heap.objs.size fa cd))
        (fun f s' => f = .ret (.bool true) ∧ (∀ b o, s₁.heap.get? b = some o → s'.heap.get? b = some o) ∧ s'.os = s₁.os ∧ s'.gens = #[]) (fun _ _ => False) s) :
    WalkN q loose XP YP l.row.toRowW d [] (fun f vs => PySem.call f vs) := by
  intro w s₀ s₁ mg mb G Y fa o pm cd doc dV kV ho hd hcd hD hmg hg args vals as hpre hlay hrd hwl hlo
  obtain rfl : dV = .none := Dflts.none hD hdf
  obtain rfl : kV = .none := Dflts.noKw hD
  obtain ⟨a, vs, ns, rfl, rfl, hobj, hints, hlen⟩ := script_of hn hpre hwl
  refine enter_callW ?_
  refine call_cells_ret (o := o) (by rw [depth_caller]; decide) ho (fd_plain hd) G.T.nolimit hcd (hbind pm cd doc (.ref a)) (fun y hy => ?_) (fun h₁ tk F X => ?_) hco hgen hk
  · obtain rfl : y = (x, Value.ref a) := List.mem_singleton.mp hy
    rcases hx with e | e
    · exact .inl e
    · exact .inr ⟨e, cellsFrom_some _ _ _ (.inl e)⟩
  · refine wpAny_mono (body w s₀ s₁ { s₁ with heap := h₁, toks := tk } mg mb fa o pm cd doc a vs ns G Y ho (fd_plain hd) hcd hmg hobj hints hlen hg rfl F X) (fun f s' hq => ?_) (fun _ _ hq => hq)
    obtain ⟨rfl, h2, h3, h4⟩ := hq
    exact ⟨.inl ⟨.bool true, .bool true, [], rfl, fun _ => rfl, .bool true, post_true l _, fun _ => ⟨List.Pairwise.nil, fun _ hm => (nomatch hm)⟩⟩, h2, h3, h4⟩

/-! ### rules over ANY heap (no ledger) from facts about the written part K: the library's own take a ledger (News) for what they write -/
section
variable {prog : Program} {w : World} {A : Around} {E : Value → Shared → Prop} {s : Shared} {K : Frag}

/-- a def of the module, or a method (qual 'C.m'), entered: the frame is the next address; cells behind it -/
theorem call_fn {R : Result → Shared → Prop} {name qual : Str} {params : Arguments} {body : List Stmt} {scope : Scope} {dV kV doc pm cdv ct oc : Value} {an od : Option Addr} {osl : Array (Option Value)} {f : Addr} {args : Args} {binds : List (Str × Value)}
    (X : K.In s.heap) (hlim : s.heap.NoLimit) (ho : K.lookup f = some ⟨oc, od, .func (fnOf name qual params body scope dV kV doc pm an cdv ct), osl⟩) (hcd : codeIn K cdv qual = true) (hroom : A.depth < recursionLimit)
    (hbind : BindsTo s (fnOf name qual params body scope dV kV doc pm an cdv ct) args binds)
    (hkind : (binds.all fun y => scope.names.lookup y.1 == some .local || scope.names.lookup y.1 == some .cell) = true)
    (h : ∀ s₁, InCallC s s.heap.objs.size (bindL (envOfC qual scope s.heap.objs.size f cdv).kindOf binds fun _ => none) (cellsFrom (s.heap.objs.size + 1) scope.names [])
        (bindC (envOfC qual scope s.heap.objs.size f cdv).kindOf binds fun _ => none) s₁ →
      wpAny (model prog w) (A.deeper (envOfC qual scope s.heap.objs.size f cdv)) (execs body (envOfC qual scope s.heap.objs.size f cdv))
        (fun fl s' => R (.ok (.ret (match fl with | .ret v => v | _ => .none))) s')
        (fun e s' => wpAny (model prog w) (A.deeper (envOfC qual scope s.heap.objs.size f cdv)) (leaving (envOfC qual scope s.heap.objs.size f cdv) e) (fun _ s'' => R (.error e) s'') (fun e' s'' => R (.error e') s'') s') s₁)
    (hco : scope.isCoroutine = false) (hgen : scope.isGenerator = false) (hk : scope.kind = .function) : codeAny (model prog w) A (.call (.ref f) args) R s := by
  refine codeAny_call_function hroom (X _ _ ho) rfl hco hgen rfl (codeRec_of X hcd) (hbind _ _ _ _ ?_)
  refine wpAny_newFunctionEnv_cells hk (kindsX hkind _) fun env he s₁ x => ?_
  subst he
  exact ⟨hlim.keeps x.toInCall.keep, codeAny_func (h s₁ x)⟩

/-- C(..): dict at size, instance at size + 1, then __init__ -/
theorem make_obj {R : Result → Shared → Prop} {C fI : Addr} {rest : List Value} {kw : List (Str × Value)}
    (X : K.In s.heap) (hm : makesIn K C = true) (hi : findIn K (.ref C) "__init__" = some (some (.ref fI))) (hf : isFn K (.ref fI) = true)
    (h : codeAny (model prog w) (A.under (.builtin "type.__call__" ⟨.ref C :: rest, kw⟩)) (.call (.ref fI) ⟨.ref (s.heap.objs.size + 1) :: rest, kw⟩) (InitBack (s.heap.objs.size + 1) R)
      { s with heap := (s.heap.push emptyDict).push (instObj C s.heap.objs.size) }) : codeAny (model prog w) A (.call (.ref C) ⟨rest, kw⟩) R s := by
  obtain ⟨hh, g, d, t, os⟩ := s
  exact make_core (makes_of X hm) (looks_findIn X hi) (fun self => bind_fn X self (beq_iff_eq.mp hf)) (.inl rfl) h

/-- x.name where the instance's dict holds the name and the class does not -/
theorem get_field {x C : Addr} {ox : Obj} {es : List DictEntry} {n : Nat} {name : Str} {expr : Bool} {v : Value} {Q : Value → Shared → Prop}
    (X : K.In s.heap) (I : PySem.W.InstAt s.heap x ox C (some (dictOf es n))) (hg : plainGet K C name = true) (hh : hasDictIn K C = true) (ha : findIn K (.ref C) name = some none)
    (hl : getL name es = some (some v)) (hv : handedIn v = true) (h : Q v { s with toks := s.toks + 1 }) : wpAny (model prog w) A (getAttr (.ref x) name expr) Q E s :=
  get_value X I (plainGet_of hg).1 (findObj_own hh ha rfl hl) hv h

/-- x.m(..): the method found in the class -/
theorem get_method {x C f : Addr} {ox : Obj} {es : List DictEntry} {n : Nat} {name : Str} {pl : Sem Bool} {Q : Value × List Value → Shared → Prop}
    (X : K.In s.heap) (I : PySem.W.InstAt s.heap x ox C (some (dictOf es n))) (hg : plainGet K C name = true) (hf : findIn K (.ref C) name = some (some (.ref f))) (ht : isFn K (.ref f) = true)
    (hl : getL name es = some none) (h : Q (.ref f, [.ref x]) s) : wpAny (model prog w) A (getMethod (.ref x) name pl) Q E s :=
  method_fn X I (plainGet_of hg).1 (plainGet_of hg).2 hf (beq_iff_eq.mp ht) (by show (lookIn name (dictOf es n)).map _ = _; rw [lookIn_dict, hl]; rfl) h

/-! the whole heap as the ledger: makes every rule that writes through a ledger a rule over any heap -/
def noObjs (h : Heap) : Heap := { h with objs := #[] }
theorem noObjs_get (h : Heap) (b : Addr) : (noObjs h).get? b = none := by
  cases e : (noObjs h).get? b with
  | none => rfl
  | some o => exact absurd (Heap.lt_size e) (Nat.not_lt_zero _)
def ledger (h : Heap) (L d : Addr) : List (Addr × Obj) := (List.range h.objs.size).filterMap fun a => if a = L ∨ a = d then none else (h.get? a).map fun o => (a, o)
theorem mem_ledger {h : Heap} {L d a : Addr} {o : Obj} : (a, o) ∈ ledger h L d ↔ a ≠ L ∧ a ≠ d ∧ h.get? a = some o := by
  unfold ledger
  rw [List.mem_filterMap]
  constructor
  · rintro ⟨b, _, e⟩
    split at e
    · cases e
    · rename_i hb
      obtain ⟨o', ho, e'⟩ := Option.map_eq_some_iff.mp e
      cases e'
      exact ⟨fun q => hb (.inl q), fun q => hb (.inr q), ho⟩
  · rintro ⟨n1, n2, ho⟩
    refine ⟨a, List.mem_range.mpr (Heap.lt_size ho), ?_⟩
    rw [if_neg (show ¬ (a = L ∨ a = d) from fun q => q.elim n1 n2), ho] <;> rfl
theorem news_ledger {h : Heap} {L d : Addr} {od : Obj} (hne : d ≠ L) (ho : h.get? d = some od) : News (noObjs h) L h ([] ++ (d, od) :: ledger h L d) := by
  rintro ⟨a, o⟩ hp
  rcases List.mem_cons.mp hp with e | hp
  · cases e
    exact ⟨ho, hne, noObjs_get _ _⟩
  · obtain ⟨n1, n2, e⟩ := mem_ledger.mp hp
    exact ⟨e, n1, noObjs_get _ _⟩
theorem fr_all {h : Heap} {L : Addr} {m : Str → Option Value} (n : h.Ns L m) : Fr (noObjs h) L h m :=
  ⟨n, fun b o e => (by rw [noObjs_get] at e; cases e), Nat.zero_le _⟩
/-- Upd of the head entry (for append_K, setItem_K ..) -/
theorem upd_ledger {h : Heap} {L d : Addr} {o o' : Obj} : Upd d o o' ((d, o) :: ledger h L d) ((d, o') :: ledger h L d) :=
  .head fun ⟨_, _⟩ hp => (mem_ledger.mp hp).2.1

/-- x.name = v over any heap: L is any namespace of the heap (the frame's, say): its map stays, its object is not told; all else but the dict stays -/
theorem set_field {x C dx L : Addr} {ox : Obj} {m : Str → Option Value} {es es' : List DictEntry} {n n' : Nat} {name : Str} {v : Value} {Q : Unit → Shared → Prop}
    (X : K.In s.heap) (I : PySem.W.InstAt s.heap x ox C (some (dictOf es n))) (hd : ox.dict = some dx) (hL : s.heap.Ns L m) (hne : dx ≠ L)
    (hs : findIn K (.ref C) "__setattr__" = some (some (.builtin "object.__setattr__"))) (hp : plainOver K C = true) (ht : takerIn K C name = some none) (hh : hasDictIn K C = true) (hl : (getL name es).isSome = true)
    (e : (putL name (PyData.keyHash w.params name) (.str name (s.toks + 1)) v es, putN name es n) = (es', n')) (hz : es'.length ≤ 1000)
    (h : ∀ h' : Heap, h'.Ns L m → h'.get? dx = some (dictOf es' n') → (∀ b o, b ≠ dx → b ≠ L → s.heap.get? b = some o → h'.get? b = some o) → Q () { s with heap := h', toks := s.toks + 2 }) :
    wpAny (model prog w) A (setAttr (.ref x) name v) Q E s := by
  obtain ⟨e1, e2⟩ := Prod.mk.inj e
  have hdx : s.heap.get? dx = some (dictOf es n) := by
    have := I.dict
    rw [hd] at this
    exact this
  refine set_plain X I hs (osa_dict (s := { s with toks := s.toks + 1 }) (h₀ := noObjs s.heap) (L := L) (m := m) (od := dictOf es n) (od' := dictOf es' n') (es := es') (n := n') (pre := []) (post := ledger s.heap L dx)
    (fr_all hL) (news_ledger hne hdx) X I hd hp ht hh hl (fun _ q => nomatch q) (fun ⟨_, _⟩ q => (mem_ledger.mp q).2.1) (by rw [putName_dict, e1, e2]) rfl hz fun h' F' N' => ?_)
  exact h h' F'.ns (N'.get (List.Mem.head _)) fun b o n1 n2 ho => N'.get (List.Mem.tail _ (mem_ledger.mpr ⟨n2, n1, ho⟩))
end
end Att

namespace L2
open PySem PySem.Spec PyProof.Rows

theorem vals_ints : ∀ {vs : List Value} {ns : List Int}, IntsAre vs ns → Vals (ns.map V.int) vs
  | _, _, .nil => .nil
  | _, _, .cons n t h => .cons ⟨t, rfl⟩ (vals_ints h)

/-- nothing is tracked but the script, known to the object (or it is an object of the module) -/
def Only (H : Hp) : Prop := ∀ b, H b = none ∨ ∃ o xs, H b = some (.frz o (.lst xs))

/-- THE HEAD: the law's promise, at the heap behind the top. F, the promise of the law's def, may use that base is part of the heap (so K.In base, base.Ns mainGlobals mg stand in Mod) -/
theorem law_call {P : Program} {w : World} {K : PySem.W.Frag} {mg mb : Str → Option Value} {CX : CXT} {k : Nat} {fa a : Addr} {fd : FuncData} {x : Str} {sp : Sp} {s₁ : Shared} {vs : List Value} {ns : List Int}
    (KX : K.In s₁.heap) (hns : s₁.heap.Ns mainGlobals mg) (hb : s₁.heap.Ns builtinsNs mb) (hbb : ∀ x : Str, x ≠ "__name__" → mb x = bootBuiltins x) (hlim : s₁.heap.NoLimit) (hg : s₁.gens = #[])
    (ha : s₁.heap.get? a = some { cls := .type "list", data := .seq vs.toArray }) (hi : IntsAre vs ns) (hl : ns.length ≤ sizeLine) (hr : Room k callerA)
    (F : ∀ base : Heap, K.In base → base.Ns mainGlobals mg → FnOk P w K mg base CX k fa fd [x] sp) (hbind : ∀ (s : Shared) (u : Value), BindsTo s fd ⟨[u], []⟩ [(x, u)])
    (hsp : ∀ H : Hp, Only H → SqL K H a (ns.map V.int) → sp [.ref a] H (fun v _ => v = .bl true) fun _ _ _ => False)
    (hCX : ∀ H e s', CX [] H s₁ (fun _ _ _ => False) e s' → False) :
    codeAny (model P w) callerA (.call (.ref fa) ⟨[.ref a], []⟩) (fun r s' => r = .ok (.ret (.bool true)) ∧ OldK s₁.heap s'.heap ∧ s'.os = s₁.os ∧ AllBare s'.gens) s₁ := by
  have rv := vals_ints hi
  have lenV := hi.length
  -- from an abstract heap in which nothing but the script may be tracked
  have core : ∀ H : Hp, Only H → SqL K H a (ns.map V.int) → HOk P w H s₁.heap → (∀ b, H b ≠ none → b = a) → (H a ≠ none → K.lookup a = none) →
      codeAny (model P w) callerA (.call (.ref fa) ⟨[.ref a], []⟩) (fun r s' => r = .ok (.ret (.bool true)) ∧ OldK s₁.heap s'.heap ∧ s'.os = s₁.os ∧ AllBare s'.gens) s₁ := by
    intro H hO hS hok hA hK
    have base_of : ∀ {b : Addr} {o : Obj}, s₁.heap.get? b = some o → H b = none → (hidT s₁.heap H).get? b = some o := fun e n => hidT_get e n
    have noA : ∀ {b : Addr} {o : Obj} {es : Array DictEntry} {ep : Nat}, s₁.heap.get? b = some o → o.data = .dict es ep → H b = none := fun {b o es ep} e d => by
      cases q : H b with
      | none => rfl
      | some u =>
        have e' : b = a := hA b (by rw [q]; simp)
        subst e'
        rw [ha] at e; cases e
        have d' : Data.seq vs.toArray _ = Data.dict es ep := d
        cases d'
    have nsK : ∀ {b : Addr} {m : Str → Option Value}, s₁.heap.Ns b m → (hidT s₁.heap H).Ns b m := fun {b m} ⟨o, es, ep, e, d, r⟩ => ⟨o, es, ep, base_of e (noA e d), d, r⟩
    have hKb : K.In (hidT s₁.heap H) := fun b o e => base_of (KX b o e) (by
      cases q : H b with
      | none => rfl
      | some u =>
        have e' : b = a := hA b (by rw [q]; simp)
        subst e'
        rw [hK (by rw [q]; simp)] at e; cases e)
    have hM : Mod K mg (hidT s₁.heap H) := ⟨hKb, nsK hns, ⟨mb, nsK hb, hbb⟩, let ⟨mc, h1, h2⟩ := hlim; ⟨mc, nsK h1, h2⟩⟩
    have e0 : Env0 P w K mg (hidT s₁.heap H) callerA [] s₁ H := ⟨rfl, hM, fun b o e => of_hidT e, Nat.le_of_eq (hidT_size _ _), trivial, fun b hb => absurd (show b ∈ ([] : List Addr) from hb) (by simp), hok, .of_eq hg⟩
    refine codeAny_mono ((F _ hKb (nsK hns)).run callerA [] s₁ H ⟨[.ref a], []⟩ [.ref a] [.ref a] _ _ hr e0 (hbind s₁ (.ref a)) (.cons rfl .nil) (hsp H hO hS)) fun r s' h => ?_
    cases r with
    | error e => exact (hCX H e s' h).elim
    | ok fl =>
      cases fl with
      | next => exact False.elim h
      | brk => exact False.elim h
      | cont => exact False.elim h
      | ret u =>
        obtain ⟨v, H', os, bare, un, hok', r', q⟩ := h
        have q' : v = .bl true := q
        subst q'
        obtain rfl : u = Value.bool true := r'
        refine ⟨rfl, OldK.of_keep fun b o e => ?_, os, bare⟩
        cases q : H b with
        | none => exact un.keep b o e q (by intro z; exact absurd (show b ∈ ([] : List Addr) from z) (by simp)) (by simp)
        | some u =>
          rcases hO b with z | ⟨ob, xs, z⟩
          · rw [q] at z; cases z
          · have z2 := un.frzs b ob _ z
            obtain ⟨e1, _⟩ := hok b _ z
            obtain ⟨e2, _⟩ := hok' b _ z2
            rw [e] at e1; cases e1
            exact e2
  cases hk : K.lookup a with
  | some o =>
    -- the script is one of the module's own objects
    have e := KX a o hk
    rw [ha] at e
    cases e
    refine core (fun _ => none) (fun _ => .inl rfl) (.inr ⟨_, vs.toArray, _, hk, rfl, rfl, rfl, by rw [List.size_toArray, lenV]; exact hl, by simpa using rv⟩) (fun b u z => by have z' : (none : Option HO) = some u := z; cases z') (fun b z => absurd rfl z) fun z => absurd rfl z
  | none =>
    refine core (fun b => if b = a then some (.frz { cls := .type "list", data := .seq vs.toArray } (.lst (ns.map V.int))) else none) (fun b => ?_) (.inl (.inr ⟨{ cls := .type "list", data := .seq vs.toArray }, if_pos rfl⟩)) (fun b u z => ?_) (fun b z => ?_) fun _ => hk
    · by_cases hb : b = a
      · exact .inr ⟨_, _, if_pos hb⟩
      · exact .inl (if_neg hb)
    · by_cases hb : b = a
      · have z' := (if_pos hb).symm.trans z
        cases z'
        subst hb
        exact ⟨ha, by rw [List.length_map]; exact hl, vs, _, rv, ha⟩
      · have z' := (if_neg hb).symm.trans z
        cases z'
    · by_cases hb : b = a
      · exact hb
      · exact absurd (if_neg hb) z
end L2

namespace L2
open PySem PySem.Spec PyProof.Rows

abbrev KOf {K : PySem.W.Frag} {h : Heap} (_ : K.In h) : PySem.W.Frag := K

/-- the goal that k_head leaves (case hc), from the law's promise. F gives the function object fd (K's own) once, then the promise over every base -/
theorem walk_of {l : PySem.W.OpenLaw} {n k : Nat} {q : Program} {loose : List Str} {XP : (Str → Option Value) → Heap → Prop} {YP : World → Heap → Prop} {d : DefRec} {K : Params → PySem.W.Frag} {CX : World → CXT} {sp : World → Sp} {x : Str}
    (hn : l.most = some n) (hn2 : n ≤ sizeLine) (hdf : d.params.defaults = []) (hr : Room k callerA)
    (hY : ∀ (w : World) (h : Heap), YP w h → (K w.params).In h)
    (F : ∀ (w : World) (mg : Str → Option Value) (fa : Addr) (h : Heap), (K w.params).In h → h.Ns mainGlobals mg → mg d.name = some (.ref fa) →
      ∃ fd : FuncData, (∀ (s : Shared) (u : Value), BindsTo s fd ⟨[u], []⟩ [(x, u)]) ∧
        ∀ base : Heap, (K w.params).In base → base.Ns mainGlobals mg → FnOk l.prog w (K w.params) mg base (CX w) k fa fd [x] (sp w))
    (hsp : ∀ (w : World) (H : Hp) (a : Addr) (ns : List Int), ns.length ≤ n → Only H → SqL (K w.params) H a (ns.map V.int) → sp w [.ref a] H (fun v _ => v = .bl true) fun _ _ _ => False)
    (hCX : ∀ (w : World) (H : Hp) (s : Shared) (e : Value) (s' : Shared), CX w [] H s (fun _ _ _ => False) e s' → False) :
    PySem.W.WalkO q loose XP YP l.row.toRowW d [] (fun f vs => PySem.call f vs) := by
  refine Att.attach_call hn hdf fun w s₀ s₁ mg mb fa o pm cd doc a vs ns G Y ho hd hcd hmg hobj hints hlen hg => ?_
  have KX := hY w _ Y
  obtain ⟨fd, hb, hF⟩ := F w mg fa _ KX G.T.g hmg
  exact law_call KX G.T.g G.T.b G.T.builtins G.T.nolimit hg hobj hints (Nat.le_trans hlen hn2) hr hF hb (fun H hO hS => hsp w H a ns hlen hO hS) fun H e s' => hCX w H s₁ e s'
/-- the same where the promise hangs on the written part alone: (sp := My.sp_law), no hole under a binder -/
theorem walk_ofK {l : PySem.W.OpenLaw} {n k : Nat} {q : Program} {loose : List Str} {XP : (Str → Option Value) → Heap → Prop} {YP : World → Heap → Prop} {d : DefRec} {K : Params → PySem.W.Frag} {CX : CXT} {sp : PySem.W.Frag → Sp} {x : Str}
    (hn : l.most = some n) (hn2 : n ≤ sizeLine) (hdf : d.params.defaults = []) (hr : Room k callerA)
    (hY : ∀ (w : World) (h : Heap), YP w h → (K w.params).In h)
    (F : ∀ (w : World) (mg : Str → Option Value) (fa : Addr) (h : Heap), (K w.params).In h → h.Ns mainGlobals mg → mg d.name = some (.ref fa) →
      ∃ fd : FuncData, (∀ (s : Shared) (u : Value), BindsTo s fd ⟨[u], []⟩ [(x, u)]) ∧
        ∀ base : Heap, (K w.params).In base → base.Ns mainGlobals mg → FnOk l.prog w (K w.params) mg base CX k fa fd [x] (sp (K w.params)))
    (hsp : ∀ (K : PySem.W.Frag) (H : Hp) (a : Addr) (ns : List Int), ns.length ≤ n → Only H → SqL K H a (ns.map V.int) → sp K [.ref a] H (fun v _ => v = .bl true) fun _ _ _ => False)
    (hCX : ∀ (H : Hp) (s : Shared) (e : Value) (s' : Shared), CX [] H s (fun _ _ _ => False) e s' → False) :
    PySem.W.WalkO q loose XP YP l.row.toRowW d [] (fun f vs => PySem.call f vs) :=
  walk_of (K := K) (CX := fun _ => CX) (sp := fun w => sp (K w.params)) hn hn2 hdf hr hY F (fun w H a ns h1 h2 h3 => hsp (K w.params) H a ns h1 h2 h3) fun _ H s e s' => hCX H s e s'
end L2

/-! SHORT WORDS over the layer: a def of the text, its body, what a loop and a test want. -/
namespace L2
open PySem PySem.Spec PyProof.Rows

/-! ### the text by places -/
/-- the j-th statement of a class's body -/
def inClass (s : Stmt) (j : Nat) : Stmt := match s with
  | .ClassDef _ _ _ body _ _ _ _ _ _ _ => body.getD j (.Pass ⟨0, 0, 0, 0⟩)
  | _ => .Pass ⟨0, 0, 0, 0⟩
def defArgs (s : Stmt) : Arguments := match s with
  | .FunctionDef _ a _ _ _ _ _ _ _ _ => a
  | _ => { posonlyargs := [], args := [], vararg := none, kwonlyargs := [], kw_defaults := [], kwarg := none, defaults := [] }
def defBody (s : Stmt) : List Stmt := match s with
  | .FunctionDef _ _ b _ _ _ _ _ _ _ => b
  | _ => []
def defScope (s : Stmt) : Scope := match s with
  | .FunctionDef _ _ _ _ _ _ sc _ _ _ => sc
  | _ => { kind := .function, names := [], isGenerator := false, isCoroutine := false }

/-! ### no exception leaves a def -/
abbrev CX0 : CXT := fun _ _ _ _ _ _ => False
abbrev E0 : XK := fun _ _ _ => False
theorem pass0 {X : Cx} : Passes CX0 X E0 := fun _ _ _ _ _ _ _ h => h.elim

/-! ### a def (or method) of the text as it stands behind the top -/
structure Fun (K : PySem.W.Frag) (x qual : Str) (st : Stmt) (f : Addr) (fd : FuncData) : Prop where
  ex : ∃ (oc : Value) (od : Option Addr) (kV doc pm : Value) (an : Option Addr) (cdv ct : Value) (osl : Array (Option Value)),
    fd = PySem.W.fnOf x qual (defArgs st) (defBody st) (defScope st) .none kV doc pm an cdv ct ∧ K.lookup f = some ⟨oc, od, .func fd, osl⟩ ∧ PySem.W.codeIn K cdv qual = true
  kp : PySem.W.keepIn K (.ref f) = true
section
variable {P : Program} {w : World} {K : PySem.W.Frag} {mg : Str → Option Value} {base : Heap}
/-- THE RULE for a def: its body as a term of rules, and the reading of that term -/
theorem Fun.ok {x qual : Str} {st : Stmt} {f : Addr} {fd : FuncData} {N ps : List Str} {k : Nat} {sp : Sp} (F : Fun K x qual st f fd) (S : FnScope N ps (defScope st)) (len : ∀ vs H Q E, sp vs H Q E → vs.length = ps.length)
    (hbody : ∀ (cdv : Value) (A : Around) (outer : List Env) (s : Shared) (H : Hp) (vs : List V) (Q : VK) (E : XK), Room k (A.deeper (envOfC qual (defScope st) s.heap.objs.size f cdv)) → sp vs H Q E →
      ∃ t, PSs (cxOf CX0 P w K mg base N qual (defScope st) f cdv A outer s H E).nox (defBody st) t ∧ t { nx := fun _ H' => Q .non H', rt := Q } (start N vs) H) : FnOk P w K mg base CX0 (k + 1) f fd ps sp := by
  obtain ⟨oc, od, kV, doc, pm, an, cdv, ct, osl, rfl, lk, hcd⟩ := F.ex
  refine fn_of lk hcd S len fun A outer s H vs Q E hr hsp => ?_
  obtain ⟨t, h, q⟩ := hbody cdv A outer s H vs Q E hr hsp
  exact ⟨t, h.nox, q⟩
/-- how its arguments bind (no defaults): h is «fun _ _ _ _ _ _ us hl => match us, hl with | [_, _], _ => rfl», one _ a parameter -/
theorem Fun.binds {x qual : Str} {st : Stmt} {f : Addr} {fd : FuncData} {ps : List Str} (F : Fun K x qual st f fd)
    (h : ∀ (kV doc pm : Value) (an : Option Addr) (cdv ct : Value) (us : List Value), us.length = ps.length → bindArgs (PySem.W.fnOf x qual (defArgs st) (defBody st) (defScope st) .none kV doc pm an cdv ct) ⟨us, []⟩ = pure (ps.zip us)) : Binds K fd ps [] := by
  obtain ⟨oc, od, kV, doc, pm, an, cdv, ct, osl, rfl, lk, hcd⟩ := F.ex
  exact .all (h kV doc pm an cdv ct)
theorem fun_mk {x qual : Str} {st : Stmt} {f : Addr} {oc : Value} {od an : Option Addr} {osl : Array (Option Value)} {kV doc pm cdv ct : Value} (l : K.lookup f = some ⟨oc, od, .func (PySem.W.fnOf x qual (defArgs st) (defBody st) (defScope st) .none kV doc pm an cdv ct), osl⟩)
    (c : PySem.W.codeIn K cdv qual = true) (k : PySem.W.keepIn K (.ref f) = true) : Fun K x qual st f (PySem.W.fnOf x qual (defArgs st) (defBody st) (defScope st) .none kV doc pm an cdv ct) := ⟨⟨oc, od, kV, doc, pm, an, cdv, ct, osl, rfl, l, c⟩, k⟩
end
theorem hu_of {A : Around} {k : Nat} (hr : Room k A) : A.units + 1 < cLine := Nat.lt_of_le_of_lt (Nat.add_le_add_left (by decide : 1 ≤ 64) _) hr.units
theorem small1000 {n : Nat} (h : n ≤ 1000) : n < sizeLine := Nat.lt_of_le_of_lt h (by decide)

/-! ### expressions in short: the name that stands in the i-th slot -/
section
variable {X : Cx}
theorem pv (i : Nat) {x : Str} {pos : Pos} (hN : X.N[i]? = some x := by rfl) (hv : Vis X.env.scope x := by first | exact Or.inl rfl | exact Or.inr (Or.inl rfl) | exact Or.inr (Or.inr rfl)) (hd : (x == ("__debug__" : Str)) = false := by decide)
    (hcd : (x == ("__classdict__" : Str)) = false := by decide) : PE X (.Name x pos) (tVar i) := pe_var hN hv hd hcd
end

/-! ### tests -/
theorem iteF {A B : Prop} (h : B) : if false = true then A else B := by
  rw [if_neg Bool.false_ne_true]
  exact h
theorem iteT {A B : Prop} (h : A) : if true = true then A else B := by
  rw [if_pos rfl]
  exact h
theorem ite2 {c A B : Prop} [Decidable c] (h1 : c → A) (h2 : ¬ c → B) : if c then A else B := by
  by_cases h : c
  · rw [if_pos h]
    exact h1 h
  · rw [if_neg h]
    exact h2 h
theorem iteNS {c A B : Prop} [Decidable c] (hc : c) (h : B) : if (!decide c) = true then A else B := by
  rw [decide_eq_true hc]
  exact iteF h

/-! ### heaps -/
/-- all that was tracked is as it was -/
def Same (H H' : Hp) : Prop := ∀ b o, H b = some o → H' b = some o
theorem Same.refl (H : Hp) : Same H H := fun _ _ h => h
theorem Same.trans {H H1 H2 : Hp} (a : Same H H1) (b : Same H1 H2) : Same H H2 := fun c o h => b c o (a c o h)
theorem Same.free {H H' : Hp} (e : Same H H') {l : Addr} (h : H' l = Option.none) : H l = Option.none := by
  cases q : H l with
  | none => rfl
  | some o =>
    rw [e l o q] at h
    cases h
theorem Same.seq {K : PySem.W.Frag} {H H' : Hp} {a : Addr} {xs : List V} (e : Same H H') (h : SqL K H a xs) : SqL K H' a xs := by
  rcases h with (h | ⟨o, h⟩) | h
  · exact .inl (.inl (e _ _ h))
  · exact .inl (.inr ⟨o, e _ _ h⟩)
  · exact .inr h

end L2

set_option maxHeartbeats 4000000
namespace L2
open PySem PySem.Spec PyProof.Rows

/-! ### built-in names -/
theorem bt_len : bootBuiltins "len" = some (.builtin "len") := by decide +kernel
theorem bt_isinstance : bootBuiltins "isinstance" = some (.builtin "isinstance") := by decide +kernel
theorem bt_max : bootBuiltins "max" = some (.builtin "max") := by decide +kernel
theorem bt_min : bootBuiltins "min" = some (.builtin "min") := by decide +kernel
theorem bt_any : bootBuiltins "any" = some (.builtin "any") := by decide +kernel
theorem bt_all : bootBuiltins "all" = some (.builtin "all") := by decide +kernel
theorem bt_int : bootBuiltins "int" = some (.type "int") := by decide +kernel
theorem bt_str : bootBuiltins "str" = some (.type "str") := by decide +kernel
theorem bt_bool : bootBuiltins "bool" = some (.type "bool") := by decide +kernel
theorem bt_list : bootBuiltins "list" = some (.type "list") := by decide +kernel
theorem bt_tuple : bootBuiltins "tuple" = some (.type "tuple") := by decide +kernel
theorem bt_ValueError : bootBuiltins "ValueError" = some (.type "ValueError") := by decide +kernel
theorem bt_ord : bootBuiltins "ord" = some (.builtin "ord") := by decide +kernel
theorem bt_range : bootBuiltins "range" = some (.type "range") := by decide +kernel

/-! ### data: what a value is worth, through lists and tuples -/
mutual
def DV (K : PySem.W.Frag) (H : Hp) : PyData → V → Prop
  | .none, x => x = .non
  | .bool b, x => x = .bl b
  | .int i, x => x = .int i
  | .str y, x => x = .str y
  | .list ds, x => ∃ a xs, x = .ref a ∧ SqL K H a xs ∧ DVs K H ds xs
  | .tuple ds, x => ∃ a xs, x = .ref a ∧ SqT K H a xs ∧ DVs K H ds xs
  | .dict _, _ => False
def DVs (K : PySem.W.Frag) (H : Hp) : List PyData → List V → Prop
  | [], xs => xs = []
  | d :: ds, xs => ∃ x r, xs = x :: r ∧ DV K H d x ∧ DVs K H ds r
end
section
variable {X : Cx} {pins : List (Addr × Obj)} {σ : St} {H : Hp} {s : Shared}
mutual
theorem DV.reads (I : Inv X pins σ H s) : ∀ (d : PyData) {x : V} {u : Value}, DV X.K H d x → RelV x u → ∃ as, Reads s.heap u d as
  | .none, _, _, h, r => by
    have h' := h; unfold DV at h'; subst h'; cases r; exact ⟨_, .none⟩
  | .bool b, _, _, h, r => by
    have h' := h; unfold DV at h'; subst h'; cases r; exact ⟨_, .bool b⟩
  | .int i, _, _, h, r => by
    have h' := h; unfold DV at h'; subst h'; obtain ⟨t, rfl⟩ := r; exact ⟨_, .int i t⟩
  | .str y, _, _, h, r => by
    have h' := h; unfold DV at h'; subst h'; obtain ⟨t, rfl⟩ := r; exact ⟨_, .str y t⟩
  | .list ds, _, _, h, r => by
    have h' := h; unfold DV at h'
    obtain ⟨a, xs, rfl, hq, hs⟩ := h'
    cases r
    obtain ⟨its, rv, ⟨o, n, e, c, _, dt⟩, _⟩ := I.list hq
    obtain ⟨as, q⟩ := DVs.reads I ds hs rv
    exact ⟨_, .list e c dt (by simpa using q)⟩
  | .tuple ds, _, _, h, r => by
    have h' := h; unfold DV at h'
    obtain ⟨a, xs, rfl, hq, hs⟩ := h'
    cases r
    obtain ⟨its, rv, ⟨o, e, c, n, dt⟩, _⟩ := I.tuple hq
    obtain ⟨as, q⟩ := DVs.reads I ds hs rv
    exact ⟨_, .tuple e c dt (by simpa using q)⟩
  | .dict _, _, _, h, _ => by
    have h' := h; unfold DV at h'; exact h'.elim
theorem DVs.reads (I : Inv X pins σ H s) : ∀ (ds : List PyData) {xs : List V} {us : List Value}, DVs X.K H ds xs → Vals xs us → ∃ as, ReadsAll s.heap us ds as
  | [], _, _, h, r => by
    have h' := h; unfold DVs at h'; subst h'; cases r; exact ⟨_, .nil⟩
  | d :: ds, _, _, h, r => by
    have h' := h; unfold DVs at h'
    obtain ⟨x, q, rfl, h1, h2⟩ := h'
    cases r with
    | cons r1 r2 =>
      obtain ⟨as, e1⟩ := DV.reads I d h1 r1
      obtain ⟨bs, e2⟩ := DVs.reads I ds h2 r2
      exact ⟨_, .cons e1 e2⟩
end
/-- == and != of data -/
def rEqD (K : PySem.W.Frag) : R2 := fun x y H Q => ∃ d e, DV K H d x ∧ DV K H e y ∧ SeqAt.shaped d = true ∧ SeqAt.shaped e = true ∧ Q (.bl (PyData.eqv d e)) H
def rNeD (K : PySem.W.Frag) : R2 := fun x y H Q => ∃ d e, DV K H d x ∧ DV K H e y ∧ SeqAt.shaped d = true ∧ SeqAt.shaped e = true ∧ Q (.bl (!PyData.eqv d e)) H
theorem op_eqD (hu : X.A.units + 64 < cLine) : OpR X (compareOp .Eq) (rEqD X.K) := by
  intro pins s σ H x y v u Q I rx ry h
  obtain ⟨d, e, hd, he, sd, se, q⟩ := h
  obtain ⟨as, r1⟩ := DV.reads I d hd rx
  obtain ⟨bs, r2⟩ := DV.reads I e he ry
  exact eq_dataH r1 r2 sd se hu ⟨.bl _, H, I, rfl, q⟩
theorem op_neD (hu : X.A.units + 64 < cLine) : OpR X (compareOp .NotEq) (rNeD X.K) := by
  intro pins s σ H x y v u Q I rx ry h
  obtain ⟨d, e, hd, he, sd, se, q⟩ := h
  obtain ⟨as, r1⟩ := DV.reads I d hd rx
  obtain ⟨bs, r2⟩ := DV.reads I e he ry
  exact ne_dataH r1 r2 sd se hu ⟨.bl _, H, I, rfl, q⟩
end
/-- a list of texts as data -/
theorem dvs_strs (K : PySem.W.Frag) (H : Hp) : ∀ ws : List Str, DVs K H (ws.map PyData.str) (ws.map V.str)
  | [] => by unfold DVs; rfl
  | w :: ws => by
    show DVs K H (PyData.str w :: ws.map PyData.str) _
    unfold DVs
    exact ⟨_, _, rfl, by unfold DV; rfl, dvs_strs K H ws⟩
theorem dv_strs {K : PySem.W.Frag} {H : Hp} {a : Addr} {ws : List Str} (h : SqL K H a (ws.map V.str)) : DV K H (.list (ws.map PyData.str)) (.ref a) := by
  unfold DV
  exact ⟨a, _, rfl, h, dvs_strs K H ws⟩
theorem eqvAll_strs : ∀ vs ws : List Str, PyData.eqvAll (vs.map PyData.str) (ws.map PyData.str) = decide (vs = ws)
  | [], [] => by simp [PyData.eqvAll]
  | [], _ :: _ => by simp [PyData.eqvAll]
  | _ :: _, [] => by simp [PyData.eqvAll]
  | a :: r, b :: t => by
    simp only [List.map_cons, PyData.eqvAll, PyData.eqv, eqvAll_strs r t]
    by_cases h : a = b <;> by_cases h' : r = t <;> simp [h, h']
theorem canLay_strs : ∀ ws : List Str, (∀ w ∈ ws, PyData.strOk w = true) → PyData.canLayAll0 (ws.map PyData.str) = true
  | [], _ => by simp [PyData.canLayAll0]
  | w :: ws, h => by
    simp only [List.map_cons, PyData.canLayAll0, PyData.canLay0, Bool.and_eq_true]
    exact ⟨h w List.mem_cons_self, canLay_strs ws fun v hv => h v (List.mem_cons_of_mem _ hv)⟩
theorem depth_strs : ∀ ws : List Str, PyData.depthAll (ws.map PyData.str) ≤ 1
  | [] => by simp [PyData.depthAll]
  | w :: ws => by
    have := depth_strs ws
    simp only [List.map_cons, PyData.depthAll, PyData.depth]
    omega
theorem shaped_strs {ws : List Str} (h : ∀ w ∈ ws, PyData.strOk w = true) : SeqAt.shaped (.list (ws.map PyData.str)) = true := by
  have h1 := depth_strs ws
  have h2 : PyData.depth (.list (ws.map PyData.str)) ≤ 64 := by simp only [PyData.depth]; omega
  show (PyData.canLay0 (.list (ws.map PyData.str)) && decide (PyData.depth (.list (ws.map PyData.str)) ≤ 64)) = true
  rw [Bool.and_eq_true]
  exact ⟨by simp only [PyData.canLay0]; exact canLay_strs ws h, decide_eq_true h2⟩

/-! ### join, split -/
theorem strsAre_of : ∀ {ys : List Str} {us : List Value}, Vals (ys.map V.str) us → StrsAre us ys
  | [], _, .nil => .nil
  | y :: ys, _, .cons r t => by
    obtain ⟨tk, rfl⟩ := r
    exact .cons y tk (strsAre_of t)
theorem vals_strValues : ∀ l : List (Str × Tok), Vals ((l.map (·.1)).map V.str) (strValues l)
  | [] => .nil
  | p :: l => .cons ⟨p.2, rfl⟩ (vals_strValues l)
section
variable {X : Cx}
def rJoin (K : PySem.W.Frag) : V → List V → Hp → VK → Prop := fun x vs H Q => ∃ sep a ys, x = .str sep ∧ vs = [.ref a] ∧ SqL K H a (ys.map V.str) ∧ (ys.map (·.length)).sum + ys.length * sep.length ≤ 16777216 ∧ Q (.str (Str.join sep ys)) H
theorem mt_join : MtR X "str.join" (rJoin X.K) := by
  intro pins s σ H x vs v us Q I rx rv h
  obtain ⟨sep, a, ys, rfl, rfl, hq, hz, q⟩ := h
  obtain ⟨t, rfl⟩ := rx
  obtain ⟨u, rfl, ru⟩ := rv.one
  cases ru
  obtain ⟨its, r, pl, _⟩ := I.list hq
  refine join_list pl.isList (strsAre_of (by simpa using r)) hz fun t' k => ?_
  rw [show Txt.join sep ys = Str.join sep ys from StrLaws.glued_eq_join sep ys]
  exact ⟨.str _, H, I.tok _, ⟨_, rfl⟩, q⟩
def rSplit : V → List V → Hp → VK → Prop := fun x vs H Q => ∃ z y, x = .str z ∧ vs = [.str y] ∧ (y.length == 0) = false ∧ z.length + 2 ≤ sizeLine ∧ ∀ p, H p = none → Q (.ref p) (upd H p (.lst ((Txt.split z y).map V.str)))
theorem mt_split : MtR X "str.split" rSplit := by
  intro pins s σ H x vs v us Q I rx rv h
  obtain ⟨x, y, rfl, rfl, hy, hsz, q⟩ := h
  obtain ⟨t, rfl⟩ := rx
  obtain ⟨_, rfl, u, rfl⟩ := rv.one
  have hn : (Builtin.Str.partsBetween x (Builtin.Str.occurrences x y 0 x.length (x.length + 1)) y.length).length ≤ sizeLine := by
    have e1 := StrLaws.occ_length_le x y 0 x.length (x.length + 1)
    rw [length_partsBetween]; omega
  have fin : ∀ (l : List (Str × Tok)) (tk : Nat), l.map (·.1) = Txt.split x y → (Txt.split x y).length ≤ sizeLine →
      EP X pins σ Q (.ref s.heap.objs.size) { s with heap := s.heap.push { cls := .type "list", data := .seq (strValues l).toArray }, toks := tk } := fun l tk e hz => by
    refine ⟨.ref _, _, I.lnew (t' := tk) (ys := (Txt.split x y).map V.str) (by rw [← e]; exact vals_strValues l) (by rw [List.length_map]; exact hz), rfl, q _ I.fresh⟩
  have h1le : 1 ≤ sizeLine := by omega
  cases h1 : (decide (x.length < y.length) || decide (Builtin.Str.strKind x < Builtin.Str.strKind y))
  · cases hf : (Builtin.Str.occurrences x y 0 x.length (x.length + 1)).isEmpty
    · refine call_meets F.slot_str_split (typeIs_str _ _ _) F.entry_str_split (F.args_str_split_2 _ _) (meets_str_split_sep x y t u h1 hy hf (by omega) hn) ?_
      have e : Txt.split x y = Builtin.Str.partsBetween x (Builtin.Str.occurrences x y 0 x.length (x.length + 1)) y.length := (if_neg (ne_true_of_eq_false h1)).trans (if_neg (ne_true_of_eq_false hf))
      show wants (EP X pins σ Q) X.xe _ { s with toks := _, heap := s.heap.push { cls := .type "list", data := .seq (strsFrom s.toks (Builtin.Str.partsBetween x (Builtin.Str.occurrences x y 0 x.length (x.length + 1)) y.length)).toArray } }
      rw [strsFrom_eq]
      exact fin (numbered s.toks _) _ ((numbered_texts _ _).trans e.symm) (by rw [e]; exact hn)
    · have e : Txt.split x y = [x] := (if_neg (ne_true_of_eq_false h1)).trans (if_pos hf)
      exact call_meets F.slot_str_split (typeIs_str _ _ _) F.entry_str_split (F.args_str_split_2 _ _) (meets_str_split_not_found x y t u h1 hy hf)
        (fin [(x, t)] s.toks e.symm (by rw [e]; exact h1le))
  · have e : Txt.split x y = [x] := if_pos h1
    exact call_meets F.slot_str_split (typeIs_str _ _ _) F.entry_str_split (F.args_str_split_2 _ _) (meets_str_split_cannot_occur x y t u h1)
      (fin [(x, t)] s.toks e.symm (by rw [e]; exact h1le))

/-! ### isinstance -/
def clsV : V → Value
  | .ty n => .type n
  | .ref a => .ref a
  | _ => .none
def isC : V → Bool
  | .ty _ => true
  | .ref _ => true
  | _ => false
theorem call_isi : CallR X (.builtin "isinstance") (fun xs H Q => ∃ x c t b, xs = [x, c] ∧ isC c = true ∧ TyOf X.K H x t ∧ PySem.W.kitOne X.K t (clsV c) = some b ∧ Q (.bl b) H) := by
  intro pins s σ H xs us Q I r h
  obtain ⟨x, c, t, b, rfl, hc, ty, e, q⟩ := h
  obtain ⟨u, w', rfl, rx, rc⟩ := vals2 r
  have fin : ∀ tk, EP X pins σ Q (.bool b) { s with toks := tk } := fun tk => ⟨.bl b, H, I.tok _, rfl, q⟩
  cases c with
  | ty n => cases rc; exact isinst_ok I rx ty e fin
  | ref a => cases rc; exact isinst_ok I rx ty e fin
  | _ => exact absurd (show false = true from hc) Bool.false_ne_true
end

/-! ### a list of the script's own, joined to a new one: either may be read only -/
section
variable {X : Cx}
theorem op_catQ : OpR X (binaryOp .Add) (fun x y H Q => ∃ l b xs zs, x = .ref l ∧ y = .ref b ∧ H l = some (.lst xs) ∧ H b = some (.lst zs) ∧ xs.length + zs.length ≤ sizeLine ∧ ∀ p, H p = none → Q (.ref p) (upd H p (.lst (xs ++ zs)))) := op_cat
end

/-! ### words with one sign between: split is what was joined -/
theorem app_toList (a b : Str) : (a ++ b).cps.toList = a.cps.toList ++ b.cps.toList := by
  show (a.cps ++ b.cps).toList = _
  simp
theorem free_cut (c : Nat) : ∀ (a b p q : List Nat), c ∉ a → c ∉ b → a ++ c :: p = b ++ c :: q → a = b ∧ p = q
  | [], [], p, q, _, _, e => by simpa using e
  | [], y :: b, p, q, _, hb, e => by
    have e' : c :: p = y :: (b ++ c :: q) := e
    injection e' with e1 _
    exact absurd (by rw [e1]; exact List.mem_cons_self) hb
  | x :: a, [], p, q, ha, _, e => by
    have e' : x :: (a ++ c :: p) = c :: q := e
    injection e' with e1 _
    exact absurd (by rw [← e1]; exact List.mem_cons_self) ha
  | x :: a, y :: b, p, q, ha, hb, e => by
    have e' : x :: (a ++ c :: p) = y :: (b ++ c :: q) := e
    injection e' with e1 e2
    obtain ⟨h1, h2⟩ := free_cut c a b p q (fun h => ha (List.mem_cons_of_mem _ h)) (fun h => hb (List.mem_cons_of_mem _ h)) e2
    exact ⟨by rw [e1, h1], h2⟩
theorem str_ext {a b : Str} (h : a.cps.toList = b.cps.toList) : a = b := by
  cases a; cases b
  have := Array.toList_inj.mp h
  subst this; rfl
theorem join_cons2 (c : Nat) (x y : Str) (r : List Str) : (Str.join ⟨#[c]⟩ (x :: y :: r)).cps.toList = x.cps.toList ++ c :: (Str.join ⟨#[c]⟩ (y :: r)).cps.toList := by
  show ((x ++ ⟨#[c]⟩) ++ Str.join ⟨#[c]⟩ (y :: r)).cps.toList = _
  rw [app_toList, app_toList]
  simp
theorem join_inj (c : Nat) : ∀ (vs ws : List Str), vs ≠ [] → ws ≠ [] → (∀ v ∈ vs, c ∉ v.cps.toList) → (∀ w ∈ ws, c ∉ w.cps.toList) → Str.join ⟨#[c]⟩ vs = Str.join ⟨#[c]⟩ ws → vs = ws
  | [], _, h, _, _, _, _ => absurd rfl h
  | _, [], _, h, _, _, _ => absurd rfl h
  | [x], [y], _, _, _, _, e => by rw [show x = y from e]
  | [x], y :: z :: r, _, _, hv, _, e => by
    have e1 := congrArg (fun t : Str => t.cps.toList) e
    have e2 : x.cps.toList = y.cps.toList ++ c :: (Str.join ⟨#[c]⟩ (z :: r)).cps.toList := e1.trans (join_cons2 c y z r)
    exact absurd (by rw [e2]; exact List.mem_append_right _ List.mem_cons_self) (hv x List.mem_cons_self)
  | x :: z :: r, [y], _, _, _, hw, e => by
    have e1 := congrArg (fun t : Str => t.cps.toList) e
    have e2 : x.cps.toList ++ c :: (Str.join ⟨#[c]⟩ (z :: r)).cps.toList = y.cps.toList := (join_cons2 c x z r).symm.trans e1
    exact absurd (by rw [← e2]; exact List.mem_append_right _ List.mem_cons_self) (hw y List.mem_cons_self)
  | x :: x2 :: r, y :: y2 :: q, _, _, hv, hw, e => by
    have e1 := congrArg (fun t : Str => t.cps.toList) e
    have e2 := (join_cons2 c x x2 r).symm.trans (e1.trans (join_cons2 c y y2 q))
    obtain ⟨h1, h2⟩ := free_cut c _ _ _ _ (hv x List.mem_cons_self) (hw y List.mem_cons_self) e2
    have h3 := join_inj c (x2 :: r) (y2 :: q) (List.cons_ne_nil _ _) (List.cons_ne_nil _ _) (fun v h => hv v (List.mem_cons_of_mem _ h)) (fun w h => hw w (List.mem_cons_of_mem _ h)) (str_ext h2)
    rw [str_ext h1, h3]
theorem split_ne (x y : Str) : Txt.split x y ≠ [] := by
  unfold Txt.split
  split
  · exact List.cons_ne_nil _ _
  · split
    · exact List.cons_ne_nil _ _
    · rw [StrLaws.partsBetween_eq]
      intro h
      have := congrArg List.length h
      revert this
      cases (Builtin.Str.occurrences x y 0 x.length (x.length + 1)) <;> simp [StrLaws.partsFrom]
theorem split_join {c : Nat} {ws : List Str} (h0 : ws ≠ []) (h : ∀ w ∈ ws, c ∉ w.cps.toList) : Txt.split (Str.join ⟨#[c]⟩ ws) ⟨#[c]⟩ = ws :=
  join_inj c _ _ (split_ne _ _) h0 (StrLaws.split_free _ c) h (StrLaws.join_split _ _)
theorem join_len1 (c : Nat) : ∀ ws : List Str, (Str.join ⟨#[c]⟩ ws).length ≤ (ws.map (·.length)).sum + ws.length
  | [] => Nat.zero_le _
  | [x] => by show x.length ≤ _; simp
  | x :: y :: r => by
    have ih := join_len1 c (y :: r)
    have e : (Str.join ⟨#[c]⟩ (x :: y :: r)).length = x.length + 1 + (Str.join ⟨#[c]⟩ (y :: r)).length := by
      have := congrArg List.length (join_cons2 c x y r)
      rw [List.length_append, List.length_cons] at this
      have l1 : ∀ z : Str, z.cps.toList.length = z.length := fun z => by simp [Str.length]
      rw [l1, l1, l1] at this
      omega
    simp only [List.map_cons, List.sum_cons, List.length_cons] at ih ⊢
    omega
theorem join_ne_empty {c : Nat} : ∀ {ws : List Str}, ws ≠ [] → (∀ w ∈ ws, 1 ≤ w.length) → 1 ≤ (Str.join ⟨#[c]⟩ ws).length
  | [], h, _ => absurd rfl h
  | [x], _, h => h x List.mem_cons_self
  | x :: y :: r, _, h => by
    have h1 := h x List.mem_cons_self
    have := congrArg List.length (join_cons2 c x y r)
    rw [List.length_append] at this
    have l1 : ∀ z : Str, z.cps.toList.length = z.length := fun z => by simp [Str.length]
    rw [l1, l1] at this
    omega
/-! ### small things -/
theorem ite_ne {b : Bool} {A B : Prop} (hb : b = true) (h : B) : if (!b) = true then A else B := by
  subst hb; exact iteF h
theorem ite_t {b : Bool} {A B : Prop} (hb : b = true) (h : A) : if b = true then A else B := by
  subst hb; exact iteT h
theorem ite_f {b : Bool} {A B : Prop} (hb : b = false) (h : B) : if b = true then A else B := by
  subst hb; exact iteF h
theorem same_new {H : Hp} {p : Addr} {o : HO} (h : H p = none) : Same H (upd H p o) := fun b u e => by
  rw [upd_ne (ne_of_none e h)]; exact e
/-- a new object of ours is changed: what stood before stays -/
theorem Same.own {H H' : Hp} {p : Addr} {o : HO} (s : Same H H') (h : H p = none) : Same H (upd H' p o) := fun b u e => by
  rw [upd_ne (ne_of_none e h)]; exact s b u e
theorem Same.new {H H' : Hp} {p : Addr} {o : HO} (s : Same H H') (h : H' p = none) : Same H (upd H' p o) := s.trans (same_new h)
theorem Same.nn {H H' : Hp} (s : Same H H') {p : Addr} {o : HO} (h : H p = none) (e : H' p = some o) {b : Addr} {u : HO} (eb : H b = some u) : b ≠ p := ne_of_none eb h
theorem cut_from (xs : List V) (k : Nat) : cutV xs (some (k : Int)) none = xs.drop k := by
  unfold cutV
  rw [HT.sIx_nat, HT.sIx_none]
  by_cases h : k ≤ xs.length
  · rw [Nat.min_eq_left h]
    exact List.take_of_length_le (by rw [List.length_drop]; exact Nat.le_refl _)
  · have h' : xs.length ≤ k := by omega
    rw [Nat.min_eq_right h', List.drop_of_length_le h', List.drop_of_length_le (Nat.le_refl _)]
    simp
theorem at_ix {α : Type} {xs : List α} {i : Int} {n : Nat} (hn : xs.length = n) (h0 : 0 ≤ i) (h1 : i < n) : ∃ c, atI xs i = some c ∧ c ∈ xs := by
  have hi : i.toNat < xs.length := by omega
  have e : ((i.toNat : Nat) : Int) = i := by omega
  refine ⟨xs[i.toNat], ?_, List.getElem_mem hi⟩
  have q := atI_nat (List.getElem?_eq_getElem hi)
  rw [e] at q
  exact q
end L2

namespace L2
open PySem PySem.Spec PyProof.Rows

/-! ### a list comprehension of one clause without a test -/
def relabelS (scope outer : Scope) : Scope :=
  { scope with names := scope.names.map fun (n, k) => if (k == .free && outer.kind == .function && outer.names.lookup n == some .cell) then (n, .cell) else (n, k) }
/-- M: the outer names N as the block sees them (one that the block's own name hides is no name there) -/
structure CompScope (scope outer : Scope) (x : Str) (N M : List Str) : Prop where
  kind : scope.kind = .function
  okind : outer.kind = .function
  nocell : ∀ y ∈ scope.names, y.2 ≠ .cell
  names : ∀ y ∈ scope.names, y.2 = .local → scope.names.lookup y.1 = some .local
  hx : scope.names.lookup x = some .local
  free : ∀ y ∈ scope.names, y.2 = .free → outer.names.lookup y.1 = some .cell
  nl : ∀ n ∈ M, (relabelS scope outer).names.lookup n ≠ some .local
  ndM : M.Nodup
  nd : N.Nodup
  len : M.length = N.length
  rel : ∀ i : Nat, i < N.length → M[i]? = N[i]? ∨ M[i]? = some Str.empty
  em : (relabelS scope outer).names.lookup Str.empty = none
theorem CompScope.mem {scope outer : Scope} {x : Str} {N M : List Str} (S : CompScope scope outer x N M) {n : Str} {k : NameKind} (h : (relabelS scope outer).names.lookup n = some k) (hk : k = .cell ∨ k = .free) :
    k = .cell ∧ (n, NameKind.free) ∈ scope.names ∧ outer.names.lookup n = some .cell := by
  obtain ⟨⟨n', k'⟩, hm, e⟩ := List.mem_map.mp (PySem.mem_of_lookup h)
  dsimp only at e
  by_cases hc : (k' == NameKind.free && outer.kind == .function && outer.names.lookup n' == some .cell) = true
  · rw [if_pos hc] at e
    injection e with e1 e2
    subst e1 e2
    rw [Bool.and_eq_true, Bool.and_eq_true] at hc
    have hk' : k' = .free := beq_iff_eq.mp hc.1.1
    subst hk'
    exact ⟨rfl, hm, beq_iff_eq.mp hc.2⟩
  · rw [if_neg hc] at e
    injection e with e1 e2
    subst e1 e2
    rcases hk with z | z
    · exact absurd z (S.nocell _ hm)
    · subst z
      exfalso
      refine hc ?_
      rw [S.free _ hm rfl, S.okind]
      rfl
/-- the cells that a block takes along -/
theorem clos_go {env : Env} {f : Str × NameKind → List (Str × Addr) → Sem (ForInStep (List (Str × Addr)))}
    (h1 : ∀ n k r, k ≠ NameKind.free → f (n, k) r = pure (.yield r)) (h2 : ∀ n r c, env.cells.lookup n = some c → f (n, .free) r = pure (.yield ((n, c) :: r))) :
    ∀ (ns : List (Str × NameKind)) (acc : List (Str × Addr)), (∀ y ∈ ns, y.2 = .free → ∃ c, env.cells.lookup y.1 = some c) → (∀ n c, acc.lookup n = some c → env.cells.lookup n = some c) →
      ∃ cl, (forIn ns acc f : Sem (List (Str × Addr))) = pure cl ∧ (∀ n c, cl.lookup n = some c → env.cells.lookup n = some c) ∧ (∀ n c, acc.lookup n = some c → (cl.lookup n).isSome = true) ∧ ∀ y ∈ ns, y.2 = .free → (cl.lookup y.1).isSome = true
  | [], acc, _, ha => ⟨acc, by simp, ha, fun n c e => by rw [e]; rfl, fun y hy => nomatch hy⟩
  | (n, k) :: ns, acc, hn, ha => by
    by_cases hk : k = NameKind.free
    · subst hk
      obtain ⟨c, hc⟩ := hn (n, .free) List.mem_cons_self rfl
      have ha' : ∀ m d, ((n, c) :: acc).lookup m = some d → env.cells.lookup m = some d := fun m d e => by
        rw [List.lookup_cons] at e
        split at e
        · rename_i hb
          have : m = n := beq_iff_eq.mp hb
          subst this
          rw [← Option.some.inj e]; exact hc
        · exact ha m d e
      obtain ⟨cl, e, p1, p2, p3⟩ := clos_go h1 h2 ns ((n, c) :: acc) (fun y hy => hn y (List.mem_cons_of_mem _ hy)) ha'
      have hnn : (cl.lookup n).isSome = true := p2 n c (by simp [List.lookup_cons])
      refine ⟨cl, ?_, p1, fun m d em => ?_, fun y hy hf => ?_⟩
      · rw [List.forIn_cons, h2 n acc c hc, pure_bind]; exact e
      · by_cases hm : m = n
        · subst hm; exact hnn
        · exact p2 m d (by rw [List.lookup_cons, show (m == n) = false from beq_eq_false_iff_ne.mpr hm]; exact em)
      · rcases List.mem_cons.mp hy with rfl | hy
        · exact hnn
        · exact p3 y hy hf
    · obtain ⟨cl, e, p1, p2, p3⟩ := clos_go h1 h2 ns acc (fun y hy => hn y (List.mem_cons_of_mem _ hy)) ha
      refine ⟨cl, ?_, p1, p2, fun y hy hf => ?_⟩
      · rw [List.forIn_cons, h1 n k acc hk, pure_bind]; exact e
      · rcases List.mem_cons.mp hy with rfl | hy
        · exact absurd hf hk
        · exact p3 y hy hf
theorem clos_some {scope : Scope} {env : Env} (h : ∀ y ∈ scope.names, y.2 = .free → ∃ c, env.cells.lookup y.1 = some c) :
    ∃ cl, closureFor scope env = pure cl ∧ (∀ n c, cl.lookup n = some c → env.cells.lookup n = some c) ∧ ∀ y ∈ scope.names, y.2 = .free → (cl.lookup y.1).isSome = true := by
  unfold closureFor
  obtain ⟨cl, e, p1, _, p3⟩ := clos_go (env := env) (f := fun x r => match x with | (name, kind) => if (kind == NameKind.free) = true then do let a ← cellOf env name; pure (.yield ((name, a) :: r)) else pure (.yield r))
    (fun n k r hk => by
      have : (k == NameKind.free) = false := beq_eq_false_iff_ne.mpr hk
      simp only [this, Bool.false_eq_true, if_false])
    (fun n r c hc => by
      simp only [beq_self_eq_true, if_true]
      unfold cellOf
      rw [hc]
      rw [pure_bind])
    scope.names [] h (fun n c e => by simp at e)
  refine ⟨cl, ?_, p1, p3⟩
  have e' := congrArg (fun z : Sem (List (Str × Addr)) => z >>= fun cs => pure cs) e
  simp only [pure_bind] at e'
  exact e'

def compCx (X : Cx) (x : Str) (M : List Str) (scope : Scope) (cl : List (Str × Addr)) (C : Addr) (s : Shared) (H : Hp) (fp : List Addr) : Cx :=
  { X with N := x :: M, s₀ := s, H₀ := H, env := compEnvC scope cl C X.env, outer := X.stack, ex := fp, fn := fun _ => false, pn := [], xe := fun _ _ => False }

/-- D: the new list; W: turn, measure, the items so far, the heap -/
def CompGoal (J : It) (te : TE) (σ : St) (D : Addr) (H1 : Hp) (Q : VK) : Prop := ∃ W : Nat → Nat → List V → Hp → Prop, (∃ m, W 0 m [] (upd H1 D (.lst []))) ∧ ∀ i m ys H2, W i m ys H2 →
  H2 D = some (.lst ys) ∧ ((J.stop i H2 ∧ Q (.ref D) H2) ∨ (J.go i H2 ∧ ys.length < sizeLine ∧ ∀ x H3, J.yld i H2 x H3 → te (some x :: σ) H3 fun y H4 => H4 D = some (.lst ys) ∧ ∃ m', m' < m ∧ W (i + 1) m' (ys ++ [y]) (upd H4 D (.lst (ys ++ [y])))))
def tComp (wi : TI) (te : TE) : TE := fun σ H Q => wi σ H fun J H1 => ∀ D, H1 D = none → CompGoal J te σ D H1 Q

section
variable {X : Cx} {pins : List (Addr × Obj)} {σ : St} {H : Hp} {s : Shared} {elt iter : Expr} {x : Str} {px pos : Pos} {scope : Scope} {wi : TI} {te : TE} {Q : VK} {M : List Str}

theorem comp_ok {cl : List (Str × Addr)} {C : Addr} {fp : List Addr} (S : CompScope scope X.env.scope x X.N M) (I : Inv X pins σ H s) (hC : s.heap.objs.size ≤ C) (p1 : ∀ n c, cl.lookup n = some c → X.env.cells.lookup n = some c)
    (p3 : ∀ y ∈ scope.names, y.2 = .free → (cl.lookup y.1).isSome = true) (f2 : ∀ b ∈ fp, FpOk X pins H b) (fo : ∀ b ∈ fp, b < s.heap.objs.size) : (compCx X x M scope cl C s H fp).Ok where
  mod := I.ok.mod
  kind := S.kind
  glob := I.ok.glob
  blt := I.ok.blt
  above := hC
  inj := fun y z c h1 h2 => I.ok.inj y z c (p1 y c h1) (p1 z c h2)
  has := fun y hy => by
    have hy' : (relabelS scope X.env.scope).names.lookup y = some .cell ∨ (relabelS scope X.env.scope).names.lookup y = some .free := hy
    have hm : (y, NameKind.free) ∈ scope.names := by
      rcases hy' with z | z
      · exact (S.mem z (.inl rfl)).2.1
      · exact (S.mem z (.inr rfl)).2.1
    exact Option.isSome_iff_exists.mp (p3 _ hm rfl)
  cab := fun y c h => absurd h Bool.false_ne_true
  hd := I.ok.hd
  frames := I.ok.frames
  stk := .inl rfl
  exf := fun b hb => ⟨Nat.ne_of_lt (Nat.lt_of_lt_of_le (fo b hb) hC), fun y c e => (f2 b hb).2.2.2.2.1 y c (p1 y c e)⟩
  bs := I.bs
  bsz := Nat.le_trans I.ok.bsz I.sz
  noex := fun b o e hb => by
    rcases (f2 b hb).2.2.2.1 with z | z
    · exact I.ok.noex b o e z
    · exact absurd (Nat.lt_of_lt_of_le (Heap.lt_size (I.ok.bs b o e).1) z) (Nat.lt_irrefl _)
  exfs := fun b hb z => by
    rcases List.mem_cons.mp (I.stkSub b z) with e | e
    · exact (f2 b hb).2.1 e
    · exact (f2 b hb).2.2.1 e
  funs := I.stack
  frf := I.stkFree

theorem comp_inv {cl : List (Str × Addr)} {C D : Addr} {fp : List Addr} {h₁ : Heap} {tk : Nat} {m : Str → Option Value} (S : CompScope scope X.env.scope x X.N M) (I : Inv X pins σ H s) (hC : s.heap.objs.size ≤ C) (hD : s.heap.objs.size ≤ D) (hDC : D ≠ C)
    (p1 : ∀ n c, cl.lookup n = some c → X.env.cells.lookup n = some c)
    (p3 : ∀ y ∈ scope.names, y.2 = .free → (cl.lookup y.1).isSome = true) (f2 : ∀ b ∈ fp, FpOk X pins H b) (fo : ∀ b ∈ fp, b < s.heap.objs.size)
    (old : ∀ b o, s.heap.get? b = some o → h₁.get? b = some o) (hn : h₁.Ns C m) (hl : h₁.get? D = some { cls := .type "list", data := .seq ([] : List Value).toArray }) :
    Inv (compCx X x M scope cl C s H fp) [] (none :: σ) (upd H D (.lst [])) { s with heap := h₁, toks := tk } := by
  have cellK : ∀ c v, s.heap.IsCell c v → h₁.IsCell c v := fun c v ⟨o, e, d⟩ => ⟨o, old c o e, d⟩
  refine ⟨comp_ok S I hC p1 p3 f2 fo, rfl, I.bare, Un.laid old hD (I.hok.fresh hD), ⟨m, hn, fun i n v h1 h2 h3 => ?_⟩, fun y c e => ?_, ?_, fun y c e => ?_, fun p hp => absurd (show p ∈ ([] : List (Addr × Obj)) from hp) (by simp), I.hok.laid old hD ⟨Nat.zero_le _, [], 0, .nil, hl⟩, ?_⟩
  · cases i with
    | zero =>
      have h2' : (none : Option V) = some v := by simpa using h2
      cases h2'
    | succ i =>
      have h0' : M[i]? = some n := by simpa [compCx] using h1
      have h2' : σ[i]? = some (some v) := by simpa using h2
      have h3' : (relabelS scope X.env.scope).names.lookup n = some .local ∨ (relabelS scope X.env.scope).names.lookup n = some .cell ∨ (relabelS scope X.env.scope).names.lookup n = some .free := h3
      have hcell : (relabelS scope X.env.scope).names.lookup n = some .cell ∧ (n, NameKind.free) ∈ scope.names ∧ X.env.scope.names.lookup n = some .cell := by
        rcases h3' with z | z | z
        · exact absurd z (S.nl n (List.mem_of_getElem? h0'))
        · exact ⟨z, (S.mem z (.inl rfl)).2⟩
        · exact absurd (S.mem z (.inr rfl)).1 (by decide)
      have h1' : X.N[i]? = some n := by
        have hi : i < X.N.length := by rw [← S.len]; exact (List.getElem?_eq_some_iff.mp h0').1
        rcases S.rel i hi with z | z
        · rw [← z]; exact h0'
        · rw [h0'] at z
          have e : n = Str.empty := Option.some.inj z
          rw [e, S.em] at hcell
          cases hcell.1
      obtain ⟨m0, hn0, hl0⟩ := I.loc
      obtain ⟨u, r, l⟩ := hl0 i n v h1' h2' (.inr (.inl hcell.2.2))
      refine ⟨u, r, .inr ⟨.inl hcell.1, ?_⟩⟩
      obtain ⟨c, hc⟩ := Option.isSome_iff_exists.mp (p3 _ hcell.2.1 rfl)
      refine ⟨c, hc, ?_⟩
      rcases l with ⟨k, _⟩ | ⟨_, c', hc', z⟩
      · have k' : X.env.scope.names.lookup n = some .local := k
        rw [hcell.2.2] at k'; cases k'
      · rw [p1 n c hc] at hc'
        cases hc'
        exact cellK c _ z
  · obtain ⟨v, z⟩ := I.cell y c (p1 y c e)
    exact ⟨v, cellK c v z⟩
  · show (upd H D (.lst [])) C = none
    rw [upd_ne (Ne.symm hDC)]
    exact I.hok.fresh hC
  · obtain ⟨v, z⟩ := I.cell y c (p1 y c e)
    rw [upd_ne (Nat.ne_of_lt (Nat.lt_of_lt_of_le z.lt hD))]
    exact I.freeC y c (p1 y c e)
  · show (none :: σ).length = (x :: M).length
    rw [List.length_cons, List.length_cons, I.len, S.len]

theorem comp_core {cl : List (Str × Addr)} {RR : Value → Addr → Result → Shared → Prop} (S : CompScope scope X.env.scope x X.N M) (hc : X.calm = true) (hi : PI X (.Name x px) iter wi)
    (he : ∀ cl C s H fp, PE (compCx X x M scope cl C s H fp) elt te) (I : Inv X pins σ H s) (h : tComp wi te σ H Q)
    (p1 : ∀ n c, cl.lookup n = some c → X.env.cells.lookup n = some c) (p3 : ∀ y ∈ scope.names, y.2 = .free → (cl.lookup y.1).isSome = true)
    (hRR : ∀ D C H' s' o m, Inv X (pins ++ [(C, o)]) σ H' s' → s'.heap.get? C = some o → s'.heap.Ns C m → X.s₀.heap.objs.size ≤ C → (∀ y c, X.env.cells.lookup y = some c → c ≠ C) → (∀ p ∈ X.pn ++ pins, p.1 ≠ C) → Q (.ref D) H' → RR (.ref D) C (.ok .next) s') :
    wpAny (model X.prog X.w) X.A (eval iter X.env) (fun xv s₁ => wpAny (model X.prog X.w) X.A (pyIter xv) (fun it s₂ => wpAny (model X.prog X.w) X.A (newList []) (fun acc s₃ =>
      wpAny (model X.prog X.w) X.A (newFunctionEnv scope X.env.globals cl [] X.env.qual none .none (some X.env)) (fun cenv s₄ =>
        codeAny (model X.prog X.w) X.A (.compStart (.ListComp elt [⟨.Name x px, iter, [], 0⟩] scope pos) 0 it acc { cenv with scope := relabel scope X.env }) (RR acc cenv.locals) s₄) X.xe s₃) X.xe s₂) X.xe s₁) X.xe s := by
  refine thn (hi pins s σ H _ I h) fun v s1 h1 => thn h1 fun itv s2 h2 => ?_
  obtain ⟨it, fp, tn, J, H2, rfl, I2, T, st2, f2, q⟩ := h2
  refine wpAny_newObj_type (wpAny_newFunctionEnv S.nocell (by intro y hy; simp at hy) (fun h₁ hns₁ hsb₁ => ?_) S.kind)
  dsimp only at hns₁ hsb₁ ⊢
  generalize hHH : s2.heap.push { cls := .type "list", dict := none, data := .seq ([] : List Value).toArray } = HH at hns₁ hsb₁ ⊢
  have hCs : HH.objs.size = s2.heap.objs.size + 1 := by rw [← hHH, Heap.size_push]
  have hDC : s2.heap.objs.size ≠ HH.objs.size := by rw [hCs]; exact Nat.ne_of_lt (Nat.lt_succ_self _)
  have hCle : s2.heap.objs.size ≤ HH.objs.size := by rw [hCs]; exact Nat.le_succ _
  have below : ∀ b, b < s2.heap.objs.size → b ≠ HH.objs.size := fun b hb => by rw [hCs]; exact Nat.ne_of_lt (Nat.lt_succ_of_lt hb)
  have old : ∀ b o, s2.heap.get? b = some o → h₁.get? b = some o := fun b o e => hsb₁.extBut b o (below b (Heap.lt_size e)) (Heap.get?_push_of_some _ (hHH ▸ Heap.get?_push_of_some _ e))
  have hacc : h₁.get? s2.heap.objs.size = some { cls := .type "list", data := .seq ([] : List Value).toArray } := hsb₁.extBut _ _ hDC (Heap.get?_push_of_some _ (hHH ▸ Heap.get?_push_size _ rfl))
  have fo : ∀ b ∈ fp, b < s2.heap.objs.size := fun b hb => by
    obtain ⟨o, e, _⟩ := T.obj _ _ st2 b hb
    exact Heap.lt_size e
  have IY := comp_inv (tk := s2.toks + ([] : List (Str × Value)).length) S I2 hCle (Nat.le_refl _) hDC p1 p3 f2 fo old hns₁ hacc
  have st1 : tn 0 h₁ := T.keep _ _ _ st2 fun b _ o e => old b o e
  obtain ⟨W, ⟨m0, w0⟩, turn⟩ := q _ (I2.hok.fresh (Nat.le_refl _))
  generalize hC : HH.objs.size = C at *
  generalize hDD : s2.heap.objs.size = D at *
  have ndY : (compCx X x M scope cl C s2 H2 fp).N.Nodup := by
    refine List.nodup_cons.mpr ⟨fun hm => S.nl x hm (lookup_relabel_local S.hx), S.ndM⟩
  have stat : ∀ {H' : Hp}, (∀ b ∈ fp, H' b = none) → ∀ b ∈ fp, FpOk (compCx X x M scope cl C s2 H2 fp) [] H' b := fun hn b hb =>
    ⟨hn b hb, below b (fo b hb), IY.ok.exfs b hb, .inl hb, fun y c e => (f2 b hb).2.2.2.2.1 y c (p1 y c e), fun p hp => absurd (show p ∈ ([] : List (Addr × Obj)) from hp) (by simp)⟩
  have loop : codeAny (model X.prog X.w) X.A (.compLoop (.ListComp elt [⟨.Name x px, iter, [], 0⟩] scope pos) 0 (.ref it) (.ref D) (compEnvC scope cl C X.env)) (RR (.ref D) C) { s2 with heap := h₁, toks := s2.toks + ([] : List (Str × Value)).length } := by
    refine codeAny_compLoop_tests (fun n s' => ∃ i v0 ys H', Inv (compCx X x M scope cl C s2 H2 fp) [] (v0 :: σ) H' s' ∧ tn i s'.heap ∧ (∀ b ∈ fp, H' b = none) ∧ W i n ys H') ?_ m0 ⟨0, none, [], _, IY, st1, fun b hb => ?_, w0⟩
    · rintro n s3 ⟨i, v0, ys, H3, I3, st3, fr3, w3⟩
      obtain ⟨hDl, hw⟩ := turn i n ys H3 w3
      rcases hw with ⟨stop, qn⟩ | ⟨go, hsz, step⟩
      · refine thn (T.done (compCx X x M scope cl C s2 H2 fp) rfl rfl rfl hc i [] s3 _ H3 _ I3 (stat fr3) st3 stop) fun r s4 ⟨hr, I4⟩ => ?_
        subst hr
        obtain ⟨m4, hn4, _⟩ := I4.loc
        obtain ⟨oC, es4, ep4, e4, r4⟩ := id hn4
        have hCs2 : s2.heap.objs.size ≤ C := by rw [hDD]; exact hCle
        have IX : Inv X pins σ H3 s4 := I2.call' (ch := fp) I4.os I4.base I4.hok I4.bare fun b hb => ⟨(f2 b hb).2.2.2.1, (f2 b hb).2.1, (f2 b hb).2.2.2.2.1, (f2 b hb).2.2.2.2.2⟩
        have fC := I2.fpOk (H' := H3) hCs2 I4.free
        have IX2 : Inv X (pins ++ [(C, oC)]) σ H3 s4 := IX.pins_of fun p hp => (List.mem_append.mp hp).elim (fun z => IX.pin p (List.mem_append_right _ z)) fun z => by
          have e : p = (C, oC) := by simpa using z
          subst e
          exact ⟨e4, fC.1, fC.2.1, fC.2.2.1, fun v z => by rw [r4.1] at z; cases z⟩
        exact hRR D C H3 s4 oC m4 IX2 e4 hn4 (Nat.le_trans I2.sz hCs2) fC.2.2.2.2.1 fC.2.2.2.2.2 qn
      · refine thn (T.item (compCx X x M scope cl C s2 H2 fp) rfl rfl rfl hc i [] s3 _ H3 _ I3 (stat fr3) st3 go) fun r s4 ⟨u, hr, h4⟩ => ?_
        subst hr
        have e0 : ∀ k : Sem Unit, (letOwnedTupleGo (.Name x px) (.ref it) u >>= fun _ => k) = k := fun k => by
          rw [show letOwnedTupleGo (.Name x px) (.ref it) u = pure () from rfl, pure_bind]
        show wpAny _ _ (assign (.Name x px) (compEnvC scope cl C X.env) u) _ _ s4
        rw [← e0 (assign (.Name x px) (compEnvC scope cl C X.env) u)]
        refine wpAny_bind (thn h4 fun _ s5 ⟨xv, H5, I5, r5, y5, st5, fr5⟩ => ?_)
        have I5' := I5.pinned (stat fr5) (T.obj _ _ st5)
        have hxl : (compCx X x M scope cl C s2 H2 fp).env.scope.names.lookup x = some .local := lookup_relabel_local S.hx
        refine wpAny_assign_Name (store_ok (X := compCx X x M scope cl C s2 H2 fp) (i := 0) I5' ndY rfl (Or.inl hxl) r5 (fun s6 I6 => ?_) (.inr hxl))
        refine wpAny_tests_nil ?_
        rw [if_pos rfl]
        refine wpAny_mono (he cl C s2 H2 fp _ s6 _ H5 _ I6 (step xv H5 y5)) (fun y s7 ⟨yv, H7, I7, r7, hD7, m', hm', w7⟩ => ?_) (fun _ _ f => f.elim)
        refine wpAny_mono (mt_append (X := compCx X x M scope cl C s2 H2 fp) _ s7 _ H7 (.ref D) [yv] (.ref D) [y] (fun _ H8 => H8 = upd H7 D (.lst (ys ++ [yv]))) I7 rfl (.cons r7 .nil) ⟨D, ys, yv, rfl, rfl, hD7, hsz, rfl⟩)
          (fun _ s8 ⟨_, H8, I8, _, e8⟩ => ?_) (fun _ _ f => f.elim)
        subst e8
        refine ⟨m', hm', i + 1, some xv, ys ++ [yv], _, I8.unpinned, T.keep _ _ _ st5 fun b hb o e => (I8.pin (b, o) (List.mem_append_right _ (List.mem_append_right _ (mem_pinsAt hb e)))).1, fun b hb => ?_, w7⟩
        obtain ⟨o, e, d⟩ := T.obj _ _ st5 b hb
        exact (I8.pin (b, o) (List.mem_append_right _ (List.mem_append_right _ (mem_pinsAt hb e)))).2.1
    · show (upd H2 D (.lst [])) b = none
      rw [upd_ne (Nat.ne_of_lt (fo b hb))]
      exact (f2 b hb).1
  exact codeAny_compStart_list loop (T.self _ 0 _ _ _ st1 loop)
theorem pe_comp (S : CompScope scope X.env.scope x X.N M) (hc : X.calm = true) (hi : PI X (.Name x px) iter wi) (he : ∀ cl C s H fp, PE (compCx X x M scope cl C s H fp) elt te)
    (hs : ∀ x, foldedSetIterable iter X.env x = pure x := by intro _; rfl) : PE X (.ListComp elt [⟨.Name x px, iter, [], 0⟩] scope pos) (tComp wi te) := by
  intro pins s σ H Q I h
  obtain ⟨cl, hclos, p1, p3⟩ := clos_some (scope := scope) (env := X.env) (fun y hy hf => I.ok.has y.1 (.inl (S.free y hy hf)))
  rw [eval_ListComp]
  refine wpAny_comprehension_free (use := none) rfl hs hclos S.kind S.names (comp_core (RR := fun acc C => compPost (model X.prog X.w) X.A X.xe none (EP X pins σ Q) acc C) S hc hi he I h p1 p3 ?_)
  intro D C H' s' o m I' e hn h0 h1 h2 q
  refine ⟨m, hn, fun h' hs' => ?_⟩
  have pC := I'.pin (C, o) (List.mem_append_right _ (List.mem_append_right _ (by simp)))
  have IX : Inv X pins σ H' s' := I'.unpinned
  exact ⟨.ref D, H', IX.turned (t' := s'.toks) (fun b ob hb e => (hs'.2 b hb).trans e) pC.2.1 pC.2.2.1 (.inr h0) h1 h2, rfl, q⟩
theorem ps_setComp {i : Nat} {y : Str} {py spos : Pos} (S : CompScope scope X.env.scope x X.N M) (hc : X.calm = true) (hj : X.N[i]? = some y) (hy : Loc X.env.scope y) (hi : PI X (.Name x px) iter wi) (he : ∀ cl C s H fp, PE (compCx X x M scope cl C s H fp) elt te)
    (hsw : swapsWith (.ListComp elt [⟨.Name x px, iter, [], 0⟩] scope pos) (some (.Name y py)) spos.line X.env = pure true := by rfl)
    (hf : X.fn y = true ∨ X.env.scope.names.lookup y = some .local := by first | exact .inl rfl | exact .inr rfl | assumption)
    (hs : ∀ x, foldedSetIterable iter X.env x = pure x := by intro _; rfl) : PS X (.Assign [.Name y py] (.ListComp elt [⟨.Name x px, iter, [], 0⟩] scope pos) spos) (tAsg (tComp wi te) (gName i)) := by
  intro pins s σ H D I h
  obtain ⟨cl, hclos, p1, p3⟩ := clos_some (scope := scope) (env := X.env) (fun y hy hf => I.ok.has y.1 (.inl (S.free y hy hf)))
  rw [exec_Assign_Name_used _ _ _ _ hsw]
  refine wpAny_bind (wpAny_standAt (wpAny_bind ?_))
  show wpAny _ _ (do let _ ← comprehension (.ListComp elt [⟨.Name x px, iter, [], 0⟩] scope pos) scope X.env _ (newList []) false (eval iter X.env) (some (assign (.Name y py) X.env))) _ _ s
  refine wpAny_bind (wpAny_mono (wpAny_comprehension_free (use := some (assign (.Name y py) X.env)) (Q := fun _ s' => SP X pins D .next s') rfl hs hclos S.kind S.names
    (comp_core (RR := fun acc C => compPost (model X.prog X.w) X.A X.xe (some (assign (.Name y py) X.env)) (fun _ s' => SP X pins D .next s') acc C) S hc hi he I h p1 p3 ?_)) (fun _ s' hq => wpAny_pure (wpAny_pure hq)) fun _ _ e => e)
  intro Dd C H' s' o m I' e hn h0 h1 h2 q
  show wpAny _ _ (assign (.Name y py) X.env (.ref Dd)) _ _ s'
  refine wpAny_assign_Name (store_ok I' S.nd hj hy (v := .ref Dd) rfl (fun s'' I'' => ?_) hf)
  have pC := I''.pin (C, o) (List.mem_append_right _ (List.mem_append_right _ (by simp)))
  obtain ⟨o', es, ep, e0, r⟩ := hn
  rw [e] at e0
  cases e0
  have IX : Inv X pins _ H' s'' := I''.unpinned
  refine ⟨m, ⟨o, es, ep, pC.1, r⟩, fun h' hs' => ?_⟩
  exact ⟨_, H', IX.turned (t' := s''.toks) (fun b ob hb e => (hs'.2 b hb).trans e) pC.2.1 pC.2.2.1 (.inr h0) h1 h2, q⟩
/-- what a turn of a comprehension is to reach -/
def CompNext (D : Addr) (n : Nat) (Pv : Nat → List V → Hp → Prop) (i : Nat) (ys : List V) : VK := fun y H4 => H4 D = some (.lst ys) ∧ ∃ m', m' < n - i ∧ m' = n - (i + 1) ∧ i + 1 ≤ n ∧ Pv (i + 1) (ys ++ [y]) (upd H4 D (.lst (ys ++ [y])))
theorem CompNext.mk {D : Addr} {n : Nat} {Pv : Nat → List V → Hp → Prop} {i : Nat} {ys : List V} {y : V} {H4 : Hp} (hi : i < n) (h1 : H4 D = some (.lst ys)) (h2 : Pv (i + 1) (ys ++ [y]) (upd H4 D (.lst (ys ++ [y])))) : CompNext D n Pv i ys y H4 :=
  ⟨h1, n - (i + 1), by omega, rfl, hi, h2⟩
/-- over a list that stays -/
theorem comp_list {K : PySem.W.Frag} {a D : Addr} {xs : List V} {te : TE} {Q : VK} {σ : St} {H1 : Hp} (Pv : Nat → List V → Hp → Prop) (h0 : Pv 0 [] (upd H1 D (.lst []))) (hz : xs.length ≤ sizeLine)
    (hl : ∀ i ys H2, i ≤ xs.length → Pv i ys H2 → SqL K H2 a xs ∧ H2 D = some (.lst ys) ∧ ys.length = i)
    (hs : ∀ i x ys H2, xs[i]? = some x → Pv i ys H2 → te (some x :: σ) H2 (CompNext D xs.length Pv i ys)) (hd : ∀ ys H2, Pv xs.length ys H2 → Q (.ref D) H2) :
    CompGoal (Itl K a) te σ D H1 Q := by
  refine ⟨fun i m ys H => m = xs.length - i ∧ i ≤ xs.length ∧ Pv i ys H, ⟨xs.length, by simp, Nat.zero_le _, h0⟩, ?_⟩
  rintro i m ys H2 ⟨rfl, hi, p⟩
  obtain ⟨q, q2, q3⟩ := hl i ys H2 hi p
  refine ⟨q2, ?_⟩
  by_cases hlt : i < xs.length
  · refine .inr ⟨⟨xs, xs[i], q, by simp [hlt]⟩, by omega, fun x H3 y => ?_⟩
    obtain ⟨e, y⟩ := y
    subst e
    exact hs i x ys _ (y xs q) p
  · have e : i = xs.length := by omega
    subst e
    exact .inl ⟨⟨xs, q, Nat.le_refl _⟩, hd ys H2 p⟩
/-- over a range -/
theorem comp_range {lo : Int} {n : Nat} {D : Addr} {te : TE} {Q : VK} {σ : St} {H1 : Hp} (Pv : Nat → List V → Hp → Prop) (h0 : Pv 0 [] (upd H1 D (.lst []))) (hz : n ≤ sizeLine)
    (hl : ∀ i ys H2, i ≤ n → Pv i ys H2 → H2 D = some (.lst ys) ∧ ys.length = i)
    (hs : ∀ i ys H2, i < n → Pv i ys H2 → te (some (.int (lo + i)) :: σ) H2 (CompNext D n Pv i ys)) (hd : ∀ ys H2, Pv n ys H2 → Q (.ref D) H2) :
    CompGoal (Itr lo n) te σ D H1 Q := by
  refine ⟨fun i m ys H => m = n - i ∧ i ≤ n ∧ Pv i ys H, ⟨n, by simp, Nat.zero_le _, h0⟩, ?_⟩
  rintro i m ys H2 ⟨rfl, hi, p⟩
  obtain ⟨q2, q3⟩ := hl i ys H2 hi p
  refine ⟨q2, ?_⟩
  by_cases hlt : i < n
  · refine .inr ⟨hlt, by omega, fun x H3 y => ?_⟩
    obtain ⟨e, y⟩ := y
    subst e y
    exact hs i ys _ hlt p
  · have e : i = n := by omega
    subst e
    exact .inl ⟨Nat.le_refl _, hd ys H2 p⟩
end
end L2

namespace L2
open PySem PySem.Spec PyProof.Rows

/-! ### C() of a class without an __init__ of its own -/
structure MkN (K : PySem.W.Frag) (C : Addr) : Prop where
  makes : PySem.W.makesIn K C = true
  init : PySem.W.findIn K (.ref C) "__init__" = some (some (.builtin "object.__init__"))
  kp : PySem.W.keepIn K (.ref C) = true
def tMakeN (C : Addr) : TE := fun _ H Q => ∀ x dx, H x = none → H dx = none → dx ≠ x → Q (.ref x) (upd (upd H dx (.own x)) x (.ins C dx []))
section
variable {X : Cx} {C : Addr} {x : Str} {p pos : Pos}
theorem pe_makeN (M : MkN X.K C) (hg : Gl X x) (hm : X.mg x = some (.ref C)) (hdb : (x == ("__debug__" : Str)) = false := by decide) : PE X (.Call (.Name x p) [] [] pos) (tMakeN C) := by
  intro pins s σ H Q I h
  refine wpAny_Call_Name_kw (ld_glob I hg hm ?_ hdb)
  refine PySem.W.callWith_K0 I.kIn M.kp (wpAny_call ?_)
  have I2 := Inv.made (C := C) I
  have q := h (s.heap.objs.size + 1) s.heap.objs.size (I.hok.fresh (Nat.le_succ _)) (I.hok.fresh (Nat.le_refl _)) (Nat.ne_of_lt (Nat.lt_succ_self _))
  have fin : EP X pins σ Q (.ref (s.heap.objs.size + 1)) { s with heap := (s.heap.push PySem.W.emptyDict).push (PySem.W.instObj C s.heap.objs.size) } := ⟨.ref _, _, I2, rfl, q⟩
  have X1 := I.kIn
  have e2 : ((s.heap.push PySem.W.emptyDict).push (PySem.W.instObj C s.heap.objs.size)).get? (s.heap.objs.size + 1) = some (PySem.W.instObj C s.heap.objs.size) := by
    have := Heap.get?_push_size (s.heap.push PySem.W.emptyDict) (o := PySem.W.instObj C s.heap.objs.size) rfl
    rwa [Heap.size_push] at this
  clear I2 q h I
  obtain ⟨hh, g, d, t, os⟩ := s
  have Y := PySem.W.makes_of (M := model X.prog X.w) X1 M.makes
  refine PySem.W.make_core Y (PySem.W.looks_findIn X1 M.init) (fun self => PySem.W.Looks.of_pure (PySem.W.oi_bind self)) (.inr ⟨rfl, rfl⟩) ?_
  have t1 : PySem.W.Looks (model X.prog X.w) ((hh.push PySem.W.emptyDict).push (PySem.W.instObj C hh.objs.size)) (typeOf (.ref (hh.objs.size + 1))) (.ref C) := (PySem.W.Looks.ld e2).andThen .now
  have t2 : PySem.W.Looks (model X.prog X.w) ((hh.push PySem.W.emptyDict).push (PySem.W.instObj C hh.objs.size)) (isInstance (.ref (hh.objs.size + 1)) (.type "object")) true := t1.andThen (Y.top.keeps fun b o e => Heap.get?_push_of_some _ (Heap.get?_push_of_some _ e))
  refine codeAny_call_builtin PySem.W.oi_plain PySem.W.entry_oi (@PySem.W.check_slot (model X.prog X.w) _ _ _ "object.__init__" "object" "__init__" (.ref (hh.objs.size + 1)) [] [] _ PySem.W.oi_kind PySem.W.oi_split t2 (PySem.W.oi_args (.ref (hh.objs.size + 1))) ?_)
  show wpAny _ _ (Builtin.«object.__init__» ⟨[.ref (hh.objs.size + 1)], []⟩) _ _ _
  rw [PySem.W.oi_run]
  exact wpAny_pure (And.intro rfl fin)
end

/-! ### an item of a module's dict with texts as keys -/
structure TabK (P : Params) (K : PySem.W.Frag) (a : Addr) : Prop where
  ex : ∃ es n, K.lookup a = some ⟨.type "dict", none, .dict es n, #[]⟩ ∧ PySem.W.KeysLit P es.toList
section
variable {X : Cx}
theorem ix_tab : IxR X (fun x y H Q => ∃ a z v u, x = .ref a ∧ y = .str z ∧ TabK X.w.params X.K a ∧ PySem.W.nsIn X.K a z = some (some u) ∧ RelV v u ∧ Q v H) := by
  intro value slice pins s σ H x y v u Q I rx ry h hs
  obtain ⟨a, z, w', u', rfl, rfl, ⟨es, n, hl, hk⟩, e, r, q⟩ := h
  cases rx
  obtain ⟨t, rfl⟩ := ry
  have hm := PySem.W.mapOf_K (prog := X.prog) I.kIn hl hk
  exact tail_any hm.typeIs slot_dict_getitem.lookup (wpAny_getItem_of (strKind_is X.prog X.w z t) hm (PySem.W.find_K hl e) ⟨w', H, I.tok _, r, q⟩) hs
end

/-! ### range(a, b, c), c positive -/
def Itr3 (lo c : Int) (n : Nat) : It := ⟨fun i _ => i < n, fun i H x H' => H' = H ∧ x = .int (lo + i * c), fun i _ => n ≤ i⟩
theorem turn_range3 {P : Program} {w : World} {K : PySem.W.Frag} {tg : Expr} (it : Addr) (lo c : Int) (n : Nat) : Turn P w K tg (Itr3 lo c n) [it] it (fun i h => IsRangeIter h it (lo + (i : Nat) * c) ((n : Int) - (i : Nat)) c) where
  mem := by simp
  obj := fun i h st b hb => by
    have e : b = it := by simpa using hb
    subst e
    exact ⟨_, st, fun v z => by
      have z' : Data.fields _ = Data.cell v := z
      cases z'⟩
  keep := fun i h h' st k => k it (by simp) _ st
  item := by
    intro X hP hw hK hc i pins s σ H E I hf st hg
    subst hP hw hK
    obtain ⟨f0, f1, f2, f3, f4, f5⟩ := hf it (by simp)
    have W := Walks.range (prog := X.prog) (w := X.w) (I.ok.hd hc) it lo c n
    refine W.item i s _ _ hg st fun v h' tk hv st' kk => ?_
    obtain ⟨t, rfl⟩ := hv
    have I1 : Inv X pins σ H { s with heap := h', toks := tk } := I.turned (fun b o hb e => kk b o (by simpa using hb) e) f0 f1 f3 f4 f5
    exact ⟨_, rfl, go_of (s := { s with heap := h', toks := tk }) (n := "range_iterator") st' rfl rfl (by decide) ⟨.int (lo + i * c), H, I1, ⟨t, rfl⟩, ⟨rfl, rfl⟩, st', fun b hb => (hf b hb).1⟩⟩
  done := by
    intro X hP hw hK hc i pins s σ H E I hf st hg
    subst hP hw hK
    obtain ⟨f0, f1, f2, f3, f4, f5⟩ := hf it (by simp)
    exact wpAny_pyNext_range_end (I.ok.hd hc) st (by have : n ≤ i := hg; omega) fun h' eb => ⟨rfl, I.turned (t' := s.toks) (fun b o hb e => eb b o hb e) f0 f1 f3 f4 f5⟩
  self := fun _ _ _ _ _ st h => wpAny_pyIter_rangeiter st h
section
variable {X : Cx} {tg : Expr}
theorem range3_it {pins : List (Addr × Obj)} {σ : St} {H : Hp} {s : Shared} {R : It → Hp → Prop} {E : Value → Shared → Prop} {lo hi c : Int} {t u v : Tok} {tk : Nat} (I : Inv X pins σ H s) (hs : Builtin.Range.small lo hi c = true) (h0 : 0 ≤ Builtin.Range.rangeSize lo hi c)
    (q : R (Itr3 lo c (Builtin.Range.rangeSize lo hi c).toNat) H) : wpAny (model X.prog X.w) X.A (pyIter (.ref s.heap.objs.size)) (PIE X pins σ tg R) E { s with heap := s.heap.push { cls := .type "range", data := .fields #[.int lo t, .int hi u, .int c v] }, toks := tk } := by
  refine wpAny_pyIter_range (IsRange.new ..) hs ?_
  have I1 : Inv X pins σ H { s with heap := s.heap.push { cls := .type "range", data := .fields #[.int lo t, .int hi u, .int c v] }, toks := tk } := I.kept fun b o e => Heap.get?_push_of_some _ e
  refine ⟨(s.heap.push { cls := .type "range", data := .fields #[.int lo t, .int hi u, .int c v] }).objs.size, [(s.heap.push { cls := .type "range", data := .fields #[.int lo t, .int hi u, .int c v] }).objs.size], _, _, H, rfl,
    I1.kept (t' := tk) fun b o e => Heap.get?_push_of_some _ e, turn_range3 _ lo c (Builtin.Range.rangeSize lo hi c).toNat, ?_, fun b hb => ?_, q⟩
  · have e1 : lo + ((0 : Nat) : Int) * c = lo := by simp
    have e2 : (((Builtin.Range.rangeSize lo hi c).toNat : Nat) : Int) - ((0 : Nat) : Int) = Builtin.Range.rangeSize lo hi c := by omega
    show IsRangeIter _ _ (lo + ((0 : Nat) : Int) * c) ((((Builtin.Range.rangeSize lo hi c).toNat : Nat) : Int) - ((0 : Nat) : Int)) c
    rw [e1, e2]
    exact Heap.get?_push_size _ rfl
  · have e : b = (s.heap.push { cls := .type "range", data := .fields #[.int lo t, .int hi u, .int c v] }).objs.size := by simpa using hb
    subst e
    exact I1.fpOk (Nat.le_refl _) (I1.hok.fresh (Nat.le_refl _))
def iRng3 (ta : TA) : TI := fun σ H R => ta σ H fun vs H1 => ∃ i j c : Int, vs = [.int i, .int j, .int c] ∧ (c ≠ 0 ∧ c.natAbs < 1073741824) ∧ Builtin.Range.small i j c = true ∧ 0 ≤ Builtin.Range.rangeSize i j c ∧ R (Itr3 i c (Builtin.Range.rangeSize i j c).toNat) H1
theorem pi_range3 {a b d : Expr} {ta : TA} {p pos : Pos} (hg : Gl X "range") (hm : X.mg "range" = none) (ha : PA X [a, b, d] ta) (hs : starEach [a, b, d] X.env = (false, eval a X.env) :: starEach [b, d] X.env := by rfl) (hpl : (backTo pos (starEach [b, d] X.env)).any (·.1) = false := by rfl) :
    PI X tg (.Call (.Name "range" p) [a, b, d] [] pos) (iRng3 ta) := by
  intro pins s σ H R I h
  refine Call_ (ld_blt I hg hm bt_range (PyProof.Rows.callWith_type1 (thn (ha pos pins s σ H _ I h) fun us s1 ⟨vs, H1, I1, r1, q1⟩ => ?_) hs hpl))
  obtain ⟨i, j, c, e, ⟨c1, c2⟩, q2, q3, q⟩ := q1
  subst e
  cases r1 with
  | cons r rr =>
    cases rr with
    | cons r' rr =>
      cases rr with
      | cons r'' rr =>
        cases rr
        obtain ⟨t, rfl⟩ := r
        obtain ⟨t', rfl⟩ := r'
        obtain ⟨t'', rfl⟩ := r''
        exact call_range_3 c1 (range3_it I1 q2 q3 q) (Or.inl (PyProof.noPylong_small c2))
theorem for_range3 {lo c : Int} {n : Nat} {g : TG} {tb : TS} {D : Ends} {σ : St} {H : Hp} (Pv : Nat → St → Hp → Prop) (h0 : Pv 0 σ H)
    (hs : ∀ i σ H, i < n → Pv i σ H → g (.int (lo + i * c)) σ H fun σ2 H2 => tb { D with nx := Pv (i + 1), ct := Pv (i + 1), bk := D.nx } σ2 H2) (hd : ∀ σ H, Pv n σ H → D.nx σ H) :
    ∃ W : Nat → Nat → St → Hp → Prop, (∃ m, W 0 m σ H) ∧ ∀ i m σ H, W i m σ H →
      ((Itr3 lo c n).stop i H ∧ D.nx σ H) ∨ ((Itr3 lo c n).go i H ∧ ∃ N : St → Hp → Prop, (∀ σ' H', N σ' H' → ∃ m', m' < m ∧ W (i + 1) m' σ' H') ∧ ∀ x H', (Itr3 lo c n).yld i H x H' → g x σ H' fun σ2 H2 => tb { D with nx := N, ct := N, bk := D.nx } σ2 H2) := by
  refine ⟨fun i m σ H => m = n - i ∧ i ≤ n ∧ Pv i σ H, ⟨n, by simp, Nat.zero_le _, h0⟩, ?_⟩
  rintro i m σ H ⟨rfl, hi, p⟩
  by_cases hlt : i < n
  · refine .inr ⟨hlt, Pv (i + 1), fun σ' H' p' => ⟨n - (i + 1), by omega, rfl, hlt, p'⟩, fun x H' y => ?_⟩
    obtain ⟨e, y⟩ := y
    subst e y
    exact hs i σ _ hlt p
  · have e : i = n := by omega
    subst e
    exact .inl ⟨Nat.le_refl _, hd σ H p⟩
end

/-! ### a list of truths as data -/
theorem dvs_bls (K : PySem.W.Frag) (H : Hp) : ∀ bs : List Bool, DVs K H (bs.map PyData.bool) (bs.map V.bl)
  | [] => by unfold DVs; rfl
  | b :: bs => by
    show DVs K H (PyData.bool b :: bs.map PyData.bool) _
    unfold DVs
    exact ⟨_, _, rfl, by unfold DV; rfl, dvs_bls K H bs⟩
theorem dv_bls {K : PySem.W.Frag} {H : Hp} {a : Addr} {bs : List Bool} (h : SqL K H a (bs.map V.bl)) : DV K H (.list (bs.map PyData.bool)) (.ref a) := by
  unfold DV
  exact ⟨a, _, rfl, h, dvs_bls K H bs⟩
theorem eqvAll_bls : ∀ vs ws : List Bool, PyData.eqvAll (vs.map PyData.bool) (ws.map PyData.bool) = decide (vs = ws)
  | [], [] => by simp [PyData.eqvAll]
  | [], _ :: _ => by simp [PyData.eqvAll]
  | _ :: _, [] => by simp [PyData.eqvAll]
  | a :: r, b :: t => by
    simp only [List.map_cons, PyData.eqvAll, PyData.eqv, eqvAll_bls r t]
    by_cases h : a = b <;> by_cases h' : r = t <;> simp [h, h']
theorem canLay_bls : ∀ ws : List Bool, PyData.canLayAll0 (ws.map PyData.bool) = true
  | [] => by simp [PyData.canLayAll0]
  | w :: ws => by
    simp only [List.map_cons, PyData.canLayAll0, PyData.canLay0, Bool.and_eq_true]
    exact ⟨trivial, canLay_bls ws⟩
theorem depth_bls : ∀ ws : List Bool, PyData.depthAll (ws.map PyData.bool) ≤ 1
  | [] => by simp [PyData.depthAll]
  | w :: ws => by
    have := depth_bls ws
    simp only [List.map_cons, PyData.depthAll, PyData.depth]
    omega
theorem shaped_bls (ws : List Bool) : SeqAt.shaped (.list (ws.map PyData.bool)) = true := by
  have h1 := depth_bls ws
  have h2 : PyData.depth (.list (ws.map PyData.bool)) ≤ 64 := by simp only [PyData.depth]; omega
  show (PyData.canLay0 (.list (ws.map PyData.bool)) && decide (PyData.depth (.list (ws.map PyData.bool)) ≤ 64)) = true
  rw [Bool.and_eq_true]
  exact ⟨by simp only [PyData.canLay0]; exact canLay_bls ws, decide_eq_true h2⟩
theorem eqv_bls (ws : List Bool) : PyData.eqv (.list (ws.map PyData.bool)) (.list (ws.map PyData.bool)) = true := by
  show PyData.eqvAll _ _ = true
  rw [eqvAll_bls]; exact decide_eq_true rfl
theorem eqv_strs (ws : List Str) : PyData.eqv (.list (ws.map PyData.str)) (.list (ws.map PyData.str)) = true := by
  show PyData.eqvAll _ _ = true
  rw [eqvAll_strs]; exact decide_eq_true rfl
end L2

namespace L2
open PySem PySem.Spec PyProof.Rows

/-! ### any, all of a list of truths -/
theorem any_get (bs : List Bool) : (List.range bs.length).any (fun i => bs.getD i false) = bs.any id := by
  have e : (List.range bs.length).map (fun i => bs.getD i false) = bs := by
    apply List.ext_getElem
    · simp
    · intro i h1 h2; simp [h2]
  calc _ = ((List.range bs.length).map (fun i => bs.getD i false)).any id := by rw [List.any_map]; rfl
    _ = _ := by rw [e]
theorem all_get (bs : List Bool) : (List.range bs.length).all (fun i => bs.getD i false) = bs.all id := by
  have e : (List.range bs.length).map (fun i => bs.getD i false) = bs := by
    apply List.ext_getElem
    · simp
    · intro i h1 h2; simp [h2]
  calc _ = ((List.range bs.length).map (fun i => bs.getD i false)).all id := by rw [List.all_map]; rfl
    _ = _ := by rw [e]
theorem vals_bls : ∀ {bs : List Bool} {us : List Value}, Vals (bs.map V.bl) us → us = bs.map Value.bool
  | [], _, .nil => rfl
  | b :: bs, _, .cons r t => by
    cases r
    rw [vals_bls t]; rfl
section
variable {X : Cx}
theorem call_any (hc : X.calm = true) : CallR X (.builtin "any") (fun xs H Q => ∃ (p : Addr) (bs : List Bool), xs = [.ref p] ∧ SqL X.K H p (bs.map V.bl) ∧ Q (.bl (bs.any id)) H) := by
  intro pins s σ H xs us Q I r h
  obtain ⟨p, bs, rfl, hq, q⟩ := h
  obtain ⟨u, rfl, rx⟩ := vals1 r
  cases rx
  obtain ⟨its, rv, pl, hz⟩ := I.list hq
  obtain rfl := vals_bls rv
  refine call_any_walk (wpAny_pyIter_list pl.isList ?_)
  obtain ⟨o, n, e, _⟩ := id pl
  have hlt : p < s.heap.objs.size := Heap.lt_size e
  refine ⟨s.heap.objs.size, _, _, _, _, _, fun i => bs.getD i false, rfl, Walks.list (A := X.A.in1) (show X.A.in1.handled = none from I.ok.hd hc) s.heap.objs.size p (Nat.ne_of_lt hlt) (bs.map Value.bool).toArray, ⟨⟨_, Heap.get?_push_size _ rfl, rfl, rfl⟩, pl.isList.at fun o e => Heap.get?_push_of_some _ e⟩, ?_, fun h' tk kk => ?_⟩
  · intro i v s' Q' E' hv q'
    have hv' : v = Value.bool (bs.getD i false) := by
      have h2 : (bs.map Value.bool)[i]? = some v := by simpa using hv
      rw [List.getElem?_map] at h2
      cases hb : bs[i]? with
      | none => rw [hb] at h2; cases h2
      | some b =>
        rw [hb] at h2
        rw [List.getD_eq_getElem?_getD, hb]
        exact (Option.some.inj h2).symm
    rw [hv']
    exact wpAny_truthy_bool q'
  · have I1 : Inv X pins σ H { s with heap := h', toks := tk } := I.kept fun b o e => kk b o (by simp; exact Nat.ne_of_lt (Heap.lt_size e)) (Heap.get?_push_of_some _ e)
    refine ⟨.bl _, H, I1, rfl, ?_⟩
    have e1 : (bs.map Value.bool).toArray.size = bs.length := by simp
    rw [e1, any_get]
    exact q
theorem call_all (hc : X.calm = true) : CallR X (.builtin "all") (fun xs H Q => ∃ (p : Addr) (bs : List Bool), xs = [.ref p] ∧ SqL X.K H p (bs.map V.bl) ∧ Q (.bl (bs.all id)) H) := by
  intro pins s σ H xs us Q I r h
  obtain ⟨p, bs, rfl, hq, q⟩ := h
  obtain ⟨u, rfl, rx⟩ := vals1 r
  cases rx
  obtain ⟨its, rv, pl, hz⟩ := I.list hq
  obtain rfl := vals_bls rv
  refine call_all_walk (wpAny_pyIter_list pl.isList ?_)
  obtain ⟨o, n, e, _⟩ := id pl
  have hlt : p < s.heap.objs.size := Heap.lt_size e
  refine ⟨s.heap.objs.size, _, _, _, _, _, fun i => bs.getD i false, rfl, Walks.list (A := X.A.in1) (show X.A.in1.handled = none from I.ok.hd hc) s.heap.objs.size p (Nat.ne_of_lt hlt) (bs.map Value.bool).toArray, ⟨⟨_, Heap.get?_push_size _ rfl, rfl, rfl⟩, pl.isList.at fun o e => Heap.get?_push_of_some _ e⟩, ?_, fun h' tk kk => ?_⟩
  · intro i v s' Q' E' hv q'
    have hv' : v = Value.bool (bs.getD i false) := by
      have h2 : (bs.map Value.bool)[i]? = some v := by simpa using hv
      rw [List.getElem?_map] at h2
      cases hb : bs[i]? with
      | none => rw [hb] at h2; cases h2
      | some b =>
        rw [hb] at h2
        rw [List.getD_eq_getElem?_getD, hb]
        exact (Option.some.inj h2).symm
    rw [hv']
    exact wpAny_truthy_bool q'
  · have I1 : Inv X pins σ H { s with heap := h', toks := tk } := I.kept fun b o e => kk b o (by simp; exact Nat.ne_of_lt (Heap.lt_size e)) (Heap.get?_push_of_some _ e)
    refine ⟨.bl _, H, I1, rfl, ?_⟩
    have e1 : (bs.map Value.bool).toArray.size = bs.length := by simp
    rw [e1, all_get]
    exact q
end

/-! ### isinstance, at a named table of kinds (within a comprehension the context is bound) -/
theorem call_isiK {X : Cx} {K : PySem.W.Frag} (e : X.K = K) : CallR X (.builtin "isinstance") (fun xs H Q => ∃ x c t b, xs = [x, c] ∧ isC c = true ∧ TyOf K H x t ∧ PySem.W.kitOne K t (clsV c) = some b ∧ Q (.bl b) H) := by
  subst e
  exact call_isi
end L2

namespace L2
open PySem PySem.Spec PyProof.Rows

/-! ### an exception that flies: its object, its newest entry of the way it came -/
def XMark (X : Cx) (pins : List (Addr × Obj)) (H : Hp) (h : Heap) (e : Addr) (vs : Array Value) : Option Value → Prop
  | none => vs[1]? = some .none
  | some m => ∃ (T : Addr) (oT : Obj) (ts : Array Value), vs[1]? = some (.ref T) ∧ T ≠ e ∧ FpOk X pins H T ∧ h.get? T = some oT ∧ oT.data = .fields ts ∧ ts[3]? = some m
/-- at e: an exception of the class cls, its own dict at xd (if any), marked m -/
structure XAt (X : Cx) (pins : List (Addr × Obj)) (H : Hp) (h : Heap) (e : Addr) (cls : Value) (xd : Option Addr) (m : Option Value) : Prop where
  ok : FpOk X pins H e
  ex : ∃ (sl : Array (Option Value)) (vs : Array Value), h.get? e = some ⟨cls, xd, .fields vs, sl⟩ ∧ 1 < vs.size ∧ XMark X pins H h e vs m
def MOk (_ : Cx) (m : Option Value) : Prop := m = none ∨ m = some .none ∨ ∃ v, m = some v
/-- an exception has left an expression: the names are as they were -/
def XP (X : Cx) (pins : List (Addr × Obj)) (σ : St) (E : XK) (e : Value) (s' : Shared) : Prop :=
  ∃ (ea : Addr) (cls : Value) (xd : Option Addr) (m : Option Value) (H' : Hp), e = .ref ea ∧ Inv X pins σ H' s' ∧ XAt X pins H' s'.heap ea cls xd m ∧ MOk X m ∧ E cls xd H'
abbrev SXK := St → XK
/-- .. a statement: some names may have been stored -/
def XPS (X : Cx) (pins : List (Addr × Obj)) (E : SXK) (e : Value) (s' : Shared) : Prop := ∃ σ', XP X pins σ' (E σ') e s'
/-- the frame of a def's body -/
structure Fr1 (X : Cx) : Prop where
  stk : X.stack = X.env :: X.outer
  fr : X.env.frame = some X.env.locals

section
variable {X : Cx} {pins : List (Addr × Obj)} {σ : St} {H H' : Hp} {s : Shared} {e : Addr} {cls : Value} {xd : Option Addr} {m : Option Value}
theorem FpOk.nstk {b : Addr} (I : Inv X pins σ H s) (f : FpOk X pins H' b) : b ∉ frs X.stack := fun z => by
  rcases List.mem_cons.mp (I.stkSub b z) with q | q
  · exact f.2.1 q
  · exact f.2.2.1 q
theorem FpOk.drop {pl : List (Addr × Obj)} {b : Addr} (f : FpOk X (pins ++ pl) H b) : FpOk X pins H b :=
  ⟨f.1, f.2.1, f.2.2.1, f.2.2.2.1, f.2.2.2.2.1, fun p hp => f.2.2.2.2.2 p ((List.mem_append.mp hp).elim (fun z => List.mem_append_left _ z) fun z => List.mem_append_right _ (List.mem_append_left _ z))⟩
theorem FpOk.clear {b : Addr} (f : FpOk X pins H b) : FpOk X [] H b :=
  ⟨f.1, f.2.1, f.2.2.1, f.2.2.2.1, f.2.2.2.2.1, fun p hp => f.2.2.2.2.2 p ((List.mem_append.mp hp).elim (fun z => List.mem_append_left _ z) fun z => nomatch z)⟩
theorem XAt.drop {pl : List (Addr × Obj)} {h : Heap} (x : XAt X (pins ++ pl) H h e cls xd m) : XAt X pins H h e cls xd m := by
  obtain ⟨ok, sl, vs, he, hz, hm⟩ := x
  refine ⟨ok.drop, sl, vs, he, hz, ?_⟩
  cases m with
  | none => exact hm
  | some m => obtain ⟨T, oT, ts, a, b, c, d⟩ := hm; exact ⟨T, oT, ts, a, b, c.drop, d⟩
theorem XAt.clear {h : Heap} (x : XAt X pins H h e cls xd m) : XAt X [] H h e cls xd m := by
  obtain ⟨ok, sl, vs, he, hz, hm⟩ := x
  refine ⟨ok.clear, sl, vs, he, hz, ?_⟩
  cases m with
  | none => exact hm
  | some m => obtain ⟨T, oT, ts, a, b, c, d⟩ := hm; exact ⟨T, oT, ts, a, b, c.clear, d⟩
theorem XP.drop {pl : List (Addr × Obj)} {E : XK} {v : Value} (x : XP X (pins ++ pl) σ E v s) : XP X pins σ E v s := by
  obtain ⟨ea, cls, xd, m, H', rfl, I, hx, hm, q⟩ := x
  exact ⟨ea, cls, xd, m, H', rfl, I.unpinned, hx.drop, hm, q⟩
theorem Inv.nopins (I : Inv X pins σ H s) : Inv X [] σ H s := I.pins_of fun p hp => nomatch hp

/-- what is tracked is kept where only the frames' slots, one record and new objects differ -/
theorem rec_un {h' : Heap} (I : Inv X pins σ H s) (he : FpOk X pins H e) (k1 : ∀ b o, b ∉ frs X.stack → b ≠ e → s.heap.get? b = some o → h'.get? b = some o)
    (k2 : ∀ b o, b ≠ e → s.heap.get? b = some o → ∃ sl, h'.get? b = some { o with slots := sl }) : Un (frs X.stack) [e] H H s.heap h' ∧ HOk X.prog X.w H h' := by
  refine ⟨⟨fun b o q _ hb hx => k1 b o hb (by simpa using hx) q, fun b o q _ _ hx => k2 b o (by simpa using hx) q, fun b o _ n _ => n, fun b o q hx => ?_, fun _ _ q => q, fun _ _ _ q => q, fun _ ps q => ⟨#[], by rw [q]; simp⟩⟩, fun a o q => ?_⟩
  · obtain ⟨sl, z⟩ := k2 b o (by simpa using hx) q
    exact ⟨_, z⟩
  · refine (I.hok a o q).stay (fun b u hb r => k1 b u (fun z => ?_) (fun z => ?_) r) (fun _ z => z) (fun _ _ z => z)
    · have n := I.stkFree b z
      rcases hb with rfl | hb
      · rw [q] at n; cases n
      · rw [hb] at n; cases n
    · have n := he.1
      rw [← z] at n
      rcases hb with rfl | hb
      · rw [q] at n; cases n
      · rw [hb] at n; cases n
theorem rec_inv {h' : Heap} (I : Inv X pins σ H s) (he : FpOk X pins H e) (k1 : ∀ b o, b ∉ frs X.stack → b ≠ e → s.heap.get? b = some o → h'.get? b = some o)
    (k2 : ∀ b o, b ≠ e → s.heap.get? b = some o → ∃ sl, h'.get? b = some { o with slots := sl }) : Inv X pins σ H { s with heap := h' } := by
  obtain ⟨u, ok⟩ := rec_un I he k1 k2
  refine I.call (g' := s.gens) (t' := s.toks) (d' := s.drawn) u ok I.bare fun b hb => ?_
  obtain rfl : b = e := by simpa using hb
  exact ⟨he.2.2.2.1, he.2.1, he.2.2.2.2.1, he.2.2.2.2.2⟩

/-- the entry of this frame is written -/
theorem entry_x {M : Model} {A : Around} {E : Value → Shared → Prop} {head : Value} {hadNext : Bool} {sl : Array (Option Value)} {vs : Array Value} {Q : Unit → Shared → Prop} (F : Fr1 X) (hA : A.frames = some X.stack) (I : Inv X pins σ H s) (ok : FpOk X pins H e)
    (he : s.heap.get? e = some ⟨cls, xd, .fields vs, sl⟩) (hz : 1 < vs.size) (h : ∀ s', Inv X pins σ H s' → XAt X pins H s'.heap e cls xd (some (rawInt X.env.locals)) → Q () s') :
    wpAny M A (do let a ← frameOf X.env; let pl ← entryPlaceOf X.env.locals hadNext; let b ← EntryCells.newEntry head a .none (rawInt X.env.locals) .none pl; setField (.ref e) 1 b) Q E s := by
  have nE : e ∉ frs X.stack := ok.nstk I
  have fs := I.stack
  rw [F.stk] at hA fs nE
  refine wpAny_bind (wpAny_frameOf_fun hA fs F.fr fun h₁ so => ?_)
  refine wpAny_bind (wpAny_entryPlaceOf fun pl hpl => ?_)
  unfold EntryCells.newEntry newFields
  refine wpAny_bind (wpAny_newObj_type ?_ (hpl.sizeOk5 _ _ _ _ _))
  generalize ht : ([head, .ref X.env.locals, .none, rawInt X.env.locals, .none] ++ (if pl.isEmpty then List.replicate 6 Value.none else pl)).toArray = ts
  have t3 : ts[3]? = some (rawInt X.env.locals) := by rw [← ht]; simp
  have e1 : h₁.get? e = some ⟨cls, xd, .fields vs, sl⟩ := (so.2.1 e nE).trans he
  have e2 := Heap.get?_push_of_some (h := h₁) { cls := .type "traceback", dict := none, data := .fields ts } e1
  refine wpAny_setField e2 rfl hz ?_
  have sz : h₁.objs.size = s.heap.objs.size := so.1
  have nT : h₁.objs.size ≠ e := Nat.ne_of_gt (Heap.lt_size e1)
  have k0 : ∀ b o, b ≠ e → h₁.get? b = some o → ((h₁.push { cls := .type "traceback", dict := none, data := .fields ts }).update e (Obj.mapFields (·.setIfInBounds 1 (Value.ref h₁.objs.size)))).get? b = some o := fun b o hb q =>
    (Heap.get?_update_other _ _ (Ne.symm hb)).trans (Heap.get?_push_of_some _ q)
  have I' := rec_inv (h' := (h₁.push { cls := .type "traceback", dict := none, data := .fields ts }).update e (Obj.mapFields (·.setIfInBounds 1 (Value.ref h₁.objs.size)))) I ok
    (fun b o hb hbe q => k0 b o hbe ((so.2.1 b (by rw [← F.stk]; exact hb)).trans q)) (fun b o hbe q => by obtain ⟨sl, z⟩ := so.2.2 b o q; exact ⟨sl, k0 b _ hbe z⟩)
  have fT : FpOk X pins H h₁.objs.size := I.fpOk (by rw [sz]; exact Nat.le_refl _) (by rw [sz]; exact I.fresh)
  have gE : ((h₁.push { cls := .type "traceback", dict := none, data := .fields ts }).update e (Obj.mapFields (·.setIfInBounds 1 (Value.ref h₁.objs.size)))).get? e = some ⟨cls, xd, .fields (vs.setIfInBounds 1 (Value.ref h₁.objs.size)), sl⟩ :=
    Heap.get?_update_self (Obj.mapFields (·.setIfInBounds 1 (Value.ref h₁.objs.size))) e2 rfl
  have gT : ((h₁.push { cls := .type "traceback", dict := none, data := .fields ts }).update e (Obj.mapFields (·.setIfInBounds 1 (Value.ref h₁.objs.size)))).get? h₁.objs.size = some { cls := .type "traceback", dict := none, data := .fields ts } :=
    (Heap.get?_update_other _ _ (Ne.symm nT)).trans (Heap.get?_push_size h₁ rfl)
  exact h _ I' ⟨ok, sl, _, gE, by simpa using hz, h₁.objs.size, _, ts, by simp [hz], nT, fT, gT, rfl, t3⟩
/-- the mark of the newest entry is set -/
theorem flight_x {M : Model} {A : Around} {E : Value → Shared → Prop} {f : Option Addr} {mv : Value} {Q : Unit → Shared → Prop} (I : Inv X pins σ H s) (x : XAt X pins H s.heap e cls xd (some mv))
    (h : ∀ s', Inv X pins σ H s' → XAt X pins H s'.heap e cls xd (some (f.elim .none fun b => rawInt b)) → Q () s') : wpAny M A (setFlight (.ref e) f) Q E s := by
  obtain ⟨ok, sl, vs, he, hz, T, oT, ts, h1, nT, fT, hT, hd, h3⟩ := x
  unfold setFlight
  refine wpAny_bind (wpAny_field he rfl h1 ?_)
  rw [if_pos (show (Value.ref T != Value.none) = true by simp)]
  have z3 : 3 < ts.size := (Array.getElem?_eq_some_iff.mp h3).1
  refine wpAny_setField hT hd z3 ?_
  have other : ∀ b, b ≠ T → (s.heap.update T (Obj.mapFields (·.setIfInBounds 3 (f.elim Value.none fun b => rawInt b)))).get? b = s.heap.get? b := fun b hb => Heap.get?_update_other _ _ (Ne.symm hb)
  have I' := I.turned (t' := s.toks) (h' := s.heap.update T (Obj.mapFields (·.setIfInBounds 3 (f.elim Value.none fun b => rawInt b)))) (fun b o hb q => (other b hb).trans q) fT.1 fT.2.1 fT.2.2.2.1 fT.2.2.2.2.1 fT.2.2.2.2.2
  exact h _ I' ⟨ok, sl, vs, (other e (Ne.symm nT)).trans he, hz, T, _, _, h1, nT, fT, Heap.get?_update_self _ hT (Obj.isFreed_of_fields (Obj.data_mapFields hd _)), Obj.data_mapFields hd _, by simp [z3]⟩
/-- this frame is noted -/
theorem note_x {M : Model} {A : Around} {E : Value → Shared → Prop} {Q : Unit → Shared → Prop} (F : Fr1 X) (hA : A.frames = some X.stack) (I : Inv X pins σ H s) (x : XAt X pins H s.heap e cls xd m) (hm : MOk X m)
    (h : ∀ s', Inv X pins σ H s' → XAt X pins H s'.heap e cls xd (some (rawInt X.env.locals)) → Q () s') : wpAny M A (noteFrame (.ref e) X.env) Q E s := by
  obtain ⟨ok, sl, vs, he, hz, hv⟩ := x
  unfold noteFrame
  simp only [F.fr]
  cases m with
  | none =>
    refine wpAny_bind (wpAny_field he rfl hv ?_)
    rw [if_neg (by decide)]
    exact entry_x F hA I ok he hz h
  | some mv =>
    obtain ⟨T, oT, ts, h1, nT, fT, hT, hd, h3⟩ := hv
    refine wpAny_bind (wpAny_field he rfl h1 ?_)
    rw [if_pos (show (Value.ref T != Value.none) = true by simp)]
    refine wpAny_bind (wpAny_field hT hd h3 ?_)
    by_cases hmv : mv = rawInt X.env.locals
    · subst hmv
      rw [if_pos (show (rawInt X.env.locals == rawInt X.env.locals) = true by simp)]
      exact wpAny_pure (h s I ⟨ok, sl, vs, he, hz, T, oT, ts, h1, nT, fT, hT, hd, h3⟩)
    · rw [if_neg (show ¬ (mv == rawInt X.env.locals) = true from fun z => hmv (beq_iff_eq.mp z))]
      have z3 : 3 < ts.size := (Array.getElem?_eq_some_iff.mp h3).1
      refine wpAny_bind (wpAny_setField hT hd z3 ?_)
      have other : ∀ b, b ≠ T → (s.heap.update T (Obj.mapFields (·.setIfInBounds 3 Value.none))).get? b = s.heap.get? b := fun b hb => Heap.get?_update_other _ _ (Ne.symm hb)
      have I' := I.turned (t' := s.toks) (h' := s.heap.update T (Obj.mapFields (·.setIfInBounds 3 Value.none))) (fun b o hb q => (other b hb).trans q) fT.1 fT.2.1 fT.2.2.2.1 fT.2.2.2.2.1 fT.2.2.2.2.2
      exact entry_x F hA I' ok ((other e (Ne.symm nT)).trans he) hz h
/-- an exception passes a loop of its own frame -/
theorem passes_x {E : SXK} (F : Fr1 X) (fr : X.A.frames = some X.stack) : PassesOwn (model X.prog X.w) X.A X.env (XPS X pins E) := by
  rintro v s' ⟨σ', ea, cls, xd, m, H', rfl, I, hx, hm, q⟩
  refine note_x F fr I hx hm fun s1 I1 x1 => ?_
  unfold cameBackBy
  obtain ⟨ok, sl, vs, he, hz, T, oT, ts, h1, r⟩ := id x1
  refine wpAny_bind (wpAny_field he rfl h1 ?_)
  rw [if_neg (show ¬ ((Value.ref T == Value.none) = true) by simp)]
  have step : wpAny (model X.prog X.w) X.A (setFlight (.ref ea) X.env.frame) (fun _ s'' => XPS X pins E (.ref ea) s'') (XPS X pins E) s1 :=
    flight_x I1 x1 fun s2 I2 x2 => ⟨σ', ea, cls, xd, _, H', rfl, I2, x2, by rw [F.fr]; exact .inr (.inr ⟨_, rfl⟩), q⟩
  first
    | exact step
    | exact wpAny_bind (wpAny_pure step)
end

/-! ### how an exception lies behind a call -/
abbrev CXX (P : Program) (w : World) : CXT := fun outer H s E e s' => ∃ (ea T : Addr) (cls : Value) (xd : Option Addr) (H' : Hp), e = .ref ea ∧ s'.os = s.os ∧ AllBare s'.gens ∧ Un (frs outer) [] H H' s.heap s'.heap ∧ HOk P w H' s'.heap ∧
  (H' ea = none ∧ s.heap.objs.size ≤ ea) ∧ (H' T = none ∧ s.heap.objs.size ≤ T) ∧ T ≠ ea ∧
  (∃ (sl : Array (Option Value)) (vs : Array Value) (oT : Obj) (ts : Array Value), s'.heap.get? ea = some ⟨cls, xd, .fields vs, sl⟩ ∧ 1 < vs.size ∧ vs[1]? = some (.ref T) ∧ s'.heap.get? T = some oT ∧ oT.data = .fields ts ∧ ts[3]? = some .none) ∧ E cls xd H'
section
variable {X : Cx} {pins : List (Addr × Obj)} {σ : St} {H : Hp} {s s' : Shared}
theorem cxx_xp {E : XK} {e : Value} (I : Inv X pins σ H s) (h : CXX X.prog X.w X.stack H s E e s') : XP X pins σ E e s' := by
  obtain ⟨ea, T, cls, xd, H', rfl, os, bare, un, hok, ⟨e1, e2⟩, ⟨t1, t2⟩, ne, ⟨sl, vs, oT, ts, g1, g2, g3, g4, g5, g6⟩, q⟩ := h
  have I' : Inv X pins σ H' s' := I.call' (ch := []) os un hok bare fun b z => absurd z (by simp)
  exact ⟨ea, cls, xd, some .none, H', rfl, I', ⟨I.fpOk e2 e1, sl, vs, g1, g2, T, oT, ts, g3, ne, I.fpOk t2 t1, g4, g5, g6⟩, .inr (.inl rfl), q⟩
theorem passX0 : Passes (CXX X.prog X.w) X E0 := fun _ _ _ _ _ _ _ ⟨_, _, _, _, _, _, _, _, _, _, _, _, _, _, z⟩ => z.elim
end
section
variable {P : Program} {w : World} {K : PySem.W.Frag} {mg : Str → Option Value} {base : Heap} {k : Nat} {f : Addr} {fd : FuncData} {ps : List Str} {sp : Sp}
/-- a def that lets no exception out -/
theorem FnOk.calm (F : FnOk P w K mg base (CXX P w) k f fd ps sp) (h : ∀ vs H Q E, sp vs H Q E → sp vs H Q E0) : FnOk P w K mg base CX0 k f fd ps sp := by
  refine ⟨F.len, fun A outer s H args us vs Q E hr he hb hv hs => codeAny_mono (F.run A outer s H args us vs Q E0 hr he hb hv (h _ _ _ _ hs)) fun r s' q => ?_⟩
  cases r with
  | error e => obtain ⟨_, _, _, _, _, _, _, _, _, _, _, _, _, _, z⟩ := q; exact z.elim
  | ok fl => cases fl <;> exact q
theorem FnOk.wild (F : FnOk P w K mg base CX0 k f fd ps sp) : FnOk P w K mg base (CXX P w) k f fd ps sp := by
  refine ⟨F.len, fun A outer s H args us vs Q E hr he hb hv hs => codeAny_mono (F.run A outer s H args us vs Q E hr he hb hv hs) fun r s' q => ?_⟩
  cases r with
  | error e => exact q.elim
  | ok fl => cases fl <;> exact q
/-- an exception leaves a def's body -/
theorem leave_x {N : List Str} {qual : Str} {scope : Scope} {cd : Value} {A : Around} {outer : List Env} {s s' : Shared} {H : Hp} {E : XK} {e : Value} {pins : List (Addr × Obj)}
    (h : XPS (cxOf (CXX P w) P w K mg base N qual scope f cd A outer s H E) pins (fun _ => E) e s') : (cxOf (CXX P w) P w K mg base N qual scope f cd A outer s H E).xe e s' := by
  obtain ⟨σ', ea, cls, xd, m, H', rfl, I, hx, hm, q⟩ := h
  have fr : (cxOf (CXX P w) P w K mg base N qual scope f cd A outer s H E).A.frames = some (cxOf (CXX P w) P w K mg base N qual scope f cd A outer s H E).stack := I.ok.frames
  have F1 : Fr1 (cxOf (CXX P w) P w K mg base N qual scope f cd A outer s H E) := ⟨rfl, rfl⟩
  show wpAny _ _ (leaving (cxOf (CXX P w) P w K mg base N qual scope f cd A outer s H E).env (.ref ea)) _ _ s'
  unfold leaving
  refine wpAny_bind (note_x F1 fr I hx hm fun s1 I1 x1 => flight_x I1 x1 fun s2 I2 x2 => ?_)
  obtain ⟨ok, sl, vs, he, hz, T, oT, ts, h1, nT, fT, hT, hd, h3⟩ := x2
  have old : ∀ {b : Addr}, FpOk (cxOf (CXX P w) P w K mg base N qual scope f cd A outer s H E) pins H' b → s.heap.objs.size ≤ b := fun {b} z => by
    rcases z.2.2.2.1 with y | y
    · exact absurd (show b ∈ ([] : List Addr) from y) (by simp)
    · exact y
  exact ⟨ea, T, cls, xd, H', rfl, I2.os, I2.bare, I2.base, I2.hok, ⟨ok.1, old ok⟩, ⟨fT.1, old fT⟩, nT, ⟨sl, vs, oT, ts, he, hz, h1, hT, hd, h3⟩, q⟩
end

/-! ### the judgements with a wish about exceptions -/
abbrev TEX := St → Hp → VK → XK → Prop
abbrev TAX := St → Hp → (List V → Hp → Prop) → XK → Prop
abbrev TSX := Ends → SXK → St → Hp → Prop
def PEX (X : Cx) (e : Expr) (t : TEX) : Prop :=
  ∀ (pins : List (Addr × Obj)) (s : Shared) (σ : St) (H : Hp) (Q : VK) (E : XK), Inv X pins σ H s → t σ H Q E → wpAny (model X.prog X.w) X.A (eval e X.env) (EP X pins σ Q) (XP X pins σ E) s
def PAX (X : Cx) (es : List Expr) (t : TAX) : Prop :=
  ∀ (pos : Pos) (pins : List (Addr × Obj)) (s : Shared) (σ : St) (H : Hp) (Q : List V → Hp → Prop) (E : XK), Inv X pins σ H s → t σ H Q E → wpAny (model X.prog X.w) X.A (spliced (backTo pos (starEach es X.env))) (AP X pins σ Q) (XP X pins σ E) s
def PSX (X : Cx) (st : Stmt) (t : TSX) : Prop :=
  ∀ (pins : List (Addr × Obj)) (s : Shared) (σ : St) (H : Hp) (D : Ends) (E : SXK), Inv X pins σ H s → t D E σ H → wpAny (model X.prog X.w) X.A (exec st X.env) (SP X pins D) (XPS X pins E) s
def PSXs (X : Cx) (st : List Stmt) (t : TSX) : Prop :=
  ∀ (pins : List (Addr × Obj)) (s : Shared) (σ : St) (H : Hp) (D : Ends) (E : SXK), Inv X pins σ H s → t D E σ H → wpAny (model X.prog X.w) X.A (execs st X.env) (SP X pins D) (XPS X pins E) s
section
variable {X : Cx} {e : Expr} {es : List Expr} {st : Stmt} {sts : List Stmt} {te : TE} {ta : TA} {ts : TS} {pos : Pos}
theorem EP.unwish {pins : List (Addr × Obj)} {σ : St} {Q : VK} {u : Value} {s' : Shared} {W : Value → Shared → Prop} (h : EP (X.wish W) pins σ Q u s') : EP X pins σ Q u s' := by
  obtain ⟨v, H', I, r, q⟩ := h; exact ⟨v, H', I.unwish, r, q⟩
/-- what raises nothing -/
theorem px (h : PE X.nox e te) : PEX X e (fun σ H Q _ => te σ H Q) := fun pins s σ H Q _ I hw =>
  wpAny_mono (h pins s σ H Q (I.wish _) hw) (fun _ _ q => q.unwish) fun _ _ z => False.elim z
theorem pax (h : PA X.nox es ta) : PAX X es (fun σ H Q _ => ta σ H Q) := fun pos pins s σ H Q _ I hw =>
  wpAny_mono (h pos pins s σ H Q (I.wish _) hw) (fun _ _ ⟨vs, H', I', r, q⟩ => ⟨vs, H', I'.unwish, r, q⟩) fun _ _ z => False.elim z
theorem psx (h : PS X.nox st ts) : PSX X st (fun D _ σ H => ts D σ H) := fun pins s σ H D _ I hw =>
  wpAny_mono (h pins s σ H D (I.wish _) hw) (fun _ _ q => q.unwish) fun _ _ z => False.elim z
theorem psxs (h : PSs X.nox sts ts) : PSXs X sts (fun D _ σ H => ts D σ H) := fun pins s σ H D _ I hw =>
  wpAny_mono (h pins s σ H D (I.wish _) hw) (fun _ _ q => q.unwish) fun _ _ z => False.elim z
theorem pax_nil : PAX X [] (fun _ H Q _ => Q [] H) := fun _ _ _ _ H Q _ I h => Calls.spliced_nil ⟨[], H, I, .nil, h⟩
theorem pax_cons {t1 : TEX} {t2 : TAX} (ha : PEX X e t1) (hr : PAX X es t2) (hs : starEach (e :: es) X.env = (false, eval e X.env) :: starEach es X.env := by rfl) :
    PAX X (e :: es) (fun σ H Q E => t1 σ H (fun x H1 => t2 σ H1 (fun xs H2 => Q (x :: xs) H2) E) E) := by
  intro pos pins s σ H Q E I h
  rw [hs]
  refine Calls.spliced_cons (wpAny_mono (ha pins s σ H _ E I h) (fun u s1 ⟨x, H1, I1, r1, q1⟩ => ?_) fun _ _ z => z)
  exact wpAny_mono (hr pos pins s1 σ H1 _ E I1 q1) (fun us s2 ⟨xs, H2, I2, r2, q2⟩ => ⟨x :: xs, H2, I2, .cons r1 r2, q2⟩) fun _ _ z => z
/-! blocks -/
theorem psxs_nil : PSXs X [] (fun D _ σ H => D.nx σ H) := fun _ _ σ H _ _ I h => wpAny_execs_nil ⟨σ, H, I, h⟩
theorem psxs_cons {t1 t2 : TSX} (h1 : PSX X st t1) (h2 : PSXs X sts t2) : PSXs X (st :: sts) (fun D E σ H => t1 { D with nx := t2 D E } E σ H) := by
  intro pins s σ H D E I h
  refine wpAny_execs_cons (thn (h1 pins s σ H { D with nx := t2 D E } E I h) fun f s1 q => ?_)
  cases f with
  | next =>
    obtain ⟨σ', H', I', q⟩ := q
    exact h2 pins s1 σ' H' D E I' q
  | ret v => exact q
  | brk => exact q
  | cont => exact q
theorem psxs_one {t1 : TSX} (h1 : PSX X st t1) : PSXs X [st] t1 := by
  intro pins s σ H D E I h
  refine wpAny_execs_cons (thn (h1 pins s σ H D E I h) fun f s1 q => ?_)
  cases f with
  | next => exact wpAny_execs_nil q
  | ret v => exact q
  | brk => exact q
  | cont => exact q
theorem psx_if {c : Expr} {a b : List Stmt} {tc : TT} {t1 t2 : TSX} (hc : PT X.nox c tc) (ha : PSXs X a t1) (hb : PSXs X b t2) : PSX X (.If c a b pos) (fun D E σ H => tc σ H fun d H1 => if d = true then t1 D E σ H1 else t2 D E σ H1) := by
  intro pins s σ H D E I h
  refine wpAny_If (wpAny_mono (hc pins s σ H _ (I.wish _) h) (fun d s1 ⟨H1, I1, q1⟩ => ?_) fun _ _ z => False.elim z)
  cases d with
  | true => exact ha pins s1 σ H1 D E I1.unwish q1
  | false => exact hb pins s1 σ H1 D E I1.unwish q1
theorem psx_expr {t : TEX} (he : PEX X e t) (hs : swapsWith e none pos.line X.env = pure false := by rfl) : PSX X (.Expr e pos) (fun D E σ H => t σ H (fun _ H1 => D.nx σ H1) (E σ)) := by
  intro pins s σ H D E I h
  exact wpAny_Expr_any (wpAny_mono (he pins s σ H _ _ I h) (fun v s1 ⟨x, H1, I1, r1, q1⟩ => ⟨σ, H1, I1, q1⟩) fun _ _ z => ⟨σ, z⟩) I.quiet hs
theorem psx_ret {t : TEX} (he : PEX X e t) : PSX X (.Return (some e) pos) (fun D E σ H => t σ H D.rt (E σ)) := by
  intro pins s σ H D E I h
  exact wpAny_Return_some (wpAny_mono (he pins s σ H _ _ I h) (fun v s1 ⟨x, H1, I1, r1, q1⟩ => ⟨x, σ, H1, I1, r1, q1⟩) fun _ _ z => ⟨σ, z⟩)
theorem psx_set {i : Nat} {x : Str} {t : TEX} {pos' : Pos} (hN : X.N.Nodup) (hi : X.N[i]? = some x) (hx : Loc X.env.scope x) (he : PEX X e t) (hs : swapsWith e (some (.Name x pos')) pos.line X.env = pure false := by rfl) (hf : X.fn x = true ∨ X.env.scope.names.lookup x = some .local := by first | exact .inl rfl | exact .inr rfl | assumption) :
    PSX X (.Assign [.Name x pos'] e pos) (fun D E σ H => t σ H (fun v H1 => D.nx (σ.set i (some v)) H1) (E σ)) := by
  intro pins s σ H D E I h
  refine wpAny_Assign_Name (wpAny_mono (he pins s σ H _ _ I h) (fun v s1 ⟨y, H1, I1, r1, q1⟩ => ?_) fun _ _ z => ⟨σ, z⟩) hs
  exact store_ok I1 hN hi hx r1 (fun s2 I2 => ⟨_, H1, I2, q1⟩) hf
theorem psx_asg {tg : Expr} {t : TEX} {g : TG} (he : PEX X e t) (hg : PG X.nox tg g) (hs : swapsWithSole [tg] e pos.line X.env = pure false := by rfl) (hw : swappedStores [tg] e X.env = pure none := by rfl)
    (h1 : (assignEach [tg] X.env).map (·.2) = [assign tg X.env] := by rfl) : PSX X (.Assign [tg] e pos) (fun D E σ H => t σ H (fun v H1 => g v σ H1 D.nx) (E σ)) := by
  intro pins s σ H D E I h
  refine wpAny_Assign_stores (wpAny_mono (he pins s σ H _ _ I h) (fun v s1 ⟨x, H1, I1, r1, q1⟩ => ?_) fun _ _ z => ⟨σ, z⟩) hs hw
  rw [h1]
  exact wpAny_mono (hg pins s1 σ H1 x v _ (I1.wish _) r1 q1) (fun _ s2 ⟨σ', H', I', q⟩ => ⟨σ', H', I'.unwish, q⟩) fun _ _ z => False.elim z
end
/-! calls -/
section
variable {X : Cx} {k : Nat} {f C : Addr} {fd : FuncData} {ps : List Str} {sp : Sp} {x m : Str} {p pos apos : Pos} {e o : Expr} {es : List Expr} {t : TAX}
theorem run_fnX {pins : List (Addr × Obj)} {σ : St} {H : Hp} {s : Shared} {Q : VK} {E : XK} {us : List Value} {vs : List V} (F : FnOk X.prog X.w X.K X.mg X.base (CXX X.prog X.w) k f fd ps sp) (hr : Room k X.A) (hb : Binds X.K fd ps [])
    (I : Inv X pins σ H s) (r : Vals vs us) (h : sp vs H Q E) : wpAny (model X.prog X.w) X.A (call (.ref f) us) (EP X pins σ Q) (XP X pins σ E) s := by
  have hl : (us ++ []).length = ps.length := by rw [List.append_nil, ← r.length]; exact F.len _ _ _ _ h
  have b := hb s us I.kIn hl
  rw [List.append_nil] at b
  refine wpAny_call (codeAny_mono (F.run X.A X.stack s H ⟨us, []⟩ us vs Q E hr I.env0 b r h) fun r s' hq => ?_)
  cases r with
  | error e => exact cxx_xp I hq
  | ok fl =>
    cases fl with
    | ret u => exact I.after hq
    | next => exact False.elim hq
    | brk => exact False.elim hq
    | cont => exact False.elim hq
theorem pe_callX (F : FnOk X.prog X.w X.K X.mg X.base (CXX X.prog X.w) k f fd ps sp) (hr : Room k X.A) (hg : Gl X x) (hm : X.mg x = some (.ref f)) (hk : PySem.W.keepIn X.K (.ref f) = true) (hb : Binds X.K fd ps []) (ha : PAX X (e :: es) t)
    (hdb : (x == ("__debug__" : Str)) = false := by decide) (he : starEach (e :: es) X.env = (false, eval e X.env) :: starEach es X.env := by rfl) (hpl : (backTo pos (starEach es X.env)).any (·.1) = false := by rfl) :
    PEX X (.Call (.Name x p) (e :: es) [] pos) (fun σ H Q E => t σ H (fun vs H1 => sp vs H1 Q E) E) := by
  intro pins s σ H Q E I h
  refine wpAny_Call_Name_kw (ld_glob I hg hm ?_ hdb)
  exact PySem.W.callWith_K (h₀ := X.base) I.ok.mod.kin hk (thn (ha pos pins s σ H _ E I h) fun us s1 ⟨vs, H1, I1, r, q⟩ => ⟨I1.kIn, run_fnX F hr hb I1 r q⟩) he hpl
theorem pe_call0X (F : FnOk X.prog X.w X.K X.mg X.base (CXX X.prog X.w) k f fd ps sp) (hr : Room k X.A) (hg : Gl X x) (hm : X.mg x = some (.ref f)) (hk : PySem.W.keepIn X.K (.ref f) = true) (hb : Binds X.K fd ps [])
    (hdb : (x == ("__debug__" : Str)) = false := by decide) : PEX X (.Call (.Name x p) [] [] pos) (fun _ H Q E => sp [] H Q E) := by
  intro pins s σ H Q E I h
  refine wpAny_Call_Name_kw (ld_glob I hg hm ?_ hdb)
  exact PySem.W.callWith_K0 I.kIn hk (run_fnX F hr hb I .nil h)
theorem pe_methX {pl : Sem Bool} {ta : TEX} (he : PEX X o ta) (c : Cls X.K C) (hm : Meth X.K C m f) (F : FnOk X.prog X.w X.K X.mg X.base (CXX X.prog X.w) k f fd ps sp) (hr : Room k X.A) (hb : Binds X.K fd ps []) (ha : PAX X (e :: es) t)
    (hst : starEach (e :: es) X.env = (false, eval e X.env) :: starEach es X.env := by rfl) (hpl : (backTo pos (starEach es X.env)).any (·.1) = false := by rfl)
    (ht : eval (.Call (.Attribute o m apos) (e :: es) [] pos) X.env = (do
      let ov ← eval o X.env
      standAt apos.atName
      let (f, first) ← holding [ov] (getMethod ov m pl)
      callWith pos f first (backTo pos (starEach (e :: es) X.env)) (backToKw pos (keywordEach [] X.env))) := by rfl) :
    PEX X (.Call (.Attribute o m apos) (e :: es) [] pos) (fun σ H Q E => ta σ H (fun x H1 => ∃ a dx fs, x = .ref a ∧ H1 a = some (.ins C dx fs) ∧ fs.lookup m = none ∧ t σ H1 (fun vs H2 => sp (x :: vs) H2 Q E) E) E) := by
  intro pins s σ H Q E I h
  refine PySem.W.methodCall_KW (pl := pl) (thn (he pins s σ H _ E I h) fun u s1 ⟨x, H1, I1, rx, a, dx, fs, ex, ea, l, q⟩ => ?_) ht
  subst ex
  obtain rfl : u = Value.ref a := rx
  refine getmeth_ok I1 ea c hm l ?_
  exact PySem.W.callWith_K (first := [.ref a]) (h₀ := X.base) I.ok.mod.kin hm.kp (thn (ha pos pins s1 σ H1 _ E I1 q) fun us s2 ⟨vs, H2, I2, r, q2⟩ => ⟨I2.kIn, run_fnX (us := .ref a :: us) (vs := .ref a :: vs) F hr hb I2 (.cons rfl r) q2⟩) hst hpl
theorem pe_meth0X {pl : Sem Bool} {ta : TEX} (he : PEX X o ta) (c : Cls X.K C) (hm : Meth X.K C m f) (F : FnOk X.prog X.w X.K X.mg X.base (CXX X.prog X.w) k f fd ps sp) (hr : Room k X.A) (hb : Binds X.K fd ps [])
    (ht : eval (.Call (.Attribute o m apos) [] [] pos) X.env = (do
      let ov ← eval o X.env
      standAt apos.atName
      let (f, first) ← holding [ov] (getMethod ov m pl)
      callWith pos f first (backTo pos (starEach [] X.env)) (backToKw pos (keywordEach [] X.env))) := by rfl) :
    PEX X (.Call (.Attribute o m apos) [] [] pos) (fun σ H Q E => ta σ H (fun x H1 => ∃ a dx fs, x = .ref a ∧ H1 a = some (.ins C dx fs) ∧ fs.lookup m = none ∧ sp [x] H1 Q E) E) := by
  intro pins s σ H Q E I h
  refine PySem.W.methodCall_KW (pl := pl) (thn (he pins s σ H _ E I h) fun u s1 ⟨x, H1, I1, rx, a, dx, fs, ex, ea, l, q⟩ => ?_) ht
  subst ex
  obtain rfl : u = Value.ref a := rx
  refine getmeth_ok I1 ea c hm l ?_
  exact PySem.W.callWith_K0 (first := [.ref a]) I1.kIn hm.kp (run_fnX (us := [.ref a]) (vs := [.ref a]) F hr hb I1 (.cons rfl .nil) q)
end
/-! a def by its body -/
section
variable {P : Program} {w : World} {K : PySem.W.Frag} {mg : Str → Option Value} {base : Heap}
theorem Fun.okX {x qual : Str} {st : Stmt} {f : Addr} {fd : FuncData} {N ps : List Str} {k : Nat} {sp : Sp} (F : Fun K x qual st f fd) (S : FnScope N ps (defScope st)) (len : ∀ vs H Q E, sp vs H Q E → vs.length = ps.length)
    (hbody : ∀ (cdv : Value) (A : Around) (outer : List Env) (s : Shared) (H : Hp) (vs : List V) (Q : VK) (E : XK), Room k (A.deeper (envOfC qual (defScope st) s.heap.objs.size f cdv)) → sp vs H Q E →
      ∃ t, PSXs (cxOf (CXX P w) P w K mg base N qual (defScope st) f cdv A outer s H E) (defBody st) t ∧ t { nx := fun _ H' => Q .non H', rt := Q } (fun _ => E) (start N vs) H) : FnOk P w K mg base (CXX P w) (k + 1) f fd ps sp := by
  obtain ⟨oc, od, kV, doc, pm, an, cdv, ct, osl, rfl, lk, hcd⟩ := F.ex
  refine fn_of lk hcd S len fun A outer s H vs Q E hr hsp => ?_
  obtain ⟨t, h, q⟩ := hbody cdv A outer s H vs Q E hr hsp
  exact ⟨fun D σ H => t D (fun _ => E) σ H, fun pins s1 σ H1 D I hw => wpAny_mono (h pins s1 σ H1 D _ I hw) (fun _ _ z => z) fun _ _ z => leave_x z, q⟩
end
end L2

namespace L2
open PySem PySem.Spec PyProof.Rows

/-! ### a caught exception as a tracked thing -/
def xo (a : Addr) (cls : Value) (xd : Option Addr) : HO := .ext fun h => ∃ (sl : Array (Option Value)) (vs : Array Value), h.get? a = some ⟨cls, xd, .fields vs, sl⟩
/-- within an except suite -/
abbrev hcx (X : Cx) (e : Addr) : Cx := { X with A := X.A.mark (some (.ref e)), calm := false, xe := fun _ _ => False }
section
variable {X : Cx} {pins : List (Addr × Obj)} {σ : St} {H : Hp} {s : Shared} {e : Addr} {cls : Value} {xd : Option Addr} {m : Option Value}
theorem hcx_in (I : Inv X pins σ H s) (e : Addr) : Inv (hcx X e) pins σ H s :=
  ⟨⟨I.ok.mod, I.ok.kind, I.ok.glob, I.ok.blt, I.ok.above, I.ok.inj, I.ok.has, I.ok.cab, fun z => absurd (show false = true from z) Bool.false_ne_true, I.ok.frames, I.ok.stk, I.ok.exf, I.ok.bs, I.ok.bsz, I.ok.noex, I.ok.exfs, I.ok.funs, I.ok.frf⟩, I.os, I.bare, I.base, I.loc, I.cell, I.free, I.freeC, I.pin, I.hok, I.len⟩
theorem hcx_out (ok : X.Ok) (I : Inv (hcx X e) pins σ H s) : Inv X pins σ H s := ⟨ok, I.os, I.bare, I.base, I.loc, I.cell, I.free, I.freeC, I.pin, I.hok, I.len⟩
theorem track_x (I : Inv X pins σ H s) (x : XAt X pins H s.heap e cls xd m) : Inv X pins σ (upd H e (xo e cls xd)) s := by
  obtain ⟨ok, sl, vs, he, hz, _⟩ := x
  have nb : ∀ b u, H b = some u → b ≠ e := fun b u q z => by rw [z, ok.1] at q; cases q
  have hk : HOk X.prog X.w (upd H e (xo e cls xd)) s.heap := fun b u q => by
    by_cases hb : b = e
    · subst hb
      rw [upd_same] at q
      cases q
      exact ⟨⟨sl, vs, he⟩, ⟨_, he⟩, fun h1 h2 ⟨sl', vs', z⟩ k => ⟨sl', vs', k _ z⟩⟩
    · rw [upd_ne hb] at q
      exact (I.hok b u q).stay (fun c v _ r => r) (fun c r => by rw [upd_ne (nb c _ r)]; exact r) fun c xs r => by rw [upd_ne (nb c _ r)]; exact r
  exact I.step (g' := s.gens) (t' := s.toks) (d' := s.drawn) (h' := s.heap) (ch := [e]) (fun b hb => by
      obtain rfl : b = e := by simpa using hb
      exact ⟨ok.2.2.2.1, ok.2.1, ok.2.2.2.2.1, ok.2.2.2.2.2⟩)
    (fun _ _ _ _ _ q _ => q) (fun b o _ _ _ q _ => ⟨o.slots, q⟩) (fun b o hb _ n => by rw [upd_ne (by simpa using hb)]; exact n) (fun b o _ q => ⟨o, q⟩)
    (fun b xs q => by rw [upd_ne (nb b _ q)]; exact q) (fun b o u q => by rw [upd_ne (nb b _ q)]; exact q) (fun b ps q => ⟨#[], by rw [upd_ne (nb b _ q), q]; simp⟩) (fun _ q => q) hk I.bare
/-- a local name is set to None and goes -/
theorem goes_x {M : Model} {A : Around} {E : Value → Shared → Prop} {n : Str} {i : Nat} {pos : Pos} {Q : Unit → Shared → Prop} (I : Inv X pins σ H s) (hN : X.N.Nodup) (hi : X.N[i]? = some n) (hl : X.env.kindOf n = some .local)
    (h : ∀ s', Inv X pins (σ.set i none) H s' → Q () s') : wpAny M A (do bindName X.env n .none; unbindBehindTheSuite X.env n pos) Q E s := by
  obtain ⟨mm, hn, hloc⟩ := I.loc
  refine wpAny_nameGoes_keeps hl hn (by rw [I.ok.kind]; rfl) fun h' v hn' sb => h _ ?_
  have ol : ∃ o, s.heap.get? X.env.locals = some o ∧ H X.env.locals = none := by obtain ⟨o, _, _, ho, _⟩ := hn; exact ⟨o, ho, I.free⟩
  have keep : ∀ b o, b ≠ X.env.locals → s.heap.get? b = some o → h'.get? b = some o := fun b o hb q => (sb.2 b hb).trans q
  have below : ∀ {b : Addr} {o : Obj}, X.s₀.heap.get? b = some o → b ≠ X.env.locals := fun {b o} q => Nat.ne_of_lt (Nat.lt_of_lt_of_le (Heap.lt_size q) I.ok.above)
  refine ⟨I.ok, I.os, I.bare, ⟨fun b o q nn hb hx => keep b o (below q) (I.base.keep b o q nn hb hx), fun b o q nn hb hx => ?_, I.base.free, fun b o q hx => ?_, I.base.tups, I.base.frzs, I.base.tbls⟩, ⟨_, hn', fun j y w e1 e2 e3 => ?_⟩, fun y c ec => ?_, I.free, I.freeC, fun p hp => ?_, fun b u q => ?_, by rw [List.length_set]; exact I.len⟩
  · obtain ⟨sl, z⟩ := I.base.slot b o q nn hb hx
    exact ⟨sl, keep b _ (below q) z⟩
  · obtain ⟨o', z⟩ := I.base.there b o q hx
    exact ⟨o', keep b _ (below q) z⟩
  · have hj : j ≠ i := fun z => by
      subst z
      by_cases hlt : j < σ.length
      · rw [List.getElem?_set_self hlt] at e2; cases e2
      · rw [List.getElem?_eq_none_iff.mpr (by rw [List.length_set]; omega)] at e2; cases e2
    rw [List.getElem?_set_ne (Ne.symm hj)] at e2
    obtain ⟨u, r, q⟩ := hloc j y w e1 e2 e3
    refine ⟨u, r, ?_⟩
    rcases q with ⟨k, z⟩ | ⟨k, c, z, hc⟩
    · have : y ≠ n := fun z => hj (nodup_ix hN e1 (z ▸ hi))
      exact .inl ⟨k, by simp only [this, if_false]; exact z⟩
    · obtain ⟨o, ho, hd⟩ := hc
      exact .inr ⟨k, c, z, o, keep c o (I.cne y c z) ho, hd⟩
  · obtain ⟨v', o, ho, hd⟩ := I.cell y c ec
    exact ⟨v', o, keep c o (I.cne y c ec) ho, hd⟩
  · obtain ⟨a1, a2, a3, a4, a5⟩ := I.pin p hp
    exact ⟨keep p.1 p.2 a3 a1, a2, a3, a4, a5⟩
  · refine (I.hok b u q).stay (fun c v hc r => keep c v (fun z => ?_) r) (fun _ z => z) fun _ _ z => z
    have fr := I.free
    rw [← z] at fr
    rcases hc with rfl | hc
    · rw [q] at fr; cases fr
    · rw [hc] at fr; cases fr
end

/-! ### handlers -/
abbrev THX := Ends → SXK → St → XK
def PHX (X : Cx) (hs : List ExceptHandler) (t : THX) : Prop :=
  ∀ (pins : List (Addr × Obj)) (s : Shared) (σ : St) (H : Hp) (D : Ends) (E : SXK) (ea : Addr) (cls : Value) (xd : Option Addr), Inv X pins σ H s → XAt X pins H s.heap ea cls xd (some .none) → t D E σ cls xd H →
    wpAny (model X.prog X.w) X.A (handleBy (.ref ea) X.env hs) (SP X pins D) (XPS X pins E) s
section
variable {X : Cx} {x n : Str} {C : Addr} {np pos : Pos} {b₀ : Stmt} {suite : List Stmt} {rest : List ExceptHandler} {ts : TS} {tr : THX}
theorem phx_nil (F : Fr1 X) : PHX X [] (fun _ E σ cls xd H => E σ cls xd H) := by
  intro pins s σ H D E ea cls xd I hx h
  refine wpAny_handleBy_nil ?_
  unfold PySem.passOn
  obtain ⟨ok, sl, vs, he, hz, T, oT, ts, h1, r⟩ := id hx
  refine wpAny_bind (wpAny_field he rfl h1 ?_)
  rw [if_neg (show ¬ ((Value.ref T == Value.none) = true) by simp)]
  have step : wpAny (model X.prog X.w) X.A (do setFlight (.ref ea) X.env.frame; throw (.ref ea) : Sem Flow) (SP X pins D) (XPS X pins E) s :=
    wpAny_bind (flight_x I hx fun s2 I2 x2 => wpAny_throw ⟨σ, ea, cls, xd, _, H, rfl, I2, x2, by rw [F.fr]; exact .inr (.inr ⟨_, rfl⟩), h⟩)
  first
    | exact step
    | exact wpAny_bind (wpAny_pure step)
theorem hit_x {pins : List (Addr × Obj)} {s : Shared} {σ : St} {H : Hp} {ea : Addr} {cls : Value} {xd : Option Addr} {b : Bool} {E : Value → Shared → Prop} {R : Bool → Shared → Prop} (I : Inv X pins σ H s) (hx : XAt X pins H s.heap ea cls xd (some .none))
    (hg : Gl X x) (hm : X.mg x = some (.ref C)) (eb : PySem.W.exmOne X.K cls (.ref C) = some b) (h : R b s) (hd : (x == ("__debug__" : Str)) = false := by decide) :
    wpAny (model X.prog X.w) (X.A.mark (some (.ref ea))) (eval (.Name x np) X.env) (fun c s₁ => wpAny (model X.prog X.w) (X.A.mark (some (.ref ea))) (excMatches (.ref ea) c) R E s₁) E s := by
  obtain ⟨_, sl, vs, he, _⟩ := hx
  refine ld_glob (hcx_in I ea) hg hm ?_ hd
  have lt : PySem.W.Looks (model X.prog X.w) s.heap (typeOf (.ref ea)) cls := (PySem.W.Looks.ld he).andThen .now
  exact PySem.W.exm_one I.kIn lt eb _ _ _ s (fun _ _ q => q) h
/-- except C: -/
theorem phx_bare (hg : Gl X x) (hm : X.mg x = some (.ref C)) (hs : ∀ e, PSs (hcx X e) (b₀ :: suite) ts) (hr : PHX X rest tr) (hd : (x == ("__debug__" : Str)) = false := by decide) :
    PHX X (.ExceptHandler (some (.Name x np)) none (b₀ :: suite) pos :: rest) (fun D E σ cls xd H => ∃ b, PySem.W.exmOne X.K cls (.ref C) = some b ∧ if b = true then ts D σ H else tr D E σ cls xd H) := by
  intro pins s σ H D E ea cls xd I hx h
  obtain ⟨b, eb, h⟩ := h
  refine wpAny_handleBy_cons (codeAny_handlers_test (hit_x I hx hg hm eb ?_ hd)) (by intro q; cases q)
  cases b with
  | true =>
    refine codeAny_handlers_suite (flight_x I hx fun s1 I1 x1 => ?_)
    refine wpAny_mono (hs ea pins s1 σ H D (hcx_in I1 ea) h) (fun f s2 q => ?_) fun _ _ z => False.elim z
    cases f with
    | next => obtain ⟨σ', H', I', q⟩ := q; exact ⟨σ', H', hcx_out I.ok I', q⟩
    | brk => obtain ⟨σ', H', I', q⟩ := q; exact ⟨σ', H', hcx_out I.ok I', q⟩
    | cont => obtain ⟨σ', H', I', q⟩ := q; exact ⟨σ', H', hcx_out I.ok I', q⟩
    | ret u => obtain ⟨v, σ', H', I', r, q⟩ := q; exact ⟨v, σ', H', hcx_out I.ok I', r, q⟩
  | false => exact hr pins s σ H D E ea cls xd I hx h
/-- except C as n: -/
def goEnds (D : Ends) (i : Nat) : Ends := { nx := fun σ H => D.nx (σ.set i none) H, rt := D.rt, bk := fun σ H => D.bk (σ.set i none) H, ct := fun σ H => D.ct (σ.set i none) H }
theorem phx_as {i : Nat} (hN : X.N.Nodup) (hi : X.N[i]? = some n) (hl : X.env.scope.names.lookup n = some .local) (hg : Gl X x) (hm : X.mg x = some (.ref C)) (hs : ∀ e, PSs (hcx X e) (b₀ :: suite) ts) (hr : PHX X rest tr) (hd : (x == ("__debug__" : Str)) = false := by decide) :
    PHX X (.ExceptHandler (some (.Name x np)) (some n) (b₀ :: suite) pos :: rest) (fun D E σ cls xd H => ∃ b, PySem.W.exmOne X.K cls (.ref C) = some b ∧ if b = true then ∀ ea, H ea = none → ts (goEnds D i) (σ.set i (some (.ref ea))) (upd H ea (xo ea cls xd)) else tr D E σ cls xd H) := by
  intro pins s σ H D E ea cls xd I hx h
  obtain ⟨b, eb, h⟩ := h
  refine wpAny_handleBy_cons (codeAny_handlers_test (hit_x I hx hg hm eb ?_ hd)) (by intro q; cases q)
  cases b with
  | true =>
    refine codeAny_handlers_suite_as (flight_x I hx fun s1 I1 x1 => ?_)
    refine store_ok (X := hcx X ea) (v := .ref ea) (hcx_in (track_x I1 x1) ea) hN hi (.inl hl) rfl (fun s2 I2 => ?_) (.inr hl)
    refine wpAny_mono (hs ea pins s2 _ _ (goEnds D i) I2 (h ea hx.ok.1)) (fun f s3 q => ?_) fun _ _ z => False.elim z
    show wpAny _ _ _ _ _ _
    cases f with
    | next => obtain ⟨σ', H', I', q⟩ := q; exact goes_x (hcx_out I.ok I') hN hi hl fun s4 I4 => ⟨_, H', I4, q⟩
    | brk => obtain ⟨σ', H', I', q⟩ := q; exact goes_x (hcx_out I.ok I') hN hi hl fun s4 I4 => ⟨_, H', I4, q⟩
    | cont => obtain ⟨σ', H', I', q⟩ := q; exact goes_x (hcx_out I.ok I') hN hi hl fun s4 I4 => ⟨_, H', I4, q⟩
    | ret u => obtain ⟨v, σ', H', I', r, q⟩ := q; exact goes_x (hcx_out I.ok I') hN hi hl fun s4 I4 => ⟨v, _, H', I4, r, q⟩
  | false => exact hr pins s σ H D E ea cls xd I hx h
/-- try: body, handlers, no else -/
theorem psx_try {body : List Stmt} {h₀ : ExceptHandler} {hs : List ExceptHandler} {tb : TSX} {th : THX} (F : Fr1 X) (hb : PSXs X body tb) (hh : PHX X (h₀ :: hs) th) :
    PSX X (.Try body (h₀ :: hs) [] [] pos) (fun D E σ H => tb D (fun σ' cls xd H' => th D E σ' cls xd H') σ H) := by
  intro pins s σ H D E I h
  refine wpAny_Try_except (wpAny_mono (hb pins s σ H D _ I h) (fun f s1 q => ?_) (fun v s1 q => ?_))
  · cases f with
    | next => exact wpAny_execs_nil q
    | ret v => exact q
    | brk => exact q
    | cont => exact q
  · obtain ⟨σ', ea, cls, xd, m, H', rfl, I1, hx, hm, q⟩ := q
    exact note_x F I1.ok.frames I1 hx hm fun s2 I2 x2 => flight_x I2 x2 fun s3 I3 x3 => hh pins s3 σ' H' D E ea cls xd I3 x3 q
end

/-! ### for, its body may raise -/
def fixE (tb : TSX) (E : SXK) : TS := fun D σ H => tb D E σ H
section
variable {X : Cx} {tg : Expr}
theorem psx_for {iter : Expr} {body : List Stmt} {wi : TI} {g : TG} {tb : TSX} {pos : Pos} (F : Fr1 X) (hc : X.calm = true) (hi : PI X.nox tg iter wi) (hg : PG X.nox tg g) (hb : PSXs X body tb)
    (hs : ∀ x, foldedSetIterable iter X.env x = pure x := by intro _; rfl) : PSX X (.For tg iter body [] pos) (fun D E σ H => tFor wi g (fixE tb E) D σ H) := by
  intro pins s σ H D E I h
  refine wpAny_For (wpAny_mono (hi pins s σ H _ (I.wish _) h) (fun v s1 h1 => wpAny_mono h1 (fun itv s2 h2 => ?_) fun _ _ z => False.elim z) fun _ _ z => False.elim z) hs
  obtain ⟨it, fp, tn, J, H2, e, I2, T, st2, f2, W, ⟨m0, w0⟩, turn⟩ := h2
  subst e
  have hp : PassesOwn (model X.prog X.w) X.A X.env (XPS X pins E) := passes_x F I.ok.frames
  have stat : ∀ {H' : Hp}, (∀ b ∈ fp, H' b = none) → ∀ b ∈ fp, FpOk X pins H' b := fun hn b hb => ⟨hn b hb, (f2 b hb).2⟩
  refine codeAny_forLoop_any (fun n s' => ∃ i σ' H', Inv X pins σ' H' s' ∧ tn i s'.heap ∧ (∀ b ∈ fp, H' b = none) ∧ W i n σ' H') ?_ m0 ⟨0, σ, H2, I2.unwish, st2, fun b hb => (f2 b hb).1, w0⟩
  rintro n s3 ⟨i, σ3, H3, I3, st3, fr3, w3⟩
  rcases turn i n σ3 H3 w3 with ⟨stop, qn⟩ | ⟨go, N, hN, step⟩
  · refine wpAny_passesOwn hp (thn (T.done X rfl rfl rfl hc i pins s3 σ3 H3 (XPS X pins E) I3 (stat fr3) st3 stop) fun r s4 ⟨hr, I4⟩ => ?_)
    subst hr
    exact wpAny_execs_nil ⟨σ3, H3, I4, qn⟩
  · refine wpAny_passesOwn hp (thn (T.item X rfl rfl rfl hc i pins s3 σ3 H3 (XPS X pins E) I3 (stat fr3) st3 go) fun r s4 ⟨u, hr, h4⟩ => ?_)
    subst hr
    refine wpAny_passesOwn hp (thn h4 fun _ s5 ⟨x, H5, I5, r5, y5, st5, fr5⟩ => ?_)
    have I5' := I5.pinned (stat fr5) (T.obj _ _ st5)
    refine wpAny_passesOwn hp (wpAny_mono (hg _ s5 σ3 H5 x u _ (I5'.wish _) r5 (step x H5 y5)) (fun _ s6 ⟨σ6, H6, I6, q6⟩ => ?_) fun _ _ z => False.elim z)
    refine wpAny_passesOwn hp (wpAny_mono (hb _ s6 σ6 H6 _ E I6.unwish q6) (fun f s7 q7 => ?_) fun _ _ ⟨σ', z⟩ => ⟨σ', z.drop⟩)
    have again : ∀ {σ7 : St} {H7 : Hp}, Inv X (pins ++ pinsAt fp s5.heap) σ7 H7 s7 → N σ7 H7 → ∃ m, m < n ∧ ∃ i σ' H', Inv X pins σ' H' s7 ∧ tn i s7.heap ∧ (∀ b ∈ fp, H' b = none) ∧ W i m σ' H' := fun {σ7 H7} I7 n7 => by
      obtain ⟨m', hm, w7⟩ := hN σ7 H7 n7
      refine ⟨m', hm, i + 1, σ7, H7, I7.unpinned, T.keep _ _ _ st5 fun b hb o e => (I7.pin (b, o) (List.mem_append_right _ (List.mem_append_right _ (mem_pinsAt hb e)))).1, fun b hb => ?_, w7⟩
      obtain ⟨o, e, d⟩ := T.obj _ _ st5 b hb
      exact (I7.pin (b, o) (List.mem_append_right _ (List.mem_append_right _ (mem_pinsAt hb e)))).2.1
    cases f with
    | next => obtain ⟨σ7, H7, I7, n7⟩ := q7; exact again I7 n7
    | cont => obtain ⟨σ7, H7, I7, n7⟩ := q7; exact again I7 n7
    | brk => obtain ⟨σ7, H7, I7, q7⟩ := q7; exact ⟨σ7, H7, I7.unpinned, q7⟩
    | ret v => obtain ⟨x7, σ7, H7, I7, r7, q7⟩ := q7; exact ⟨x7, σ7, H7, I7.unpinned, r7, q7⟩
end

/-! ### an attribute read from an exception of an own class: BaseException.__getattribute__ -/
structure GaX (K : PySem.W.Frag) (C : Addr) : Prop where
  ga : PySem.W.findIn K (.ref C) "__getattribute__" = some (some (.builtin "BaseException.__getattribute__"))
  hk : PySem.W.findIn K (.ref C) "__getattr__" = some none
  mb : PySem.W.mroIn K C (.type "BaseException") = some true
theorem slot_bga : Slot "ValueError" "__getattribute__" "BaseException.__getattribute__" := F.attr_ValueError.ga
section
variable {prog : Program} {w : World} {A : Around} {E : Value → Shared → Prop} {s : Shared} {K : PySem.W.Frag} {x C : Addr} {ox : Obj} {od : Option Obj} {name : Str}
theorem gx_check {M : Model} {nameV : Value} {Q : Unit → Shared → Prop} (X : K.In s.heap) (I : PySem.W.InstAt s.heap x ox C od) (t : GaX K C) (hq : Q () s) :
    wpAny M A (checkBuiltinCall "BaseException.__getattribute__" ⟨[.ref x, nameV], []⟩) Q E s := by
  have hk : builtinKind "BaseException.__getattribute__" = some .slot := by decide +kernel
  have hsplit : splitId "BaseException.__getattribute__" = some ("BaseException", "__getattribute__") := by decide +kernel
  have L0 := I.type (M := M)
  have L1 := PySem.W.looks_mroIn (M := M) X t.mb
  have ha := F.args_bexc_ga (.ref x) nameV
  obtain ⟨hh, g, d, tt, os⟩ := s
  simp only [checkBuiltinCall, hk, hsplit]
  refine wpAny_bind ?_
  unfold isInstance
  refine wpAny_bind (L0.at (L1.at ?_))
  repeat (any_goals (first | assumption | wp_step))
/-- object.__getattribute__ in its name -/
def GaEnd (v : Value) (Q : Value → Shared → Prop) : Fin → Shared → Prop := fun fin s' => match fin with | .done (.ret u) => u = v ∧ Q u s' | _ => False
theorem gx_entry {tk : Tok} {v : Value} {Q : Fin → Shared → Prop} (X : K.In s.heap) (I : PySem.W.InstAt s.heap x ox C od) (hf : PySem.W.findObj K C od name = some (.value v)) (hq : Q (.done (.ret v)) s) :
    wpAny (model prog w) A (Builtin.«object.__getattribute__» ⟨[.ref x, .str name tk], []⟩) Q E s := by
  obtain ⟨hh, g, d, tt, os⟩ := s
  have L0 := I.type (M := model prog w)
  have L1 := PySem.W.looks_find (M := model prog w) X I hf
  unfold Builtin.«object.__getattribute__»
  refine wpAny_bind (wpAny_pure (wpAny_bind (wpAny_pure (wpAny_bind (L0.at (wpAny_bind (L1.at ?_)))))))
  exact wpAny_pure hq
theorem gx_entryB {tk : Tok} {g a : Value} {P : Value → Shared → Prop} (X : K.In s.heap) (I : PySem.W.InstAt s.heap x ox C od) (hf : PySem.W.findObj K C od name = some (.bind g a)) (h : wpAny (model prog w) A (call g [a, .ref x, .ref C]) P E s) :
    wpAny (model prog w) A (Builtin.«object.__getattribute__» ⟨[.ref x, .str name tk], []⟩) (fun fin s' => match fin with | .done (.ret v) => P v s' | _ => False) E s := by
  obtain ⟨hh, gg, d, tt, os⟩ := s
  have L0 := I.type (M := model prog w)
  have L1 := PySem.W.looks_find (M := model prog w) X I hf
  unfold Builtin.«object.__getattribute__»
  refine wpAny_bind (wpAny_pure (wpAny_bind (wpAny_pure (wpAny_bind (L0.at (wpAny_bind (L1.at ?_)))))))
  show wpAny _ _ (holding [a] (call g [a, .ref x, .ref C]) >>= ret) _ _ _
  exact wpAny_bind (wpAny_holding (wpAny_mono h (fun v s' z => wpAny_pure z) fun _ _ z => z))
/-- getAttrBy, the entry given -/
theorem gx_by {tk : Tok} {fill ex : Bool} {Q : Value → Shared → Prop} (X : K.In s.heap) (I : PySem.W.InstAt s.heap x ox C od) (t : GaX K C)
    (h : wpAny (model prog w) A.in1 (Builtin.«object.__getattribute__» ⟨[.ref x, .str name tk], []⟩) (fun fin s' => match fin with | .done (.ret v) => PySem.W.handedIn v = true ∧ Q v s' | _ => False) (fun _ _ => False) s) :
    wpAny (model prog w) A (getAttrBy (.ref x) (.str name tk) fill ex) Q E s := by
  obtain ⟨hh, g, d, tt, os⟩ := s
  have L0 := I.type (M := model prog w)
  have L1 := PySem.W.looks_findIn (M := model prog w) X t.ga
  have L2 := PySem.W.looks_findIn (M := model prog w) X t.hk
  unfold getAttrBy
  refine wpAny_holding (wpAny_bind (L0.at (wpAny_bind (L1.at ?_))))
  show wpAny _ _ (if (onTheHeap (Value.ref C) && Value.builtin "BaseException.__getattribute__" == Value.builtin "object.__getattribute__") = true then _ else getAttrByItsOwn _ _ _ _ _ _) _ _ _
  rw [if_neg (by rw [show (Value.builtin "BaseException.__getattribute__" == Value.builtin "object.__getattribute__") = false from by decide +kernel]; exact fun z => Bool.noConfusion z)]
  unfold getAttrByItsOwn hookBefore callGetattribute boundAndCalled
  refine wpAny_bind ?_
  show wpAny _ _ (typeLookup (.ref C) "__getattr__") _ _ _
  refine L2.at ?_
  refine wpAny_bind (wpAny_attempt (wpAny_holding ?_))
  rw [if_neg (by cases ex <;> decide)]
  refine wpAny_bind (wpAny_of_eq (slot_bga.bind _) ?_)
  show wpAny _ _ (call (.builtin "BaseException.__getattribute__") [.ref x, .str name tk]) _ _ _
  refine wpAny_call (codeAny_call_builtin slot_bga.plain F.entry_bexc_ga (gx_check X I t (wpAny_mono h (fun fin s' z => ?_) fun _ _ z => z.elim)))
  rcases fin with (_ | _ | _ | _) | _ <;> first | exact PySem.W.handed_on z.1 z.2 | exact z.elim
end

/-! ### isinstance of a caught exception -/
structure ExcTy (K : PySem.W.Frag) (C : Addr) : Prop where
  ga : GaX K C
  cd : (PySem.W.clsIn K C).isSome = true
  ha : PySem.W.findIn K (.ref C) "__class__" = some (some (.builtin "object.__class__"))
  hn : PySem.W.specialIn K (.builtin "object.__class__") "__get__" = some (some (.builtin "getset_descriptor.__get__"))
  htk : PySem.W.takesIn K (.builtin "object.__class__") = some true
  hm : PySem.W.mroIn K C (.type "object") = some true
theorem find_cls {K : PySem.W.Frag} {C : Addr} (t : ExcTy K C) (od : Option Obj) : PySem.W.findObj K C od "__class__" = some (.bind (.builtin "getset_descriptor.__get__") (.builtin "object.__class__")) := by
  obtain ⟨cd, hc⟩ := Option.isSome_iff_exists.mp t.cd
  unfold PySem.W.findObj
  rw [hc, Option.bind_some, t.ha, Option.bind_some]
  simp [t.hn, t.htk]
theorem kit_exc {K : PySem.W.Frag} {C x : Addr} {ox : Obj} {od : Option Obj} (t : ExcTy K C) : PySem.W.KitX K (.ref x) (.ref C) (fun h => PySem.W.InstAt h x ox C od) where
  ty := fun _ _ _ I => I.type
  it := fun _ _ X _ => by
    obtain ⟨cd, hc⟩ := Option.isSome_iff_exists.mp t.cd
    unfold PySem.W.clsIn at hc
    split at hc
    · rename_i ho
      exact fun A' Q' E' s' k q => by
        unfold isType loadHead
        exact wpAny_bind (wpAny_loadPart (k _ _ (X _ _ ho)) (wpAny_pure q))
    · cases hc
  ne := fun h tp dd its n sl X htp => by
    obtain ⟨cd, hc⟩ := Option.isSome_iff_exists.mp t.cd
    refine Bool.eq_false_iff.mpr fun q => ?_
    obtain rfl : C = tp := Value.ref.inj (beq_iff_eq.mp q)
    unfold PySem.W.clsIn at hc
    split at hc
    · rename_i ho
      cases (X _ _ ho).symm.trans htp
    · cases hc
  ca := fun {prog w A E Q s} X I k => by
    unfold getAttr? getAttrBy?
    refine wpAny_bind (wpAny_mkText (wpAny_bind (wpAny_attempt (gx_by (s := { s with toks := s.toks + 1 }) X I t.ga (wpAny_mono (gx_entryB (s := { s with toks := s.toks + 1 }) X I (find_cls t _) (P := fun v s' => v = .ref C ∧ s' = { s with toks := s.toks + 1 }) (E := fun _ _ => False)
      (wpAny_call (PySem.W.class_get (s := { s with toks := s.toks + 1 }) (ox := ox) X I t.hm ⟨rfl, rfl⟩))) (fun fin s' z => ?_) fun _ _ z => z)))))
    rcases fin with (_ | _ | _ | _) | _ <;> first | (obtain ⟨rfl, rfl⟩ := z; exact ⟨rfl, wpAny_pure k⟩) | exact z.elim
section
variable {X : Cx} {pins : List (Addr × Obj)} {σ : St} {H : Hp} {s : Shared}
theorem xo_inst {ea C : Addr} (I : Inv X pins σ H s) (h : H ea = some (xo ea (.ref C) none)) : ∃ ox, PySem.W.InstAt s.heap ea ox C none := by
  obtain ⟨⟨sl, vs, e⟩, _⟩ := (show ObjOk X.prog X.w H s.heap ea (xo ea (.ref C) none) from I.hok _ _ h)
  exact ⟨_, e, rfl, rfl, trivial⟩
/-- isinstance(e, c), e a caught exception without values of its own -/
theorem call_isiX : CallR X (.builtin "isinstance") (fun xs H Q => ∃ ea c C b, xs = [.ref ea, c] ∧ isC c = true ∧ H ea = some (xo ea (.ref C) none) ∧ ExcTy X.K C ∧ PySem.W.kitOne X.K (.ref C) (clsV c) = some b ∧ Q (.bl b) H) := by
  intro pins s σ H xs us Q I r h
  obtain ⟨ea, c, C, b, rfl, hc, hx, ty, e, q⟩ := h
  obtain ⟨u, w', rfl, rx, rc⟩ := vals2 r
  cases rx
  obtain ⟨ox, J⟩ := xo_inst I hx
  have fin : ∀ tk, EP X pins σ Q (.bool b) { s with toks := tk } := fun tk => ⟨.bl b, H, I.tok _, rfl, q⟩
  cases c with
  | ty n => cases rc; exact PySem.W.kia_one (kit_exc ty) I.kIn J e (fun z => nomatch z) fin
  | ref a => cases rc; exact PySem.W.kia_one (kit_exc ty) I.kIn J e (fun z => nomatch z) fin
  | _ => exact absurd (show false = true from hc) Bool.false_ne_true
theorem vals_cls : ∀ {cs : List V} {us : List Value}, Vals cs us → (∀ c ∈ cs, isC c = true) → us = cs.map clsV
  | [], _, .nil, _ => rfl
  | c :: cs, _, .cons r t, h => by
    have h1 := h c List.mem_cons_self
    rw [List.map_cons, vals_cls t fun c' hm => h c' (List.mem_cons_of_mem _ hm)]
    cases c with
    | ty n => cases r; rfl
    | ref a => cases r; rfl
    | _ => exact absurd (show false = true from h1) Bool.false_ne_true
/-- isinstance(e, (C1, .. )), the tuple made on the spot -/
theorem call_isiXT : CallR X (.builtin "isinstance") (fun xs H Q => ∃ ea tp C b, ∃ cs : List V, xs = [.ref ea, .ref tp] ∧ H tp = some (.tup cs) ∧ (∀ c ∈ cs, isC c = true) ∧ H ea = some (xo ea (.ref C) none) ∧ ExcTy X.K C ∧ PySem.W.kitAny X.K (.ref C) (cs.map clsV) = some b ∧ Q (.bl b) H) := by
  intro pins s σ H xs us Q I r h
  obtain ⟨ea, tp, C, b, cs, rfl, ht, hc, hx, ty, e, q⟩ := h
  obtain ⟨u, w', rfl, rx, rc⟩ := vals2 r
  cases rx
  cases rc
  obtain ⟨ox, J⟩ := xo_inst I hx
  obtain ⟨_, its, rv, ob, ho, hcl, n, hd⟩ := (show ObjOk X.prog X.w H s.heap tp (.tup cs) from I.hok _ _ ht)
  have hv : its = cs.map clsV := vals_cls rv hc
  rw [← hv] at e
  obtain ⟨c0, d0, dt0, sl0⟩ := ob
  obtain rfl : c0 = .type "tuple" := hcl
  obtain rfl : dt0 = .seq its.toArray n := hd
  exact PySem.W.kia_tup (kit_exc ty) I.kIn J ho e (fun z => nomatch z) fun tk => ⟨.bl b, H, I.tok _, rfl, q⟩
end
end L2

namespace L2
open PySem PySem.Spec PyProof.Rows

/-! ### making an exception of an own class that has no __init__ -/
section
variable {prog : Program} {w : World} {A : Around} {E : Value → Shared → Prop} {h : Heap} {g : Array GenState} {d : Drawn} {t : Nat} {os : OsState}
variable {nm q : Str} {C N : Addr} {bs bm bmB : List Value} {hdct : Bool} {sn : List Str} {sub : List Value} {ab : Bool} {col : Option Bool} {dd : Option Addr} {k0 k1 k2 k3 k5 : Option Value} {B nid iid : String}
/-- the tuple of its arguments, then itself -/
abbrev madeX (h : Heap) (C : Addr) (us : List Value) : Heap := (h.push { cls := .type "tuple", data := .seq us.toArray }).push ⟨.ref C, none, .fields #[.ref h.objs.size, .none, .none, .none, .bool false, .none], #[]⟩
theorem madeX_old {us : List Value} {b : Addr} {o : Obj} (e : h.get? b = some o) : (madeX h C us).get? b = some o := Heap.get?_push_of_some _ (Heap.get?_push_of_some _ e)
theorem madeX_at {us : List Value} : (madeX h C us).get? (h.objs.size + 1) = some ⟨.ref C, none, .fields #[.ref h.objs.size, .none, .none, .none, .bool false, .none], #[]⟩ := by
  have := Heap.get?_push_size (h.push { cls := .type "tuple", data := .seq us.toArray }) (o := ⟨.ref C, none, .fields #[.ref h.objs.size, .none, .none, .none, .bool false, .none], #[]⟩) rfl
  rwa [Heap.size_push] at this
theorem exc_plain0 (F : ExcBaseFacts B nid iid bmB) (T : OwnTail h bmB bm) {mN : Str → Option Value} {us : List Value} {Q : Fin → Shared → Prop}
    (kC : h.get? C = some (excClassObj nm q C N bs bm hdct sn sub ab col dd k0 k1 k2 k3 k5 nid)) (kN : h.Ns N mN) (kI : mN "__init__" = none) (hz : us.length ≤ sizeLine)
    (hq : ∀ h', (∀ b o, h.get? b = some o → h'.get? b = some o) → (∃ tp, h'.get? (h.objs.size + 1) = some ⟨.ref C, none, .fields #[.ref tp, .none, .none, .none, .bool false, .none], #[]⟩) → Q (.done (.ret (.ref (h.objs.size + 1)))) ⟨h', g, d, t, os⟩) :
    wpAny (model prog w) A (Builtin.«type.__call__» ⟨.ref C :: us, []⟩) Q E ⟨h, g, d, t, os⟩ := by
  repeat (first | with_reducible refine wpAny_loadPart_at kC ?_ | with_reducible refine wpAny_madeBy_exc kC ?_ | wp_step)
  refine codeAny_call_builtin_code (Code.quiet_builtin _ F.quiet) (wpAny_check_new_subT F T kC (codeAny_exc_new_subT F T kC ?_ hz))
  show wpAny _ _ _ _ _ _
  have kC1 : (madeX h C us).get? C = _ := madeX_old kC
  have kN1 : (madeX h C us).Ns N mN := kN.keeps fun b o e => madeX_old e
  have T1 : OwnTail (madeX h C us) bmB bm := T.keeps fun b o e => madeX_old e
  have kE := madeX_at (h := h) (C := C) (us := us)
  have self : (Value.ref C :: bm).contains (.ref C) = true := by simp
  unfold isInstance
  repeat (first | with_reducible refine wpAny_loadPart_at kE ?_ | (with_reducible refine wpAny_isSubtype_exc kC1 ?_; rw [self]) | wp_step)
  show wpAny _ _ (typeLookup (.ref C) _) _ _ _
  refine wpAny_typeLookup_tail kC1 kN1 T1 F.mroIs F.init.lookup ?_
  rw [kI]
  refine wpAny_holding (wpAny_bind (wpAny_of_eq (F.init.bind _) ?_))
  refine wpAny_bind (wpAny_call (codeAny_call_builtin F.init.plain F.initEntry (wpAny_check_init_subT F T1 kC1 kE rfl ?_)))
  wp_walk
  refine hq _ (fun b o e => ?_) ⟨h.objs.size + 2, ?_⟩
  · rw [Heap.get?_update_other _ _ (Nat.ne_of_gt (Nat.lt_succ_of_lt (Heap.lt_size e)))]
    exact Heap.get?_push_of_some _ (madeX_old e)
  · refine (Heap.get?_update_self _ (Heap.get?_push_of_some _ kE) rfl).trans ?_
    simp only [Heap.size_push]
    rfl
theorem exc_plain (F : ExcBaseFacts B nid iid bmB) (T : OwnTail h bmB bm) {mN : Str → Option Value} {us : List Value} {Q : Value → Shared → Prop}
    (kC : h.get? C = some (excClassObj nm q C N bs bm hdct sn sub ab col dd k0 k1 k2 k3 k5 nid)) (kN : h.Ns N mN) (kI : mN "__init__" = none) (hz : us.length ≤ sizeLine)
    (hq : ∀ h', (∀ b o, h.get? b = some o → h'.get? b = some o) → (∃ tp, h'.get? (h.objs.size + 1) = some ⟨.ref C, none, .fields #[.ref tp, .none, .none, .none, .bool false, .none], #[]⟩) → Q (.ref (h.objs.size + 1)) ⟨h', g, d, t, os⟩) :
    wpAny (model prog w) A (call (.ref C) us) Q E ⟨h, g, d, t, os⟩ := by
  have l1 := tc_lookup
  have l2 := tc_bind (.ref C)
  have ty : (⟨h, g, d, t, os⟩ : Shared).TypeIs (.ref C) "type" := ⟨_, kC, rfl⟩
  refine wpAny_call (codeAny_of_tree ?_)
  show wpAny _ _ (callAny (.ref C) _) _ _ _
  repeat (any_goals (first | assumption | with_reducible refine wpAny_loadPart_at kC ?_ | wp_step))
  refine ⟨rfl, codeAny_call_builtin_at (Code.quiet_builtin _ (by decide +kernel)) entry_typeCall (wpAny_check_type_call_sub kC (exc_plain0 F T kC kN kI hz fun h' k e => ?_))⟩
  exact hq h' k e
/-- raise of an exception object that flies nowhere yet -/
theorem raise_obj {M : Model} {env : Env} {s : Shared} {x : Sem Value} {Q : Flow → Shared → Prop} (hbase : bm.contains (.type "BaseException") = true) (hh : A.handled = none)
    (hx : wpAny M A x (fun v s₁ => ∃ (e : Addr) (xd : Option Addr) (a0 : Value) (sl : Array (Option Value)), v = .ref e ∧ s₁.heap.get? C = some (excClassObj nm q C N bs bm hdct sn sub ab col dd k0 k1 k2 k3 k5 nid) ∧
      s₁.heap.get? e = some ⟨.ref C, xd, .fields #[a0, .none, .none, .none, .bool false, .none], sl⟩ ∧ E (.ref e) s₁) E s) : wpAny M A (raiseStmt env (some x) none) Q E s := by
  have top : (Value.ref C :: bm).contains (.type "BaseException") = true := by rw [List.contains_cons, hbase, Bool.or_true]
  unfold raiseStmt
  refine wpAny_bind (wpAny_mono hx (fun v s₁ h₁ => ?_) fun _ _ z => z)
  obtain ⟨e, xd, a0, sl, rfl, kC, kE, fin⟩ := h₁
  obtain ⟨hp, g', d', tk, os'⟩ := s₁
  repeat (first | with_reducible refine wpAny_loadPart_at kE ?_ | with_reducible refine wpAny_loadPart_at kC ?_ | (with_reducible refine wpAny_isSubtype_exc kC ?_; rw [top]) | wp_step)
  exact wpAny_raiseNew_none hh fin
end

/-! ### of the text: a class under ValueError, through own ones -/
abbrev veMro : List Value := [.type "ValueError", .type "Exception", .type "BaseException", .type "object"]
def strKeys (es : Array DictEntry) : Bool := es.toList.all fun e => match e.key with | .str _ _ => true | _ => false
/-- a class's own names are texts; it has no __init__ -/
structure NoInit (K : PySem.W.Frag) (N : Addr) : Prop where
  ex : ∃ (c : Value) (dd : Option Addr) (es : Array DictEntry) (n : Nat) (sl : Array (Option Value)), K.lookup N = some ⟨c, dd, .dict es n, sl⟩ ∧ strKeys es = true
  no : PySem.W.nsIn K N "__init__" = some none
theorem NoInit.ns {K : PySem.W.Frag} {N : Addr} (x : NoInit K N) {h : Heap} (X : K.In h) : ∃ mN, h.Ns N mN ∧ mN "__init__" = none := by
  obtain ⟨⟨c, dd, es, n, sl, l, sk⟩, no⟩ := x
  have ns : h.Ns N (nsFind es) := ⟨_, es, n, X _ _ l, rfl, fun e he => by
    have z := List.all_eq_true.mp sk e (Array.mem_toList_iff.mpr he)
    cases hk : e.key with
    | str y t => exact ⟨y, t, rfl⟩
    | _ => rw [hk] at z; exact absurd z Bool.false_ne_true, fun _ => rfl⟩
  refine ⟨_, ns, ?_⟩
  unfold PySem.W.nsIn at no
  rw [l] at no
  dsimp only at no
  unfold nsFind findBy
  rw [← Array.find?_toList]
  cases hf : es.toList.find? (fun e => e.key.isStr "__init__") with
  | none => rfl
  | some e => rw [hf] at no; cases no
inductive OwnT (K : PySem.W.Frag) : List Value → Prop
  | base : OwnT K veMro
  | own {D : Addr} {c0 : Value} {dd : Option Addr} {cd : ClassData} {sl : Array (Option Value)} {tl : List Value} : K.lookup D = some ⟨c0, dd, .cls cd, sl⟩ → NoInit K cd.ns → OwnT K tl → OwnT K (.ref D :: tl)
theorem OwnT.tail {K : PySem.W.Frag} {bm : List Value} (x : OwnT K bm) {h : Heap} (X : K.In h) : OwnTail h veMro bm := by
  induction x with
  | base => exact .base
  | own l n _ ih =>
    obtain ⟨mA, a, b⟩ := n.ns X
    exact .own (X _ _ l) a b ih
/-- an own exception class without __init__ -/
structure ExcK (K : PySem.W.Frag) (C : Addr) : Prop where
  ex : ∃ (nm q : Str) (N : Addr) (bs bm : List Value) (hdct : Bool) (sn : List Str) (sub : List Value) (ab : Bool) (col : Option Bool) (dd : Option Addr) (k0 k1 k2 k3 k5 : Option Value),
    K.lookup C = some (excClassObj nm q C N bs bm hdct sn sub ab col dd k0 k1 k2 k3 k5 "ValueError.__new__") ∧ NoInit K N ∧ OwnT K bm
section
variable {X : Cx} {x : Str} {C : Addr} {np cpos pos : Pos} {e₀ : Expr} {rest : List Expr} {ta : TA}
/-- raise C(e, ..) -/
theorem psx_raise (ek : ExcK X.K C) (hc : X.calm = true) (hg : Gl X x) (hm : X.mg x = some (.ref C)) (ha : PA X.nox (e₀ :: rest) ta) (hdb : (x == ("__debug__" : Str)) = false := by decide)
    (he : starEach (e₀ :: rest) X.env = (false, eval e₀ X.env) :: starEach rest X.env := by rfl) (hpl : (backTo cpos (starEach rest X.env)).any (·.1) = false := by rfl) :
    PSX X (.Raise (some (.Call (.Name x np) (e₀ :: rest) [] cpos)) none pos) (fun _ E σ H => ta σ H fun vs H1 => vs.length ≤ sizeLine ∧ E σ (.ref C) none H1) := by
  intro pins s σ H D E I h
  obtain ⟨nm, q, N, bs, bm, hdct, sn, sub, ab, col, dd, k0, k1, k2, k3, k5, l, n, T⟩ := ek.ex
  have go : wpAny (model X.prog X.w) X.A (eval (.Call (.Name x np) (e₀ :: rest) [] cpos) X.env) (fun v s₁ => ∃ (e : Addr) (xd : Option Addr) (a0 : Value) (sl : Array (Option Value)), v = .ref e ∧ s₁.heap.get? C = some (excClassObj nm q C N bs bm hdct sn sub ab col dd k0 k1 k2 k3 k5 "ValueError.__new__") ∧
      s₁.heap.get? e = some ⟨.ref C, xd, .fields #[a0, .none, .none, .none, .bool false, .none], sl⟩ ∧ XPS X pins E (.ref e) s₁) (XPS X pins E) s := by
    refine wpAny_Call_Name_kw (ld_glob I hg hm ?_ hdb)
    unfold callWith
    rw [he]
    refine wpAny_bind (wpAny_holding (Calls.evalArgs_plain ?_))
    have ha' := ha cpos pins s σ H _ (I.wish _) h
    rw [show X.nox.env = X.env from rfl, he] at ha'
    refine wpAny_mono ha' (fun us s₁ ⟨vs, H1, I1, r, hz, q1⟩ => wpAny_bind (wpAny_standAt ?_)) fun _ _ z => False.elim z
    have I1' := I1.unwish
    have kC := I1'.kIn _ _ l
    obtain ⟨mN, kN, kI⟩ := n.ns I1'.kIn
    have T1 := T.tail I1'.kIn
    have pl : (backTo cpos ((false, eval e₀ X.env) :: starEach rest X.env)).any (·.1) = false := by
      show (false || (backTo cpos (starEach rest X.env)).any (·.1)) = false
      rw [hpl]; rfl
    obtain ⟨hp, g', d', tk, os'⟩ := s₁
    simp only [pl]
    refine wpAny_bind (wpAny_keeperOf_exc kC ?_)
    refine wpAny_bind (exc_plain (F := PySem.F.excBase_ValueError) T1 kC kN kI (by rw [List.nil_append, ← r.length]; exact hz) fun h' k ⟨tp, ke⟩ => wpAny_bind (wpAny_holding (wpAny_point (wpAny_pure ?_))))
    have I2 : Inv X pins σ H1 ⟨h', g', d', tk, os'⟩ := I1'.kept (t' := tk) k
    refine ⟨_, none, _, #[], rfl, k _ _ kC, ke, σ, _, _, none, none, H1, rfl, I2, ⟨I1'.fpOk (Nat.le_succ _) (I1'.hok.fresh (Nat.le_succ _)), _, _, ke, (by show 1 < 6; decide), rfl⟩, .inl rfl, q1⟩
  rw [arm_exec_Raise]
  have hb : bm.contains (.type "BaseException") = true := (T.tail I.kIn).hasType (b := true) (by decide +kernel)
  first
    | exact wpAny_bind (wpAny_standAt (raise_obj (C := C) (nm := nm) (q := q) (N := N) (bs := bs) (bm := bm) (hdct := hdct) (sn := sn) (sub := sub) (ab := ab) (col := col) (dd := dd) (k0 := k0) (k1 := k1) (k2 := k2) (k3 := k3) (k5 := k5) hb (I.ok.hd hc) (wpAny_bind (wpAny_mono go (fun v s₃ h₃ => wpAny_bind (wpAny_standAt (wpAny_pure h₃))) fun _ _ z => z))))
    | (simp only [evalOpt, Option.map]; exact wpAny_bind (wpAny_standAt (raise_obj (C := C) (nm := nm) (q := q) (N := N) (bs := bs) (bm := bm) (hdct := hdct) (sn := sn) (sub := sub) (ab := ab) (col := col) (dd := dd) (k0 := k0) (k1 := k1) (k2 := k2) (k3 := k3) (k5 := k5) hb (I.ok.hd hc) (wpAny_bind (wpAny_mono go (fun v s₃ h₃ => wpAny_bind (wpAny_standAt (wpAny_pure h₃))) fun _ _ z => z)))))
end
end L2

namespace L2
open PySem PySem.Spec PyProof.Rows

theorem map_erase {α β : Type} (f : α → β) : ∀ (xs : List α) (n : Nat), (xs.eraseIdx n).map f = (xs.map f).eraseIdx n
  | [], _ => rfl
  | _ :: _, 0 => rfl
  | x :: xs, n + 1 => by
    show f x :: (xs.eraseIdx n).map f = f x :: (xs.map f).eraseIdx n
    rw [map_erase f xs n]
/-! ### (a, b, ..) = a list of that length -/
section
variable {X : Cx} {pos : Pos}
def gLst (K : PySem.W.Frag) (n : Nat) (t : TGs) : TG := fun v σ H Q => ∃ a xs, v = .ref a ∧ SqL K H a xs ∧ xs.length = n ∧ t xs σ H Q
theorem pg_lst {es : List Expr} {k : Nat} {t : TGs} {n : Nat} (hc : X.calm = true) (h : PGs X es t)
    (hn : (assignEach es X.env).length = n := by rfl) (hst : (assignEach es X.env).findIdx? (·.1) = none := by rfl) : PG X (.Tuple es k pos) (gLst X.K n t) := by
  intro pins s σ H v u Q I r hw
  obtain ⟨a, xs, e1, hq, hl, hw⟩ := hw
  subst e1
  cases r
  obtain ⟨its, rv, ht, hz⟩ := I.list hq
  rw [assign_Tuple]
  refine wpAny_bind (wpAny_standAt ?_)
  unfold unpack
  have e : (assignEach es X.env).length = its.toArray.size := by simp [hn, ← hl, rv.length]
  rw [hst, e]
  refine wpAny_bind (wpAny_holding (PySem.W.kun_itemsOf (I.ok.hd hc) ht.isList fun h' hx => ?_))
  have I1 : Inv X pins σ H { s with heap := h' } := I.kept (t' := s.toks) fun b o e => hx b o (Nat.ne_of_lt (Heap.lt_size e)) e
  exact h pins _ σ H xs _ Q I1 (by simpa using rv) hw

/-! ### xs.insert(i, y), 0 ≤ i ≤ len(xs) -/
theorem Vals.insert {xs : List V} {us : List Value} (r : Vals xs us) {y : V} {u : Value} (ry : RelV y u) (k : Nat) : Vals (xs.take k ++ y :: xs.drop k) (us.take k ++ u :: us.drop k) := (r.take k).append (.cons ry (r.drop k))
def rInsert : V → List V → Hp → VK → Prop := fun x vs H Q => ∃ (l : Addr) (xs : List V) (i : Int) (k : Nat) (y : V), x = .ref l ∧ vs = [.int i, y] ∧ i = (k : Int) ∧ H l = some (.lst xs) ∧ k ≤ xs.length ∧ xs.length < sizeLine ∧ Q .non (upd H l (.lst (xs.take k ++ y :: xs.drop k)))
theorem mt_insert : MtM X "list.insert" rInsert := by
  intro pins s σ H x vs v us Q I rx rv h
  obtain ⟨l, xs, i, k, y, rfl, rfl, hi, hH, hk, hz, q⟩ := h
  cases rx
  obtain ⟨u1, u2, rfl, r1, r2⟩ := rv.two
  obtain ⟨t, rfl⟩ := r1
  obtain ⟨z, its, n, r, hl, e⟩ := I.lstM hH
  have lim : sizeLine = 16777216 := by decide
  have a2 : its.toArray.size ≤ sizeLine := by rw [List.size_toArray]; omega
  have b : Builtin.List.listFitsIndex i = true := fitsIndex_both (by omega) (by omega)
  have nb : ¬ (!Builtin.List.listFitsIndex i) = true := by rw [b]; decide
  refine call_meets F.slot_list_insert ⟨_, e, rfl⟩ F.entry_list_insert (F.args_list_insert_3 _ _ _) (AutoSeq1.list_insert_list_int_val_1 l its.toArray n i t u2 nb a2) ⟨e, ?_⟩
  refine ⟨.non, _, I.lset (its' := its.take k ++ u2 :: its.drop k) hH e ?_ (r.insert r2 k) ?_, rfl, q⟩
  · show (its.toArray.extract 0 (if i < 0 then (i + (its.toArray.size : Int)).toNat else min i.toNat its.toArray.size)).push u2 ++ its.toArray.extract (if i < 0 then (i + (its.toArray.size : Int)).toNat else min i.toNat its.toArray.size) = _
    have e1 : (if i < 0 then (i + (its.toArray.size : Int)).toNat else min i.toNat its.toArray.size) = k := by
      rw [List.size_toArray, if_neg (by omega)]
      omega
    rw [e1]
    apply Array.toList_inj.mp
    simp
    exact List.take_of_length_le (by rw [List.length_drop]; omega)
  · rw [List.length_append, List.length_cons, List.length_take, List.length_drop]
    omega
end

/-! ### f'{e!r} text' of data; f'text {i}' of an int -/
section
variable {X : Cx} {e : Expr} {te : TE} {y : Str} {j : Nat} {p1 p2 pos : Pos}
def tFR (K : PySem.W.Frag) (te : TE) (y : Str) : TE := fun σ H Q => te σ H fun x H1 => ∃ (a : Addr) (d : PyData), x = .ref a ∧ DV K H1 d x ∧ d.showable = true ∧ d.hasDict = false ∧ d.depth ≤ 60 ∧ d.shown.length + y.length ≤ sizeLine ∧ ∀ z : Str, Q (.str z) H1
theorem len_app (a b : Str) : (a ++ b).length = a.length + b.length := by
  show (a.cps ++ b.cps).size = _
  simp [Str.length]
theorem pe_fR (hg : X.A.guards = some []) (hu : X.A.units + 64 < cLine) (he : PE X e te) : PE X (.JoinedStr [.FormattedValue e 114 none p1, .Constant (.str y) j p2] pos) (tFR X.K te y) := by
  intro pins s σ H Q I h
  refine wpAny_JoinedStr ?_
  show Joins _ _ _ [eval (.FormattedValue e 114 none p1) X.env, eval (.Constant (.str y) j p2) X.env] _ _ _
  refine wpAny_FormattedValue_repr (thn (he pins s σ H _ I h) fun v s1 ⟨x, H1, I1, r1, a, d, e1, hd, sh, nd, dp, sz, q⟩ => ?_)
  subst e1
  obtain rfl : v = Value.ref a := r1
  obtain ⟨as, rd⟩ := DV.reads I1 d hd rfl
  refine pyReprObj_of_reads (h₀ := s1.heap) rd sh (fun z => absurd z (by rw [nd]; decide)) hg (by omega) (fun _ _ z => z) (fun h' u tk hk => ?_) (by omega)
  have I2 : Inv X pins σ H1 { s1 with heap := h', toks := tk } := I1.kept hk
  have emp : (Str.empty ++ d.shown : Str) = d.shown := by
    apply str_ext
    rw [app_toList]
    rfl
  have go : ∀ (t : Tok) (s2 : Shared), Inv X pins σ H1 s2 → ∃ z t', Value.str d.shown t = .str z t' ∧ (Str.empty ++ z).length ≤ sizeLine ∧ Joins (model X.prog X.w) X.A X.xe [eval (.Constant (.str y) j p2) X.env] (Str.empty ++ z) (fun out s₁ => out.length ≤ sizeLine ∧ EP X pins σ Q (.str out s₁.toks) { s₁ with toks := s₁.toks + 1 }) s2 := fun t s2 I3 => by
    refine ⟨_, _, rfl, by rw [emp]; omega, Calls.Constant_str ⟨y, _, rfl, ?_, ?_⟩⟩
    · rw [emp, len_app]; omega
    · refine ⟨by rw [emp, len_app]; omega, .str _, H1, (I3.tok _).tok _, ⟨_, rfl⟩, q _⟩
  exact wpAny_formatField_str (go _ _ I2) (go _ _ (I2.tok _)) (by omega)
end

/-! ### a comprehension over a tuple -/
theorem comp_tup {K : PySem.W.Frag} {a D : Addr} {xs : List V} {te : TE} {Q : VK} {σ : St} {H1 : Hp} (Pv : Nat → List V → Hp → Prop) (h0 : Pv 0 [] (upd H1 D (.lst []))) (hz : xs.length ≤ sizeLine)
    (hl : ∀ i ys H2, i ≤ xs.length → Pv i ys H2 → SqT K H2 a xs ∧ H2 D = some (.lst ys) ∧ ys.length = i)
    (hs : ∀ i x ys H2, xs[i]? = some x → Pv i ys H2 → te (some x :: σ) H2 (CompNext D xs.length Pv i ys)) (hd : ∀ ys H2, Pv xs.length ys H2 → Q (.ref D) H2) :
    CompGoal (Itt K a) te σ D H1 Q := by
  refine ⟨fun i m ys H => m = xs.length - i ∧ i ≤ xs.length ∧ Pv i ys H, ⟨xs.length, by simp, Nat.zero_le _, h0⟩, ?_⟩
  rintro i m ys H2 ⟨rfl, hi, p⟩
  obtain ⟨q, q2, q3⟩ := hl i ys H2 hi p
  refine ⟨q2, ?_⟩
  by_cases hlt : i < xs.length
  · refine .inr ⟨⟨xs, xs[i], q, by simp [hlt]⟩, by omega, fun x H3 y => ?_⟩
    obtain ⟨e, y⟩ := y
    subst e
    exact hs i x ys _ (y xs q) p
  · have e : i = xs.length := by omega
    subst e
    exact .inl ⟨⟨xs, q, Nat.le_refl _⟩, hd ys H2 p⟩
/-! ### methods within a comprehension: the fragment is told -/
theorem mt_joinK {X : Cx} {K : PySem.W.Frag} (ek : X.K = K) : MtR X "str.join" (rJoin K) := by
  subst ek; exact mt_join
theorem pe_bmK {X : Cx} {K : PySem.W.Frag} {T : String} {name : Str} {id : String} {r : V → List V → Hp → VK → Prop} {o e : Expr} {es : List Expr} {to : TE} {t : TA} {apos cpos : Pos} (ek : X.K = K) (pa : PlainAttrs T) (slot : Slot T name id) (hty : typeOf (.builtin id) = pure (.type "method_descriptor")) (hm : MtR X id r) (ho : PE X o to) (ha : PA X (e :: es) t)
    (hbase : attributeBase o name X.env (eval o X.env) = eval o X.env := by rfl)
    (hfew : ((backTo cpos (starEach (e :: es) X.env)).all (fun x => !x.1) && (backToKw cpos (keywordEach [] X.env)).all (fun x => x.1.isSome)
      && decide ((e :: es).length + ([] : List Keyword).length + (if ([] : List Keyword).isEmpty then 0 else 1) < 30)) = true := by rfl)
    (hline : (apos.endLine == cpos.line) = true := by rfl) (hs : starEach (e :: es) X.env = (false, eval e X.env) :: starEach es X.env := by rfl) (hplain : (backTo cpos (starEach es X.env)).any (·.1) = false := by rfl) :
    PE X (.Call (.Attribute o name apos) (e :: es) [] cpos) (tBM K T r to t) := by
  subst ek; exact pe_bm pa slot hty hm ho ha hbase hfew hline hs hplain
/-! ### data is like itself -/
mutual
theorem eqv_self : ∀ d : PyData, d.canLay0 = true → PyData.eqv d d = true
  | .none, _ => by simp [PyData.eqv]
  | .bool _, _ => by simp [PyData.eqv]
  | .int _, _ => by simp [PyData.eqv]
  | .str _, _ => by simp [PyData.eqv]
  | .list xs, h => by simp only [PyData.eqv]; exact eqvAll_self xs (by simpa [PyData.canLay0] using h)
  | .tuple xs, h => by simp only [PyData.eqv]; exact eqvAll_self xs (by simpa [PyData.canLay0] using h)
  | .dict _, h => by simp [PyData.canLay0] at h
theorem eqvAll_self : ∀ xs : List PyData, PyData.canLayAll0 xs = true → PyData.eqvAll xs xs = true
  | [], _ => by simp [PyData.eqvAll]
  | x :: xs, h => by
    have h' : x.canLay0 = true ∧ PyData.canLayAll0 xs = true := by simpa [PyData.canLayAll0] using h
    simp only [PyData.eqvAll, eqv_self x h'.1, eqvAll_self xs h'.2, Bool.and_self]
end
theorem same_sqt {K : PySem.W.Frag} {H H' : Hp} {t : Addr} {xs : List V} (s : Same H H') (h : SqT K H t xs) : SqT K H' t xs := by
  rcases h with (h | ⟨o, h⟩) | h
  · exact .inl (.inl (s _ _ h))
  · exact .inl (.inr ⟨o, s _ _ h⟩)
  · exact .inr h
/-! ### joins of joins -/
theorem join_nil (sep : Str) : Str.join sep [] = ⟨#[]⟩ := rfl
theorem app_assoc (a b c : Str) : (a ++ b) ++ c = a ++ (b ++ c) := by
  apply str_ext
  rw [app_toList, app_toList, app_toList, app_toList, List.append_assoc]
theorem join_app (sep : Str) : ∀ (a b : List Str), a ≠ [] → b ≠ [] → Str.join sep (a ++ b) = (Str.join sep a ++ sep) ++ Str.join sep b
  | [], _, h, _ => absurd rfl h
  | [x], [], _, h => absurd rfl h
  | [x], y :: b, _, _ => rfl
  | x :: x2 :: a, b, _, hb => by
    have ih := join_app sep (x2 :: a) b (List.cons_ne_nil _ _) hb
    show (x ++ sep) ++ Str.join sep (x2 :: a ++ b) = (((x ++ sep) ++ Str.join sep (x2 :: a)) ++ sep) ++ Str.join sep b
    rw [ih]
    simp only [app_assoc]
theorem join_join (sep : Str) (a b : List Str) (ha : a ≠ []) : Str.join sep (Str.join sep a :: b) = Str.join sep (a ++ b) := by
  cases b with
  | nil => rw [List.append_nil]; rfl
  | cons y b => rw [join_app sep a (y :: b) ha (List.cons_ne_nil _ _)]; rfl
end L2

namespace L2
open PySem PySem.Spec PyProof.Rows

/-! ### texts: order, signs one by one, numbers -/
section
variable {X : Cx}
theorem op_le_str : OpR X (compareOp .LtE) (fun x y H Q => ∃ i j, x = .str i ∧ y = .str j ∧ Q (.bl (!decide (j.cps.toList < i.cps.toList))) H) := by
  intro pins s σ H x y v u Q I rx ry h
  obtain ⟨i, j, rfl, rfl, q⟩ := h
  obtain ⟨t, rfl⟩ := rx
  obtain ⟨t', rfl⟩ := ry
  exact PySem.P.le_str ⟨.bl _, H, I, rfl, q⟩
theorem op_mul_str : OpR X (binaryOp .Mult) (fun x y H Q => ∃ (z : Str) (n : Int), x = .str z ∧ y = .int n ∧ PySem.MulOk z n ∧ Q (.str (Txt.mul z n)) H) := by
  intro pins s σ H x y v u Q I rx ry h
  obtain ⟨z, n, rfl, rfl, hm, q⟩ := h
  obtain ⟨t, rfl⟩ := rx
  obtain ⟨t', rfl⟩ := ry
  exact PySem.SB.mul hm fun t2 k => ⟨.str _, H, I.tok _, ⟨_, rfl⟩, q⟩
theorem call_int_text : CallR X (.type "int") (fun xs H Q => ∃ (z : Str) (n : Int), xs = [.str z] ∧ PySem.intText? z = some n ∧ z.length ≤ 640 ∧ Q (.int n) H) := by
  intro pins s σ H xs us Q I r h
  obtain ⟨z, n, rfl, hn, hl, q⟩ := h
  obtain ⟨u, rfl, rx⟩ := Vals.one r
  obtain ⟨t, rfl⟩ := rx
  exact PySem.W.KIN.call_text hn hl ⟨.int n, H, I.tok _, ⟨_, rfl⟩, q⟩
end
/-- the signs of a text, one by one -/
def Itz (x : Str) : It := ⟨fun i _ => i < x.cps.size, fun i H v H' => H' = H ∧ ∃ c, x.cps[i]? = some c ∧ v = .str ⟨#[c]⟩, fun i _ => x.cps.size ≤ i⟩
theorem turn_strA {P : Program} {w : World} {K : PySem.W.Frag} {tg : Expr} (it : Addr) (x : Str) (t : Tok) : Turn P w K tg (Itz x) [it] it (fun i h => h.IsStrIter it "str_ascii_iterator" x t i) where
  mem := by simp
  obj := fun i h st b hb => by
    have e : b = it := by simpa using hb
    subst e
    obtain ⟨o, e, c, d⟩ := st
    exact ⟨o, e, fun v z => by rw [d] at z; cases z⟩
  keep := fun i h h' st k => let ⟨o, e, r⟩ := st; ⟨o, k it (by simp) o e, r⟩
  item := by
    intro X hP hw hK hc i pins s σ H E I hf st hg
    subst hP hw hK
    obtain ⟨f0, f1, f2, f3, f4, f5⟩ := hf it (by simp)
    have hg' : i < x.cps.size := hg
    refine wpAny_pyNext_ascii_item st (c := x.cps[i]) (by simp [hg']) fun h' st' sb => ?_
    have I1 : Inv X pins σ H { s with heap := h', toks := s.toks + 1 } := I.turned (fun b o hb e => (sb.2 b hb).trans e) f0 f1 f3 f4 f5
    obtain ⟨o, e, c, d⟩ := id st'
    exact ⟨_, rfl, go_of (s := { s with heap := h', toks := s.toks + 1 }) e c d (by decide) ⟨.str ⟨#[x.cps[i]]⟩, H, I1, ⟨_, rfl⟩, ⟨rfl, _, by simp [hg'], rfl⟩, st', fun b hb => (hf b hb).1⟩⟩
  done := by
    intro X hP hw hK hc i pins s σ H E I hf st hg
    subst hP hw hK
    obtain ⟨f0, f1, f2, f3, f4, f5⟩ := hf it (by simp)
    have hg' : x.cps.size ≤ i := hg
    exact wpAny_pyNext_ascii_end (I.ok.hd hc) st (by simp [hg']) fun h' eb => ⟨rfl, I.turned (t' := s.toks) (fun b o hb e => eb b o hb e) f0 f1 f3 f4 f5⟩
  self := fun _ _ _ _ _ st h => wpAny_pyIter_striter_ascii st h
theorem turn_strW {P : Program} {w : World} {K : PySem.W.Frag} {tg : Expr} (it : Addr) (x : Str) (t : Tok) : Turn P w K tg (Itz x) [it] it (fun i h => h.IsStrIter it "str_iterator" x t i) where
  mem := by simp
  obj := fun i h st b hb => by
    have e : b = it := by simpa using hb
    subst e
    obtain ⟨o, e, c, d⟩ := st
    exact ⟨o, e, fun v z => by rw [d] at z; cases z⟩
  keep := fun i h h' st k => let ⟨o, e, r⟩ := st; ⟨o, k it (by simp) o e, r⟩
  item := by
    intro X hP hw hK hc i pins s σ H E I hf st hg
    subst hP hw hK
    obtain ⟨f0, f1, f2, f3, f4, f5⟩ := hf it (by simp)
    have hg' : i < x.cps.size := hg
    refine wpAny_pyNext_wide_item st (c := x.cps[i]) (by simp [hg']) fun h' st' sb => ?_
    have I1 : Inv X pins σ H { s with heap := h', toks := s.toks + 1 } := I.turned (fun b o hb e => (sb.2 b hb).trans e) f0 f1 f3 f4 f5
    obtain ⟨o, e, c, d⟩ := id st'
    exact ⟨_, rfl, go_of (s := { s with heap := h', toks := s.toks + 1 }) e c d (by decide) ⟨.str ⟨#[x.cps[i]]⟩, H, I1, ⟨_, rfl⟩, ⟨rfl, _, by simp [hg'], rfl⟩, st', fun b hb => (hf b hb).1⟩⟩
  done := by
    intro X hP hw hK hc i pins s σ H E I hf st hg
    subst hP hw hK
    obtain ⟨f0, f1, f2, f3, f4, f5⟩ := hf it (by simp)
    have hg' : x.cps.size ≤ i := hg
    exact wpAny_pyNext_wide_end (I.ok.hd hc) st (by simp [hg']) fun h' eb => ⟨rfl, I.turned (t' := s.toks) (fun b o hb e => eb b o hb e) f0 f1 f3 f4 f5⟩
  self := fun _ _ _ _ _ st h => wpAny_pyIter_striter_wide st h
section
variable {X : Cx} {tg : Expr}
def iStr (tl : TE) : TI := fun σ H R => tl σ H fun x H1 => ∃ z, x = .str z ∧ R (Itz z) H1
theorem pi_str {l : Expr} {tl : TE} (hl : PE X l tl) : PI X tg l (iStr tl) := by
  intro pins s σ H R I h
  refine thn (hl pins s σ H _ I h) fun v s1 ⟨x, H1, I1, r1, z, e, q⟩ => ?_
  subst e
  obtain ⟨t, rfl⟩ := r1
  have fp : ∀ b ∈ [s1.heap.objs.size], FpOk X pins H1 b := fun b hb => by
    have e : b = s1.heap.objs.size := by simpa using hb
    subst e
    exact I1.fpOk (Nat.le_refl _) (I1.hok.fresh (Nat.le_refl _))
  cases ha : z.cps.all (· < 128)
  · exact wpAny_pyIter_wide ha ⟨s1.heap.objs.size, [s1.heap.objs.size], _, _, H1, rfl, I1.kept (t' := s1.toks) fun b o e => Heap.get?_push_of_some _ e, turn_strW _ z t, ⟨_, Heap.get?_push_size _ rfl, rfl, rfl⟩, fp, q⟩
  · exact wpAny_pyIter_ascii ha ⟨s1.heap.objs.size, [s1.heap.objs.size], _, _, H1, rfl, I1.kept (t' := s1.toks) fun b o e => Heap.get?_push_of_some _ e, turn_strA _ z t, ⟨_, Heap.get?_push_size _ rfl, rfl, rfl⟩, fp, q⟩
end
/-- over the signs of a text -/
theorem comp_str {z : Str} {D : Addr} {te : TE} {Q : VK} {σ : St} {H1 : Hp} (Pv : Nat → List V → Hp → Prop) (h0 : Pv 0 [] (upd H1 D (.lst []))) (hz : z.cps.size ≤ sizeLine)
    (hl : ∀ i ys H2, i ≤ z.cps.size → Pv i ys H2 → H2 D = some (.lst ys) ∧ ys.length = i)
    (hs : ∀ i c ys H2, z.cps[i]? = some c → Pv i ys H2 → te (some (.str ⟨#[c]⟩) :: σ) H2 (CompNext D z.cps.size Pv i ys)) (hd : ∀ ys H2, Pv z.cps.size ys H2 → Q (.ref D) H2) :
    CompGoal (Itz z) te σ D H1 Q := by
  refine ⟨fun i m ys H => m = z.cps.size - i ∧ i ≤ z.cps.size ∧ Pv i ys H, ⟨z.cps.size, by simp, Nat.zero_le _, h0⟩, ?_⟩
  rintro i m ys H2 ⟨rfl, hi, p⟩
  obtain ⟨q2, q3⟩ := hl i ys H2 hi p
  refine ⟨q2, ?_⟩
  by_cases hlt : i < z.cps.size
  · refine .inr ⟨hlt, by omega, fun x H3 y => ?_⟩
    obtain ⟨e, c, y, ex⟩ := y
    subst e ex
    exact hs i c ys _ y p
  · have e : i = z.cps.size := by omega
    subst e
    exact .inl ⟨Nat.le_refl _, hd ys H2 p⟩
/-- a comprehension over the signs of a text whose items are what p says -/
theorem comp_strB {z : Str} {D : Addr} {te : TE} {Q : VK} {σ : St} {H1 : Hp} (p : Nat → Bool) (hz : z.cps.size ≤ sizeLine) (hD : H1 D = none)
    (hs : ∀ (c : Nat) (H2 : Hp) (Q2 : VK), c ∈ z.cps.toList → Same H1 H2 → (∀ H3, Same H2 H3 → Q2 (.bl (p c)) H3) → te (some (.str ⟨#[c]⟩) :: σ) H2 Q2)
    (hd : ∀ H2, Same H1 H2 → H2 D = some (.lst ((z.cps.toList.map p).map V.bl)) → Q (.ref D) H2) : CompGoal (Itz z) te σ D H1 Q := by
  refine comp_str (fun i ys H2 => ys = ((z.cps.toList.take i).map p).map V.bl ∧ Same H1 H2 ∧ H2 D = some (.lst ys)) ⟨by simp, same_new hD, upd_same⟩ hz ?_ ?_ ?_
  · rintro i ys H2 hi ⟨rfl, s2, h2⟩
    exact ⟨h2, by simp; omega⟩
  · rintro i c ys H2 hi ⟨rfl, s2, h2⟩
    have hi' : z.cps.toList[i]? = some c := by rw [Array.getElem?_toList]; exact hi
    refine hs c H2 _ (List.mem_of_getElem? hi') s2 fun H3 s3 => ?_
    refine CompNext.mk (Array.getElem?_eq_some_iff.mp hi).1 (s3 _ _ h2) ⟨?_, (s2.trans s3).own hD, upd_same⟩
    rw [List.take_add_one, hi']
    simp
  · rintro ys H2 ⟨rfl, s2, h2⟩
    refine hd H2 s2 (h2.trans ?_)
    rw [List.take_of_length_le (by simp)]
/-! ### texts written one behind the other -/
inductive Strs : List Expr → List Str → Prop
  | nil : Strs [] []
  | cons {x : Str} {j : _} {p : Pos} {es : List Expr} {ss : List Str} : Strs es ss → Strs (.Constant (.str x) j p :: es) (x :: ss)
theorem pa_strs {X : Cx} {es : List Expr} {ss : List Str} (h : Strs es ss) : PA X es (fun _ H Q => Q (ss.map V.str) H) := by
  induction h with
  | nil => exact pa_nil
  | cons _ ih => exact pa_cons pe_str ih
end L2

namespace L2
open PySem PySem.Spec PyProof.Rows

/-! ### a comprehension whose target is any, whose item may raise -/
structure CompScopeG (scope outer : Scope) (xs N M : List Str) : Prop where
  kind : scope.kind = .function
  okind : outer.kind = .function
  nocell : ∀ y ∈ scope.names, y.2 ≠ .cell
  names : ∀ y ∈ scope.names, y.2 = .local → scope.names.lookup y.1 = some .local
  hx : ∀ x ∈ xs, scope.names.lookup x = some .local
  free : ∀ y ∈ scope.names, y.2 = .free → outer.names.lookup y.1 = some .cell
  nl : ∀ n ∈ M, (relabelS scope outer).names.lookup n ≠ some .local
  nd2 : (xs ++ M).Nodup
  nd : N.Nodup
  len : M.length = N.length
  rel : ∀ i : Nat, i < N.length → M[i]? = N[i]? ∨ M[i]? = some Str.empty
  em : (relabelS scope outer).names.lookup Str.empty = none
theorem CompScopeG.mem {scope outer : Scope} {xs : List Str} {N M : List Str} (S : CompScopeG scope outer xs N M) {n : Str} {k : NameKind} (h : (relabelS scope outer).names.lookup n = some k) (hk : k = .cell ∨ k = .free) :
    k = .cell ∧ (n, NameKind.free) ∈ scope.names ∧ outer.names.lookup n = some .cell := by
  obtain ⟨⟨n', k'⟩, hm, e⟩ := List.mem_map.mp (PySem.mem_of_lookup h)
  dsimp only at e
  by_cases hc : (k' == NameKind.free && outer.kind == .function && outer.names.lookup n' == some .cell) = true
  · rw [if_pos hc] at e
    injection e with e1 e2
    subst e1 e2
    rw [Bool.and_eq_true, Bool.and_eq_true] at hc
    have hk' : k' = .free := beq_iff_eq.mp hc.1.1
    subst hk'
    exact ⟨rfl, hm, beq_iff_eq.mp hc.2⟩
  · rw [if_neg hc] at e
    injection e with e1 e2
    subst e1 e2
    rcases hk with z | z
    · exact absurd z (S.nocell _ hm)
    · subst z
      exfalso
      refine hc ?_
      rw [S.free _ hm rfl, S.okind]
      rfl
def compCxG (X : Cx) (xs M : List Str) (scope : Scope) (cl : List (Str × Addr)) (C : Addr) (s : Shared) (H : Hp) (fp : List Addr) : Cx :=
  { X with N := xs ++ M, s₀ := s, H₀ := H, env := compEnvC scope cl C X.env, outer := X.stack, ex := fp, fn := fun _ => false, pn := [], xe := fun _ _ => False }
/-- n: how many names the target has -/
def CompGoalG (n : Nat) (J : It) (g : TG) (te : TEX) (σ : St) (D : Addr) (H1 : Hp) (Q : VK) (E : XK) : Prop := ∃ W : Nat → Nat → List V → Hp → Prop, (∃ m, W 0 m [] (upd H1 D (.lst []))) ∧ ∀ i m ys H2, W i m ys H2 →
  H2 D = some (.lst ys) ∧ ((J.stop i H2 ∧ Q (.ref D) H2) ∨ (J.go i H2 ∧ ys.length < sizeLine ∧ ∀ x H3, J.yld i H2 x H3 → ∀ vs : St, vs.length = n → g x (vs ++ σ) H3 fun σ' H4 => ∃ ws : St, ws.length = n ∧ σ' = ws ++ σ ∧
    te σ' H4 (fun y H5 => H5 D = some (.lst ys) ∧ ∃ m', m' < m ∧ W (i + 1) m' (ys ++ [y]) (upd H5 D (.lst (ys ++ [y])))) E))
def tCompG (n : Nat) (wi : TI) (g : TG) (te : TEX) : TEX := fun σ H Q E => wi σ H fun J H1 => ∀ D, H1 D = none → CompGoalG n J g te σ D H1 Q E

section
variable {prog : Program} {w : World} {A : Around} {R : Result → Shared → Prop} {s : Shared}
theorem compLoop_G {elt target iter : Expr} {scope : Scope} {pos : Pos} {it acc : Value} {env : Env} (I : Nat → Shared → Prop)
    (turn : ∀ n s, I n s → wpAny (model prog w) A (pyNext it) (fun r s₁ => match r with
      | none => R (.ok .next) s₁
      | some v => wpAny (model prog w) A (letOwnedTupleGo target it v) (fun _ s₀ => wpAny (model prog w) A (assign target env v) (fun _ s₂ =>
          wpAny (model prog w) A (eval elt env) (fun x s₄ =>
              wpAny (model prog w) A (call (.builtin "list.append") [acc, x]) (fun _ s₅ => ∃ m, m < n ∧ I m s₅) (notedBy (model prog w) A env fun e s' => R (.error e) s') s₄) (notedBy (model prog w) A env fun e s' => R (.error e) s') s₂)
            (notedBy (model prog w) A env fun e s' => R (.error e) s') s₀) (notedBy (model prog w) A env fun e s' => R (.error e) s') s₁) (notedBy (model prog w) A env fun e s' => R (.error e) s') s)
    (n : Nat) (h : I n s) :
    codeAny (model prog w) A (.compLoop (.ListComp elt [⟨target, iter, [], 0⟩] scope pos) 0 it acc env) R s := by
  refine codeAny_loop rfl I (fun n s hI => ?_) n h
  show wpAny _ A ((compTurn (.ListComp elt [⟨target, iter, [], 0⟩] scope pos) 0 it acc env).onRaise (fun x => do noteFrame x env; theTreesLotGoes x)) _ _ s
  refine wpAny_noted ?_
  rw [compTurn_list]
  refine wpAny_bind (wpAny_standAt (wpAny_bind (wpAny_mono (turn n s hI) (fun r s₁ h₁ => ?_) fun _ _ h' => h')))
  cases r with
  | none => exact wpAny_pure h₁
  | some v =>
    refine wpAny_bind (wpAny_mono h₁ (fun _ s₀ h₀ => ?_) fun _ _ h' => h')
    refine wpAny_bind (wpAny_mono h₀ (fun _ s₂ h₂ => wpAny_bind (wpAny_tests_nil ?_)) fun _ _ h' => h')
    exact wpAny_bind (wpAny_bind (wpAny_mono h₂ (fun x s₄ h₄ => wpAny_bind (wpAny_mono h₄ (fun _ s₅ h₅ => wpAny_pure (wpAny_pure ⟨rfl, h₅⟩)) fun _ _ h' => h')) fun _ _ h' => h'))
end

section
variable {X : Cx} {pins : List (Addr × Obj)} {σ : St} {H : Hp} {s : Shared} {elt iter tg : Expr} {xs : List Str} {px pos : Pos} {scope : Scope} {wi : TI} {te : TEX} {g : TG} {Q : VK} {E : XK} {M : List Str}
theorem comp_okG {cl : List (Str × Addr)} {C : Addr} {fp : List Addr} (S : CompScopeG scope X.env.scope xs X.N M) (I : Inv X pins σ H s) (hC : s.heap.objs.size ≤ C) (p1 : ∀ n c, cl.lookup n = some c → X.env.cells.lookup n = some c)
    (p3 : ∀ y ∈ scope.names, y.2 = .free → (cl.lookup y.1).isSome = true) (f2 : ∀ b ∈ fp, FpOk X pins H b) (fo : ∀ b ∈ fp, b < s.heap.objs.size) : (compCxG X xs M scope cl C s H fp).Ok where
  mod := I.ok.mod
  kind := S.kind
  glob := I.ok.glob
  blt := I.ok.blt
  above := hC
  inj := fun y z c h1 h2 => I.ok.inj y z c (p1 y c h1) (p1 z c h2)
  has := fun y hy => by
    have hy' : (relabelS scope X.env.scope).names.lookup y = some .cell ∨ (relabelS scope X.env.scope).names.lookup y = some .free := hy
    have hm : (y, NameKind.free) ∈ scope.names := by
      rcases hy' with z | z
      · exact (S.mem z (.inl rfl)).2.1
      · exact (S.mem z (.inr rfl)).2.1
    exact Option.isSome_iff_exists.mp (p3 _ hm rfl)
  cab := fun y c h => absurd h Bool.false_ne_true
  hd := I.ok.hd
  frames := I.ok.frames
  stk := .inl rfl
  exf := fun b hb => ⟨Nat.ne_of_lt (Nat.lt_of_lt_of_le (fo b hb) hC), fun y c e => (f2 b hb).2.2.2.2.1 y c (p1 y c e)⟩
  bs := I.bs
  bsz := Nat.le_trans I.ok.bsz I.sz
  noex := fun b o e hb => by
    rcases (f2 b hb).2.2.2.1 with z | z
    · exact I.ok.noex b o e z
    · exact absurd (Nat.lt_of_lt_of_le (Heap.lt_size (I.ok.bs b o e).1) z) (Nat.lt_irrefl _)
  exfs := fun b hb z => by
    rcases List.mem_cons.mp (I.stkSub b z) with e | e
    · exact (f2 b hb).2.1 e
    · exact (f2 b hb).2.2.1 e
  funs := I.stack
  frf := I.stkFree
theorem comp_invG {cl : List (Str × Addr)} {C D : Addr} {fp : List Addr} {h₁ : Heap} {tk : Nat} {m : Str → Option Value} (S : CompScopeG scope X.env.scope xs X.N M) (I : Inv X pins σ H s) (hC : s.heap.objs.size ≤ C) (hD : s.heap.objs.size ≤ D) (hDC : D ≠ C)
    (p1 : ∀ n c, cl.lookup n = some c → X.env.cells.lookup n = some c)
    (p3 : ∀ y ∈ scope.names, y.2 = .free → (cl.lookup y.1).isSome = true) (f2 : ∀ b ∈ fp, FpOk X pins H b) (fo : ∀ b ∈ fp, b < s.heap.objs.size)
    (old : ∀ b o, s.heap.get? b = some o → h₁.get? b = some o) (hn : h₁.Ns C m) (hl : h₁.get? D = some { cls := .type "list", data := .seq ([] : List Value).toArray }) :
    Inv (compCxG X xs M scope cl C s H fp) [] (List.replicate xs.length none ++ σ) (upd H D (.lst [])) { s with heap := h₁, toks := tk } := by
  have cellK : ∀ c v, s.heap.IsCell c v → h₁.IsCell c v := fun c v ⟨o, e, d⟩ => ⟨o, old c o e, d⟩
  refine ⟨comp_okG S I hC p1 p3 f2 fo, rfl, I.bare, Un.laid old hD (I.hok.fresh hD), ⟨m, hn, fun i n v h1 h2 h3 => ?_⟩, fun y c e => ?_, ?_, fun y c e => ?_, fun p hp => absurd (show p ∈ ([] : List (Addr × Obj)) from hp) (by simp), I.hok.laid old hD ⟨Nat.zero_le _, [], 0, .nil, hl⟩, ?_⟩
  · have h1' : (xs ++ M)[i]? = some n := h1
    by_cases hi : i < xs.length
    · rw [List.getElem?_append_left (by rw [List.length_replicate]; exact hi), List.getElem?_replicate, if_pos hi] at h2
      cases h2
    · rw [List.getElem?_append_right (by omega)] at h1'
      rw [List.getElem?_append_right (by rw [List.length_replicate]; omega), List.length_replicate] at h2
      generalize i - xs.length = i at h1' h2
      have h3' : (relabelS scope X.env.scope).names.lookup n = some .local ∨ (relabelS scope X.env.scope).names.lookup n = some .cell ∨ (relabelS scope X.env.scope).names.lookup n = some .free := h3
      have hcell : (relabelS scope X.env.scope).names.lookup n = some .cell ∧ (n, NameKind.free) ∈ scope.names ∧ X.env.scope.names.lookup n = some .cell := by
        rcases h3' with z | z | z
        · exact absurd z (S.nl n (List.mem_of_getElem? h1'))
        · exact ⟨z, (S.mem z (.inl rfl)).2⟩
        · exact absurd (S.mem z (.inr rfl)).1 (by decide)
      have h1'' : X.N[i]? = some n := by
        have hi : i < X.N.length := by rw [← S.len]; exact (List.getElem?_eq_some_iff.mp h1').1
        rcases S.rel i hi with z | z
        · rw [← z]; exact h1'
        · rw [h1'] at z
          have e : n = Str.empty := Option.some.inj z
          rw [e, S.em] at hcell
          cases hcell.1
      obtain ⟨m0, hn0, hl0⟩ := I.loc
      obtain ⟨u, r, l⟩ := hl0 i n v h1'' h2 (.inr (.inl hcell.2.2))
      refine ⟨u, r, .inr ⟨.inl hcell.1, ?_⟩⟩
      obtain ⟨c, hc⟩ := Option.isSome_iff_exists.mp (p3 _ hcell.2.1 rfl)
      refine ⟨c, hc, ?_⟩
      rcases l with ⟨k, _⟩ | ⟨_, c', hc', z⟩
      · have k' : X.env.scope.names.lookup n = some .local := k
        rw [hcell.2.2] at k'; cases k'
      · rw [p1 n c hc] at hc'
        cases hc'
        exact cellK c _ z
  · obtain ⟨v, z⟩ := I.cell y c (p1 y c e)
    exact ⟨v, cellK c v z⟩
  · show (upd H D (.lst [])) C = none
    rw [upd_ne (Ne.symm hDC)]
    exact I.hok.fresh hC
  · obtain ⟨v, z⟩ := I.cell y c (p1 y c e)
    rw [upd_ne (Nat.ne_of_lt (Nat.lt_of_lt_of_le z.lt hD))]
    exact I.freeC y c (p1 y c e)
  · show (List.replicate xs.length none ++ σ).length = (xs ++ M).length
    rw [List.length_append, List.length_append, List.length_replicate, I.len, S.len]
/-- an exception leaves the block -/
def XPC (X : Cx) (pins : List (Addr × Obj)) (σ : St) (E : XK) (C : Addr) (ea : Addr) (s' : Shared) : Prop :=
  ∃ (cls : Value) (xd : Option Addr) (m : Value) (H' : Hp) (o : Obj), Inv X (pins ++ [(C, o)]) σ H' s' ∧ (∃ mC, s'.heap.Ns C mC) ∧ X.s₀.heap.objs.size ≤ C ∧ (∀ y c, X.env.cells.lookup y = some c → c ≠ C) ∧ (∀ p ∈ X.pn ++ pins, p.1 ≠ C) ∧ XAt X (pins ++ [(C, o)]) H' s'.heap ea cls xd (some m) ∧ E cls xd H'
theorem comp_coreG {cl : List (Str × Addr)} {RR : Value → Addr → Result → Shared → Prop} {xe : Value → Shared → Prop} (F1 : Fr1 X) (S : CompScopeG scope X.env.scope xs X.N M) (hc : X.calm = true) (hi : PI X.nox tg iter wi)
    (hg : ∀ cl C s H fp, PG (compCxG X xs M scope cl C s H fp) tg g)
    (he : ∀ cl C s H fp, PEX (compCxG X xs M scope cl C s H fp) elt te) (I : Inv X pins σ H s) (h : tCompG xs.length wi g te σ H Q E)
    (p1 : ∀ n c, cl.lookup n = some c → X.env.cells.lookup n = some c) (p3 : ∀ y ∈ scope.names, y.2 = .free → (cl.lookup y.1).isSome = true)
    (hRR : ∀ D C H' s' o m, Inv X (pins ++ [(C, o)]) σ H' s' → s'.heap.get? C = some o → s'.heap.Ns C m → X.s₀.heap.objs.size ≤ C → (∀ y c, X.env.cells.lookup y = some c → c ≠ C) → (∀ p ∈ X.pn ++ pins, p.1 ≠ C) → Q (.ref D) H' → RR (.ref D) C (.ok .next) s')
    (hRX : ∀ D C ea s', XPC X pins σ E C ea s' → RR (.ref D) C (.error (.ref ea)) s') :
    wpAny (model X.prog X.w) X.A (eval iter X.env) (fun xv s₁ => wpAny (model X.prog X.w) X.A (pyIter xv) (fun it s₂ => wpAny (model X.prog X.w) X.A (newList []) (fun acc s₃ =>
      wpAny (model X.prog X.w) X.A (newFunctionEnv scope X.env.globals cl [] X.env.qual none .none (some X.env)) (fun cenv s₄ =>
        codeAny (model X.prog X.w) X.A (.compStart (.ListComp elt [⟨tg, iter, [], 0⟩] scope pos) 0 it acc { cenv with scope := relabel scope X.env }) (RR acc cenv.locals) s₄) xe s₃) xe s₂) xe s₁) xe s := by
  refine wpAny_mono (hi pins s σ H _ (I.wish _) h) (fun v s1 h1 => wpAny_mono h1 (fun itv s2 h2 => ?_) fun _ _ z => False.elim z) fun _ _ z => False.elim z
  obtain ⟨it, fp, tn, J, H2, rfl, I2', T, st2, f2', q⟩ := h2
  have I2 : Inv X pins σ H2 s2 := I2'.unwish
  have f2 : ∀ b ∈ fp, FpOk X pins H2 b := f2'
  refine wpAny_newObj_type (wpAny_newFunctionEnv S.nocell (by intro y hy; simp at hy) (fun h₁ hns₁ hsb₁ => ?_) S.kind)
  dsimp only at hns₁ hsb₁ ⊢
  generalize hHH : s2.heap.push { cls := .type "list", dict := none, data := .seq ([] : List Value).toArray } = HH at hns₁ hsb₁ ⊢
  have hCs : HH.objs.size = s2.heap.objs.size + 1 := by rw [← hHH, Heap.size_push]
  have hDC : s2.heap.objs.size ≠ HH.objs.size := by rw [hCs]; exact Nat.ne_of_lt (Nat.lt_succ_self _)
  have hCle : s2.heap.objs.size ≤ HH.objs.size := by rw [hCs]; exact Nat.le_succ _
  have below : ∀ b, b < s2.heap.objs.size → b ≠ HH.objs.size := fun b hb => by rw [hCs]; exact Nat.ne_of_lt (Nat.lt_succ_of_lt hb)
  have old : ∀ b o, s2.heap.get? b = some o → h₁.get? b = some o := fun b o e => hsb₁.extBut b o (below b (Heap.lt_size e)) (Heap.get?_push_of_some _ (hHH ▸ Heap.get?_push_of_some _ e))
  have hacc : h₁.get? s2.heap.objs.size = some { cls := .type "list", data := .seq ([] : List Value).toArray } := hsb₁.extBut _ _ hDC (Heap.get?_push_of_some _ (hHH ▸ Heap.get?_push_size _ rfl))
  have fo : ∀ b ∈ fp, b < s2.heap.objs.size := fun b hb => by
    obtain ⟨o, e, _⟩ := T.obj _ _ st2 b hb
    exact Heap.lt_size e
  have IY := comp_invG (tk := s2.toks + ([] : List (Str × Value)).length) S I2 hCle (Nat.le_refl _) hDC p1 p3 f2 fo old hns₁ hacc
  have st1 : tn 0 h₁ := T.keep _ _ _ st2 fun b _ o e => old b o e
  obtain ⟨W, ⟨m0, w0⟩, turn⟩ := q _ (I2.hok.fresh (Nat.le_refl _))
  generalize hC : HH.objs.size = C at *
  generalize hDD : s2.heap.objs.size = D at *
  have hCs2 : s2.heap.objs.size ≤ C := by rw [hDD]; exact hCle
  have stat : ∀ {H' : Hp}, (∀ b ∈ fp, H' b = none) → ∀ b ∈ fp, FpOk (compCxG X xs M scope cl C s2 H2 fp) [] H' b := fun hn b hb =>
    ⟨hn b hb, below b (fo b hb), IY.ok.exfs b hb, .inl hb, fun y c e => (f2 b hb).2.2.2.2.1 y c (p1 y c e), fun p hp => absurd (show p ∈ ([] : List (Addr × Obj)) from hp) (by simp)⟩
  -- back in the outer frame
  have out : ∀ {H' : Hp} {s' : Shared} {σ' : St} {pl : List (Addr × Obj)}, Inv (compCxG X xs M scope cl C s2 H2 fp) pl σ' H' s' → ∃ oC mC, Inv X (pins ++ [(C, oC)]) σ H' s' ∧ s'.heap.get? C = some oC ∧ s'.heap.Ns C mC ∧ FpOk X pins H' C := fun {H' s' σ' pl} I4 => by
    obtain ⟨m4, hn4, _⟩ := I4.loc
    obtain ⟨oC, es4, ep4, e4, r4⟩ := id hn4
    have IX : Inv X pins σ H' s' := I2.call' (ch := fp) I4.os I4.base I4.hok I4.bare fun b hb => ⟨(f2 b hb).2.2.2.1, (f2 b hb).2.1, (f2 b hb).2.2.2.2.1, (f2 b hb).2.2.2.2.2⟩
    have fC := I2.fpOk (H' := H') hCs2 I4.free
    have IX2 : Inv X (pins ++ [(C, oC)]) σ H' s' := IX.pins_of fun p hp => (List.mem_append.mp hp).elim (fun z => IX.pin p (List.mem_append_right _ z)) fun z => by
      have e : p = (C, oC) := by simpa using z
      subst e
      exact ⟨e4, fC.1, fC.2.1, fC.2.2.1, fun v z => by rw [r4.1] at z; cases z⟩
    exact ⟨oC, m4, IX2, e4, hn4, fC⟩
  -- an exception
  have exo : ∀ {e : Value} {s' : Shared} {σ' : St} {pl : List (Addr × Obj)}, XP (compCxG X xs M scope cl C s2 H2 fp) pl σ' E e s' → notedBy (model X.prog X.w) X.A (compEnvC scope cl C X.env) (fun e s'' => RR (.ref D) C (.error e) s'') e s' := fun {e s' σ' pl} xp => by
    obtain ⟨ea, cls, xd, m, H', rfl, I4, hx, _, qe⟩ := xp
    obtain ⟨oC, mC, IX2, e4, hn4, fC⟩ := out I4
    have fpx : ∀ {b : Addr}, FpOk (compCxG X xs M scope cl C s2 H2 fp) pl H' b → FpOk X (pins ++ [(C, oC)]) H' b := fun {b} z => by
      have base : FpOk X pins H' b := by
        rcases z.2.2.2.1 with y | y
        · exact ⟨z.1, (f2 b y).2⟩
        · exact I2.fpOk y z.1
      refine ⟨base.1, base.2.1, base.2.2.1, base.2.2.2.1, base.2.2.2.2.1, fun p hp => ?_⟩
      rcases List.mem_append.mp hp with y | y
      · exact base.2.2.2.2.2 p (List.mem_append_left _ y)
      · rcases List.mem_append.mp y with y | y
        · exact base.2.2.2.2.2 p (List.mem_append_right _ y)
        · have e : p = (C, oC) := by simpa using y
          subst e
          exact fun e => z.2.1 e.symm
    have hx' : XAt X (pins ++ [(C, oC)]) H' s'.heap ea cls xd m := by
      obtain ⟨ok, sl, vs, he', hz, hm⟩ := hx
      refine ⟨fpx ok, sl, vs, he', hz, ?_⟩
      cases m with
      | none => exact hm
      | some m => obtain ⟨T', oT, ts, a, b, c, d⟩ := hm; exact ⟨T', oT, ts, a, b, fpx c, d⟩
    have hmk : MOk X m := by cases m with | none => exact .inl rfl | some m => exact .inr (.inr ⟨m, rfl⟩)
    show wpAny _ _ (noteFrame (.ref ea) X.env) _ _ s'
    refine note_x F1 IX2.ok.frames IX2 hx' hmk fun s5 I5 x5 => ?_
    refine hRX D C ea s5 ⟨cls, xd, _, H', oC, I5, ?_, Nat.le_trans I2.sz hCs2, fC.2.2.2.2.1, fC.2.2.2.2.2, x5, qe⟩
    have pC := I5.pin (C, oC) (List.mem_append_right _ (List.mem_append_right _ (by simp)))
    obtain ⟨o', es, ep, e0, r⟩ := hn4
    rw [e4] at e0
    cases e0
    exact ⟨mC, oC, es, ep, pC.1, r⟩
  have loop : codeAny (model X.prog X.w) X.A (.compLoop (.ListComp elt [⟨tg, iter, [], 0⟩] scope pos) 0 (.ref it) (.ref D) (compEnvC scope cl C X.env)) (RR (.ref D) C) { s2 with heap := h₁, toks := s2.toks + ([] : List (Str × Value)).length } := by
    refine compLoop_G (fun n s' => ∃ i vs ys H', Inv (compCxG X xs M scope cl C s2 H2 fp) [] (vs ++ σ) H' s' ∧ vs.length = xs.length ∧ tn i s'.heap ∧ (∀ b ∈ fp, H' b = none) ∧ W i n ys H') ?_ m0 ⟨0, List.replicate xs.length none, [], _, IY, List.length_replicate, st1, fun b hb => ?_, w0⟩
    · rintro n s3 ⟨i, vs, ys, H3, I3, hvs, st3, fr3, w3⟩
      obtain ⟨hDl, hw⟩ := turn i n ys H3 w3
      rcases hw with ⟨stop, qn⟩ | ⟨go, hsz, step⟩
      · refine thn (T.done (compCxG X xs M scope cl C s2 H2 fp) rfl rfl rfl hc i [] s3 _ H3 _ I3 (stat fr3) st3 stop) fun r s4 ⟨hr, I4⟩ => ?_
        subst hr
        obtain ⟨oC, m4, IX2, e4, hn4, fC⟩ := out I4
        exact hRR D C H3 s4 oC m4 IX2 e4 hn4 (Nat.le_trans I2.sz hCs2) fC.2.2.2.2.1 fC.2.2.2.2.2 qn
      · refine thn (T.item (compCxG X xs M scope cl C s2 H2 fp) rfl rfl rfl hc i [] s3 _ H3 _ I3 (stat fr3) st3 go) fun r s4 ⟨u, hr, h4⟩ => ?_
        subst hr
        refine thn h4 fun _ s5 ⟨xv, H5, I5, r5, y5, st5, fr5⟩ => ?_
        have I5' := I5.pinned (stat fr5) (T.obj _ _ st5)
        refine wpAny_mono (hg cl C s2 H2 fp _ s5 _ H5 xv u _ I5' r5 (step xv H5 y5 vs hvs)) (fun _ s6 ⟨σ6, H6, I6, ws, hws, e6, q6⟩ => ?_) (fun _ _ f => f.elim)
        subst e6
        refine wpAny_mono (he cl C s2 H2 fp _ s6 _ H6 _ E I6 q6) (fun y s7 ⟨yv, H7, I7, r7, hD7, m', hm', w7⟩ => ?_) (fun _ _ f => exo f)
        refine wpAny_mono (mt_append (X := compCxG X xs M scope cl C s2 H2 fp) _ s7 _ H7 (.ref D) [yv] (.ref D) [y] (fun _ H8 => H8 = upd H7 D (.lst (ys ++ [yv]))) I7 rfl (.cons r7 .nil) ⟨D, ys, yv, rfl, rfl, hD7, hsz, rfl⟩)
          (fun _ s8 ⟨_, H8, I8, _, e8⟩ => ?_) (fun _ _ f => f.elim)
        subst e8
        refine ⟨m', hm', i + 1, ws, ys ++ [yv], _, I8.unpinned, hws, T.keep _ _ _ st5 fun b hb o e => (I8.pin (b, o) (List.mem_append_right _ (List.mem_append_right _ (mem_pinsAt hb e)))).1, fun b hb => ?_, w7⟩
        obtain ⟨o, e, d⟩ := T.obj _ _ st5 b hb
        exact (I8.pin (b, o) (List.mem_append_right _ (List.mem_append_right _ (mem_pinsAt hb e)))).2.1
    · show (upd H2 D (.lst [])) b = none
      rw [upd_ne (Nat.ne_of_lt (fo b hb))]
      exact (f2 b hb).1
  exact codeAny_compStart_list loop (T.self _ 0 _ _ _ st1 loop)
/-- the block's names go, the exception flies on -/
theorem xpc_out {C ea : Addr} {s' : Shared} {h' : Heap} {cenv : Env} {α : Type} {w1 : String} {Q' : α → Shared → Prop} (x : XPC X pins σ E C ea s') (hs' : Heap.SameBut C s'.heap h') :
    wpAny (model X.prog X.w) X.A (passOn w1 (.ref ea) cenv : Sem α) Q' (XP X pins σ E) { s' with heap := h' } := by
  obtain ⟨cls, xd, m, H', o, I5, ⟨mC, hn⟩, h0, h1, h2, hx, qe⟩ := x
  have pC := I5.pin (C, o) (List.mem_append_right _ (List.mem_append_right _ (by simp)))
  have IX : Inv X pins σ H' s' := I5.unpinned
  have I6 : Inv X pins σ H' { s' with heap := h' } := IX.turned (t' := s'.toks) (fun b ob hb e => (hs'.2 b hb).trans e) pC.2.1 pC.2.2.1 (.inr h0) h1 h2
  have ne : ∀ {b : Addr}, FpOk X (pins ++ [(C, o)]) H' b → b ≠ C := fun {b} z e => z.2.2.2.2.2 (C, o) (List.mem_append_right _ (List.mem_append_right _ (by simp))) e.symm
  obtain ⟨ok, sl, vs, he, hz, T, oT, ts, a1, nT, fT, hT, hd, h3⟩ := hx
  have x6 : XAt X pins H' h' ea cls xd (some m) := ⟨ok.drop, sl, vs, (hs'.2 ea (ne ok)).trans he, hz, T, oT, ts, a1, nT, fT.drop, (hs'.2 T (ne fT)).trans hT, hd, h3⟩
  unfold PySem.passOn
  refine wpAny_bind (wpAny_field (s := { s' with heap := h' }) ((hs'.2 ea (ne ok)).trans he) rfl a1 ?_)
  rw [if_neg (show ¬ ((Value.ref T == Value.none) = true) by simp)]
  have step : wpAny (model X.prog X.w) X.A (do setFlight (.ref ea) cenv.frame; throw (.ref ea) : Sem α) Q' (XP X pins σ E) { s' with heap := h' } :=
    wpAny_bind (flight_x I6 x6 fun s2 I2 x2 => wpAny_throw ⟨ea, cls, xd, _, H', rfl, I2, x2, .inr (.inr ⟨_, rfl⟩), qe⟩)
  first
    | exact step
    | exact wpAny_bind (wpAny_pure step)
theorem PEX.pe {e : Expr} {t : TEX} (h : PEX X e t) : PE X e (fun σ H Q => t σ H Q E0) := fun pins s σ H Q I hw =>
  wpAny_mono (h pins s σ H Q E0 I hw) (fun _ _ z => z) fun _ _ ⟨_, _, _, _, _, _, _, _, _, z⟩ => z.elim
theorem pex_comp (F1 : Fr1 X) (S : CompScopeG scope X.env.scope xs X.N M) (hc : X.calm = true) (hi : PI X.nox tg iter wi) (hg : ∀ cl C s H fp, PG (compCxG X xs M scope cl C s H fp) tg g)
    (he : ∀ cl C s H fp, PEX (compCxG X xs M scope cl C s H fp) elt te)
    (hs : ∀ x, foldedSetIterable iter X.env x = pure x := by intro _; rfl) : PEX X (.ListComp elt [⟨tg, iter, [], 0⟩] scope pos) (tCompG xs.length wi g te) := by
  intro pins s σ H Q E I h
  obtain ⟨cl, hclos, p1, p3⟩ := clos_some (scope := scope) (env := X.env) (fun y hy hf => I.ok.has y.1 (.inl (S.free y hy hf)))
  rw [eval_ListComp]
  refine wpAny_comprehension_free (use := none) rfl hs hclos S.kind S.names (comp_coreG (RR := fun acc C => compPost (model X.prog X.w) X.A (XP X pins σ E) none (EP X pins σ Q) acc C) F1 S hc hi hg he I h p1 p3 ?_ ?_)
  · intro D C H' s' o m I' e hn h0 h1 h2 q
    refine ⟨m, hn, fun h' hs' => ?_⟩
    have pC := I'.pin (C, o) (List.mem_append_right _ (List.mem_append_right _ (by simp)))
    have IX : Inv X pins σ H' s' := I'.unpinned
    exact ⟨.ref D, H', IX.turned (t' := s'.toks) (fun b ob hb e => (hs'.2 b hb).trans e) pC.2.1 pC.2.2.1 (.inr h0) h1 h2, rfl, q⟩
  · intro D C ea s' x
    obtain ⟨_, _, _, _, _, _, ⟨mC, hn⟩, _⟩ := id x
    exact ⟨mC, hn, fun h' hs' cenv _ => xpc_out x hs'⟩
/-- y = [..] -/
theorem psx_setComp {i : Nat} {y : Str} {py spos : Pos} (F1 : Fr1 X) (S : CompScopeG scope X.env.scope xs X.N M) (hc : X.calm = true) (hj : X.N[i]? = some y) (hy : Loc X.env.scope y) (hi : PI X.nox tg iter wi) (hg : ∀ cl C s H fp, PG (compCxG X xs M scope cl C s H fp) tg g)
    (he : ∀ cl C s H fp, PEX (compCxG X xs M scope cl C s H fp) elt te)
    (hsw : swapsWith (.ListComp elt [⟨tg, iter, [], 0⟩] scope pos) (some (.Name y py)) spos.line X.env = pure true := by rfl)
    (hf : X.fn y = true ∨ X.env.scope.names.lookup y = some .local := by first | exact .inl rfl | exact .inr rfl | assumption)
    (hs : ∀ x, foldedSetIterable iter X.env x = pure x := by intro _; rfl) : PSX X (.Assign [.Name y py] (.ListComp elt [⟨tg, iter, [], 0⟩] scope pos) spos) (fun D E σ H => tCompG xs.length wi g te σ H (fun v H1 => D.nx (σ.set i (some v)) H1) (E σ)) := by
  intro pins s σ H D E I h
  obtain ⟨cl, hclos, p1, p3⟩ := clos_some (scope := scope) (env := X.env) (fun y hy hf => I.ok.has y.1 (.inl (S.free y hy hf)))
  rw [exec_Assign_Name_used _ _ _ _ hsw]
  refine wpAny_bind (wpAny_standAt (wpAny_bind ?_))
  show wpAny _ _ (do let _ ← comprehension (.ListComp elt [⟨tg, iter, [], 0⟩] scope pos) scope X.env _ (newList []) false (eval iter X.env) (some (assign (.Name y py) X.env))) _ _ s
  refine wpAny_bind (wpAny_mono (wpAny_comprehension_free (use := some (assign (.Name y py) X.env)) (Q := fun _ s' => SP X pins D .next s') rfl hs hclos S.kind S.names
    (comp_coreG (RR := fun acc C => compPost (model X.prog X.w) X.A (XP X pins σ (E σ)) (some (assign (.Name y py) X.env)) (fun _ s' => SP X pins D .next s') acc C) F1 S hc hi hg he I h p1 p3 ?_ ?_)) (fun _ s' hq => wpAny_pure (wpAny_pure hq)) fun _ _ e => ⟨σ, e⟩)
  · intro Dd C H' s' o m I' e hn h0 h1 h2 q
    show wpAny _ _ (assign (.Name y py) X.env (.ref Dd)) _ _ s'
    refine wpAny_assign_Name (store_ok I' S.nd hj hy (v := .ref Dd) rfl (fun s'' I'' => ?_) hf)
    have pC := I''.pin (C, o) (List.mem_append_right _ (List.mem_append_right _ (by simp)))
    obtain ⟨o', es, ep, e0, r⟩ := hn
    rw [e] at e0
    cases e0
    have IX : Inv X pins _ H' s'' := I''.unpinned
    refine ⟨m, ⟨o, es, ep, pC.1, r⟩, fun h' hs' => ?_⟩
    exact ⟨_, H', IX.turned (t' := s''.toks) (fun b ob hb e => (hs'.2 b hb).trans e) pC.2.1 pC.2.2.1 (.inr h0) h1 h2, q⟩
  · intro Dd C ea s' x
    obtain ⟨_, _, _, _, _, _, ⟨mC, hn⟩, _⟩ := id x
    exact ⟨mC, hn, fun h' hs' cenv _ => xpc_out x hs'⟩
end
theorem pg_tupK {X : Cx} {K : PySem.W.Frag} {es : List Expr} {k : Nat} {t : TGs} {n : Nat} {pos : Pos} (ek : X.K = K) (hc : X.calm = true) (h : PGs X es t)
    (hn : (assignEach es X.env).length = n := by rfl) (hst : (assignEach es X.env).findIdx? (·.1) = none := by rfl) : PG X (.Tuple es k pos) (gTup K n t) := by
  subst ek
  exact pg_tup hc h hn hst
theorem pex_tup {X : Cx} {es : List Expr} {t : TAX} {x1 : _} {pos : Pos} (h : PAX X es t) : PEX X (.Tuple es x1 pos) (fun σ H Q E => t σ H (fun xs H1 => xs.length ≤ sizeLine ∧ ∀ p, H1 p = none → Q (.ref p) (upd H1 p (.tup xs))) E) := by
  intro pins s σ H Q E I hq
  refine wpAny_Tuple_spliced (thn (h pos pins s σ H _ E I hq) fun us s1 ⟨xs, H1, I1, r, z, q⟩ => ⟨by rw [← r.length]; exact z, ?_⟩)
  have hf : H1 s1.heap.objs.size = none := I1.hok.fresh (Nat.le_refl _)
  refine ⟨.ref s1.heap.objs.size, upd H1 s1.heap.objs.size (.tup xs), I1.laid (t' := s1.toks) (fun b u e => Heap.get?_push_of_some _ e) (Nat.le_refl _) ?_, rfl, q _ hf⟩
  exact ⟨z, us, r, ⟨_, Heap.get?_push_size _ rfl, rfl, _, rfl⟩⟩
theorem op_eqDK {X : Cx} {K : PySem.W.Frag} (ek : X.K = K) (hu : X.A.units + 64 < cLine) : OpR X (compareOp .Eq) (rEqD K) := by
  subst ek
  exact op_eqD hu
theorem op_neDK {X : Cx} {K : PySem.W.Frag} (ek : X.K = K) (hu : X.A.units + 64 < cLine) : OpR X (compareOp .NotEq) (rNeD K) := by
  subst ek
  exact op_neD hu
/-- over a list that stays; one name -/
theorem comp1_list {K : PySem.W.Frag} {a D : Addr} {xs : List V} {te : TEX} {Q : VK} {E : XK} {σ : St} {H1 : Hp} (Pv : Nat → List V → Hp → Prop) (h0 : Pv 0 [] (upd H1 D (.lst []))) (hz : xs.length ≤ sizeLine)
    (hl : ∀ i ys H2, i ≤ xs.length → Pv i ys H2 → SqL K H2 a xs ∧ H2 D = some (.lst ys) ∧ ys.length = i)
    (hs : ∀ i x ys H2, xs[i]? = some x → Pv i ys H2 → te (some x :: σ) H2 (CompNext D xs.length Pv i ys) E) (hd : ∀ ys H2, Pv xs.length ys H2 → Q (.ref D) H2) :
    CompGoalG 1 (Itl K a) (gName 0) te σ D H1 Q E := by
  refine ⟨fun i m ys H => m = xs.length - i ∧ i ≤ xs.length ∧ Pv i ys H, ⟨xs.length, by simp, Nat.zero_le _, h0⟩, ?_⟩
  rintro i m ys H2 ⟨rfl, hi, p⟩
  obtain ⟨q, q2, q3⟩ := hl i ys H2 hi p
  refine ⟨q2, ?_⟩
  by_cases hlt : i < xs.length
  · refine .inr ⟨⟨xs, xs[i], q, by simp [hlt]⟩, by omega, fun x H3 y vs hv => ?_⟩
    obtain ⟨e, y⟩ := y
    subst e
    obtain ⟨v0, rfl⟩ := List.length_eq_one_iff.mp hv
    exact ⟨[some x], rfl, rfl, hs i x ys _ (y xs q) p⟩
  · have e : i = xs.length := by omega
    subst e
    exact .inl ⟨⟨xs, q, Nat.le_refl _⟩, hd ys H2 p⟩
/-- two names -/
theorem comp2_list {K : PySem.W.Frag} {a D : Addr} {xs : List V} {te : TEX} {Q : VK} {E : XK} {σ : St} {H1 : Hp} (Pv : Nat → List V → Hp → Prop) (h0 : Pv 0 [] (upd H1 D (.lst []))) (hz : xs.length ≤ sizeLine)
    (hl : ∀ i ys H2, i ≤ xs.length → Pv i ys H2 → SqL K H2 a xs ∧ H2 D = some (.lst ys) ∧ ys.length = i)
    (hs : ∀ i x ys H2, xs[i]? = some x → Pv i ys H2 → ∃ p t0 t1, x = .ref p ∧ SqT K H2 p [t0, t1] ∧ te (some t0 :: some t1 :: σ) H2 (CompNext D xs.length Pv i ys) E) (hd : ∀ ys H2, Pv xs.length ys H2 → Q (.ref D) H2) :
    CompGoalG 2 (Itl K a) (gTup K 2 (gCons (gName 0) (gCons (gName 1) gNil))) te σ D H1 Q E := by
  refine ⟨fun i m ys H => m = xs.length - i ∧ i ≤ xs.length ∧ Pv i ys H, ⟨xs.length, by simp, Nat.zero_le _, h0⟩, ?_⟩
  rintro i m ys H2 ⟨rfl, hi, p⟩
  obtain ⟨q, q2, q3⟩ := hl i ys H2 hi p
  refine ⟨q2, ?_⟩
  by_cases hlt : i < xs.length
  · refine .inr ⟨⟨xs, xs[i], q, by simp [hlt]⟩, by omega, fun x H3 y vs hv => ?_⟩
    obtain ⟨e, y⟩ := y
    subst e
    obtain ⟨v0, v1, rfl⟩ : ∃ v0 v1, vs = [v0, v1] := by
      match vs, hv with
      | [v0, v1], _ => exact ⟨v0, v1, rfl⟩
    obtain ⟨p', t0, t1, rfl, ht, hw⟩ := hs i x ys _ (y xs q) p
    exact ⟨p', _, rfl, ht, rfl, t0, _, rfl, t1, _, rfl, rfl, [some t0, some t1], rfl, rfl, hw⟩
  · have e : i = xs.length := by omega
    subst e
    exact .inl ⟨⟨xs, q, Nat.le_refl _⟩, hd ys H2 p⟩
end L2

namespace L2
open PySem PySem.Spec PyProof.Rows

/-! ### f-strings: texts, and values as they are told -/
abbrev TJ := St → Hp → Str → (Str → Hp → Prop) → Prop
def PJ (X : Cx) (es : List Expr) (t : TJ) : Prop :=
  ∀ (pins : List (Addr × Obj)) (s : Shared) (σ : St) (H : Hp) (acc : Str) (Q : Str → Hp → Prop), Inv X pins σ H s → t σ H acc Q →
    Joins (model X.prog X.w) X.A X.xe (evalEach es X.env) acc (fun out s1 => ∃ H1, Inv X pins σ H1 s1 ∧ out.length ≤ sizeLine ∧ Q out H1) s
theorem Joins.mono {M : Model} {A : Around} {E : Value → Shared → Prop} {Q Q' : Str → Shared → Prop} (hQ : ∀ o s, Q o s → Q' o s) : ∀ {ps : List (Sem Value)} {acc : Str} {s : Shared}, Joins M A E ps acc Q s → Joins M A E ps acc Q' s
  | [], _, _, h => hQ _ _ h
  | _ :: _, _, _, h => wpAny_mono h (fun _ _ ⟨y, t, e, l, r⟩ => ⟨y, t, e, l, Joins.mono hQ r⟩) fun _ _ z => z
inductive FmtV : V → Str → Prop
  | int {i : Int} : i.natAbs.log2 < 1920 → FmtV (.int i) (toString i)
  | str {x : Str} : FmtV (.str x) x
section
variable {X : Cx} {e : Expr} {es : List Expr} {te : TE} {t : TJ} {y : Str} {j : Nat} {p1 p2 pos : Pos}
theorem pj_nil : PJ X [] (fun _ H acc Q => acc.length ≤ sizeLine ∧ Q acc H) := fun _ _ _ H _ _ I h => ⟨H, I, h.1, h.2⟩
theorem pj_const (h : PJ X es t) : PJ X (.Constant (.str y) j p1 :: es) (fun σ H acc Q => (acc ++ y).length ≤ sizeLine ∧ t σ H (acc ++ y) Q) := by
  intro pins s σ H acc Q I hw
  show wpAny _ _ (eval (.Constant (.str y) j p1) X.env) _ _ s
  exact Calls.Constant_str ⟨y, _, rfl, hw.1, h pins _ σ H _ Q (I.tok _) hw.2⟩
theorem pj_fmt (he : PE X e te) (h : PJ X es t) : PJ X (.FormattedValue e (-1) none p1 :: es) (fun σ H acc Q => te σ H fun x H1 => ∃ z, FmtV x z ∧ z.length ≤ sizeLine ∧ (acc ++ z).length ≤ sizeLine ∧ t σ H1 (acc ++ z) Q) := by
  intro pins s σ H acc Q I hw
  show wpAny _ _ (eval (.FormattedValue e (-1) none p1) X.env) _ _ s
  refine wpAny_FormattedValue_plain (thn (he pins s σ H _ I hw) fun v s1 ⟨x, H1, I1, r1, z, fz, l1, l2, q⟩ => ?_)
  cases fz with
  | int hl =>
    obtain ⟨tk, rfl⟩ := r1
    exact wpAny_formatField_int hl ⟨_, _, rfl, l2, h pins _ σ H1 _ Q ((I1.tok _).tok _) q⟩
  | str =>
    obtain ⟨tk, rfl⟩ := r1
    exact wpAny_formatField_str ⟨_, _, rfl, l2, h pins _ σ H1 _ Q I1 q⟩ ⟨_, _, rfl, l2, h pins _ σ H1 _ Q (I1.tok _) q⟩ l1
theorem pe_js {e₂ : Expr} (h : PJ X (e :: e₂ :: es) t) : PE X (.JoinedStr (e :: e₂ :: es) pos) (fun σ H Q => t σ H Str.empty fun z H1 => Q (.str z) H1) := by
  intro pins s σ H Q I hw
  refine wpAny_JoinedStr ?_
  have := h pins s σ H Str.empty _ I hw
  refine Joins.mono ?_ this
  rintro out s1 ⟨H1, I1, l, q⟩
  exact ⟨l, .str out, H1, I1.tok _, ⟨_, rfl⟩, q⟩
end

/-! ### an exception of an own class that has an __init__: made, its values stored -/
/-- it flies nowhere yet -/
def xi (a C : Addr) (xd : Option Addr) : HO := .ext fun h => ∃ a0 : Addr, h.get? a = some ⟨.ref C, xd, .fields #[.ref a0, .none, .none, .none, .bool false, .none], #[]⟩
section
variable {P : Program} {w : World} {H : Hp} {h : Heap} {a C : Addr} {xd : Option Addr}
theorem xi_mk {a0 : Addr} (e : h.get? a = some ⟨.ref C, xd, .fields #[.ref a0, .none, .none, .none, .bool false, .none], #[]⟩) : ObjOk P w H h a (xi a C xd) :=
  ⟨⟨a0, e⟩, ⟨_, e⟩, fun _ _ ⟨b, z⟩ k => ⟨b, k _ z⟩⟩
theorem xi_at (x : ObjOk P w H h a (xi a C xd)) : ∃ a0 : Addr, h.get? a = some ⟨.ref C, xd, .fields #[.ref a0, .none, .none, .none, .bool false, .none], #[]⟩ := x.1
end
/-- the class D.__init__ is ValueError's -/
structure InitK (K : PySem.W.Frag) (D : Addr) : Prop where
  rd : PySem.W.readsIn K D (.type "type") = true
  sp : PySem.W.specialIn K (.ref D) "__getattribute__" = some (some (.builtin "type.__getattribute__"))
  fc : PySem.W.findCls K (.ref D) (.type "type") "__init__" = some (.val (.builtin "ValueError.__init__"))
/-- a class's own names are texts; its __init__ is at f -/
structure HasInit (K : PySem.W.Frag) (N f : Addr) : Prop where
  ex : ∃ (c : Value) (dd : Option Addr) (es : Array DictEntry) (n : Nat) (sl : Array (Option Value)), K.lookup N = some ⟨c, dd, .dict es n, sl⟩ ∧ strKeys es = true
  at_ : PySem.W.nsIn K N "__init__" = some (some (.ref f))
theorem HasInit.ns {K : PySem.W.Frag} {N f : Addr} (x : HasInit K N f) {h : Heap} (X : K.In h) : ∃ mN, h.Ns N mN ∧ mN "__init__" = some (.ref f) := by
  obtain ⟨⟨c, dd, es, n, sl, l, sk⟩, no⟩ := x
  have ns : h.Ns N (nsFind es) := ⟨_, es, n, X _ _ l, rfl, fun e he => by
    have z := List.all_eq_true.mp sk e (Array.mem_toList_iff.mpr he)
    cases hk : e.key with
    | str y t => exact ⟨y, t, rfl⟩
    | _ => rw [hk] at z; exact absurd z Bool.false_ne_true, fun _ => rfl⟩
  refine ⟨_, ns, ?_⟩
  unfold PySem.W.nsIn at no
  rw [l] at no
  dsimp only at no
  unfold nsFind findBy
  rw [← Array.find?_toList]
  cases hf : es.toList.find? (fun e => e.key.isStr "__init__") with
  | none =>
    rw [hf] at no
    dsimp only at no
    by_cases q : es.toList.any (·.refKey) = true
    · rw [if_pos q] at no; cases no
    · rw [if_neg q] at no; cases no
  | some e => rw [hf] at no; exact Option.some.inj no
/-- an own exception class with an __init__ at f -/
structure ExcI (K : PySem.W.Frag) (C f : Addr) (name : Str) : Prop where
  ex : ∃ (nm q : Str) (N : Addr) (bs bm : List Value) (hdct : Bool) (sn : List Str) (sub : List Value) (ab : Bool) (col : Option Bool) (dd : Option Addr) (k0 k1 k2 k3 k5 : Option Value),
    K.lookup C = some (excClassObj nm q C N bs bm hdct sn sub ab col dd k0 k1 k2 k3 k5 "ValueError.__new__") ∧ OwnT K bm ∧ hdct = true ∧ HasInit K N f
  fn : PySem.W.isFn K (.ref f) = true
  sa : PySem.W.findIn K (.ref C) "__setattr__" = some (some (.builtin "object.__setattr__"))
  na : PySem.W.findIn K (.ref C) name = some none
section
variable {X : Cx} {pins : List (Addr × Obj)} {σ : St} {H : Hp} {s : Shared} {C f : Addr} {name : Str}
theorem OwnT.pass {K : PySem.W.Frag} {bm : List Value} (x : OwnT K bm) (self : Value) : refuseLoop self "__setattr__" bm = pure () := by
  induction x with
  | base => exact PySem.F.store_ValueError.passes self
  | own _ _ _ ih => rw [refuseLoop_ref]; exact ih
/-- ValueError.__init__(e, v) -/
theorem call_vinit {xk : ExcI X.K C f name} : CallR X (.builtin "ValueError.__init__") (fun xs H Q => ∃ ea v, xs = [.ref ea, v] ∧ H ea = some (xi ea C none) ∧ Q .non H) := by
  intro pins s σ H xs us Q I r h
  obtain ⟨ea, v, rfl, hx, q⟩ := h
  obtain ⟨nm, qn, N, bs, bm, hdct, sn, sub, ab, col, dd, k0, k1, k2, k3, k5, l, T, hd, hi⟩ := xk.ex
  obtain ⟨u, u2, rfl, rx, rv⟩ := vals2 r
  cases rx
  obtain ⟨a0, e⟩ := xi_at (P := X.prog) (w := X.w) (I.hok _ _ hx)
  have kC := I.kIn _ _ l
  have T1 := T.tail I.kIn
  have F := PySem.F.excBase_ValueError
  have ha : X.A.handled = X.A.handled := rfl
  obtain ⟨hp, g, d, tk, os⟩ := s
  dsimp only at e kC T1
  refine wpAny_call (codeAny_call_builtin F.init.plain F.initEntry (wpAny_check_init_subT F T1 kC e rfl ?_))
  wp_walk
  have hE : ea ≠ hp.objs.size := Nat.ne_of_lt (Heap.lt_size e)
  have e1 : (hp.push { cls := .type "tuple", data := .seq #[u2] }).get? ea = _ := Heap.get?_push_of_some _ e
  have k : ∀ b o, b ≠ ea → hp.get? b = some o → ((hp.push { cls := .type "tuple", data := .seq #[u2] }).update ea (Obj.mapFields fun x => x.setIfInBounds 0 (.ref hp.objs.size))).get? b = some o := fun b o hb q =>
    (Heap.get?_update_other _ _ (Ne.symm hb)).trans (Heap.get?_push_of_some _ q)
  have e2 : ((hp.push { cls := .type "tuple", data := .seq #[u2] }).update ea (Obj.mapFields fun x => x.setIfInBounds 0 (.ref hp.objs.size))).get? ea = some ⟨.ref C, none, .fields #[.ref hp.objs.size, .none, .none, .none, .bool false, .none], #[]⟩ := Heap.get?_update_self _ e1 rfl
  have un : upd H ea (xi ea C none) = H := by
    funext b
    by_cases z : b = ea
    · rw [z, upd_same, hx]
    · rw [upd_ne z]
  have I2 := I.write (x := ea) (e := ea) (o := xi ea C none) (t' := tk) (by rw [hx]; exact True.intro) (.inl rfl) k ⟨_, e2⟩ (xi_mk e2)
  rw [un] at I2
  exact ⟨.non, H, I2, rfl, q⟩
end
end L2

namespace L2
open PySem PySem.Spec PyProof.Rows PySem.Builtin PySem.Builtin.ObjectAttr
section
variable {prog : Program} {w : World} {A : Around} {E : Value → Shared → Prop} {K : PySem.W.Frag} {x C f : Addr} {name : Str} {v : Value}
theorem xset_raw {s : Shared} {vs : Array Value} {sl : Array (Option Value)} {Q : Unit → Shared → Prop} (X : K.In s.heap) (xk : ExcI K C f name) (hx : s.heap.get? x = some ⟨.ref C, none, .fields vs, sl⟩)
    (h : ∀ h' tk, h'.get? x = some ⟨.ref C, some s.heap.objs.size, .fields vs, sl⟩ → h'.Ns1 s.heap.objs.size (fun y => if y = name then some v else none) → (∀ b o, b ≠ x → s.heap.get? b = some o → h'.get? b = some o) →
      Q () { s with heap := h', toks := tk }) : wpAny (model prog w) A (setAttr (.ref x) name v) Q E s := by
  obtain ⟨nm, qn, N, bs, bm, hdct, sn, sub, ab, col, dd, k0, k1, k2, k3, k5, l, T, hd, hi⟩ := xk.ex
  subst hd
  obtain ⟨hp, g, d, tk, os⟩ := s
  dsimp only at hx h X
  have J : PySem.W.InstAt hp x ⟨.ref C, none, .fields vs, sl⟩ C none := ⟨hx, rfl, rfl, trivial⟩
  have SF := PySem.F.store_object
  have kC := X _ _ l
  have hT := T.tail X
  have hob : (Value.ref C :: bm).contains (.type "object") = true := by rw [List.contains_cons, hT.hasType (b := true) (by decide +kernel), Bool.or_true]
  have pass : refuseLoop (.ref x) "__setattr__" (.ref C :: bm) = pure () := by rw [refuseLoop_ref]; exact T.pass _
  refine PySem.W.set_plain X J xk.sa ?_
  have sb : PySem.W.Looks (model prog w) hp (isInstance (.ref x) (.type "object")) true := J.type.andThen (PySem.W.looks_mroIn X (by unfold PySem.W.mroIn PySem.W.clsIn; rw [l]; simpa using hob))
  refine codeAny_call_builtin SF.slot.plain SF.entry (@PySem.W.check_slot (model prog w) _ _ ⟨hp, g, d, tk + 1, os⟩ "object.__setattr__" "object" "__setattr__" (.ref x) [.str name tk, v] [] _ SF.kind SF.split sb (SF.args (.ref x) (.str name tk) v) ?_)
  have hm : PySem.W.Looks (model prog w) hp (mroOf (.ref C)) (.ref C :: bm) := (PySem.W.looks_clsIn X (by unfold PySem.W.clsIn; rw [l])).andThen .now
  rw [PySem.W.osa_eq, refuse_eq]
  refine wpAny_bind (wpAny_bind ((J.type (M := model prog w)).at (wpAny_bind (hm.at ?_))))
  rw [pass]
  refine wpAny_pure (wpAny_bind ((J.type (M := model prog w)).at (wpAny_bind ((PySem.W.looks_findIn X xk.na).at (wpAny_bind ((show PySem.W.Looks (model prog w) hp (storeTaker? none) none from .now).at ?_))))))
  have hxs : x ≠ hp.objs.size := Nat.ne_of_lt (Heap.lt_size hx)
  obtain ⟨cd, hcl, hdd⟩ : ∃ cd, PySem.W.clsIn K C = some cd ∧ cd.hasDict = true := ⟨_, by unfold PySem.W.clsIn; rw [l], rfl⟩
  refine wpAny_bind (wpAny_pure (wpAny_bind (wpAny_bind (wpAny_loadPart hx (wpAny_bind ((PySem.W.looks_clsIn X hcl).at ?_))))))
  rw [hdd]
  have hx₁ : (hp.push { cls := .type "dict", data := .dict #[] }).get? x = some _ := Heap.get?_push_of_some _ hx
  refine wpAny_bind (wpAny_alloc' ?_)
  refine wpAny_bind (wpAny_update' hx₁ ?_)
  refine wpAny_pure ?_
  have hgd : ((hp.push { cls := .type "dict", data := .dict #[] }).update x fun o => { cls := o.cls, dict := some hp.objs.size, data := o.data, slots := o.slots }).get? hp.objs.size
      = some { cls := .type "dict", data := .dict #[] } :=
    (Heap.get?_update_ne _ _ _ _ hxs.symm).trans (Heap.get?_push_at rfl rfl)
  have hnd : ((hp.push { cls := .type "dict", data := .dict #[] }).update x fun o => { cls := o.cls, dict := some hp.objs.size, data := o.data, slots := o.slots }).Ns hp.objs.size (fun _ => none) :=
    ⟨_, #[], _, hgd, rfl, fun e he => absurd he (by simp), fun _ => rfl⟩
  show wpAny _ _ (storeInDict hp.objs.size (.str name tk) name v) _ _ _
  unfold storeInDict newKeyGuard
  refine wpAny_bind (wpAny_pure (wpAny_bind (wpAny_nsSet1 (Heap.Ns1.of_empty hnd) fun h' hn' hs => ?_)))
  obtain ⟨oD, esD, epD, hoD, hdD, hcD⟩ := hn'.count (Within.cons name v Within.nil)
  refine wpAny_bind (wpAny_lookBehind hoD (by rw [hdD]; exact pastItsLine_dict (Nat.le_trans hcD (by rw [List.length_cons, List.length_nil, sizeLine_eq]; omega))) ?_)
  refine wpAny_pure (h h' _ ?_ hn' fun b ob hbx hb => (hs.2 b (Nat.ne_of_lt (Heap.lt_size hb))).trans ((Heap.get?_update_ne _ _ _ _ hbx).trans (Heap.get?_push_of_some _ hb)))
  exact (hs.2 x hxs).trans (Heap.get?_update_self _ hx₁ rfl)
end
end L2

namespace L2
open PySem PySem.Spec PyProof.Rows
section
variable {prog : Program} {w : World} {A : Around} {E : Value → Shared → Prop} {h : Heap} {g : Array GenState} {d : Drawn} {t : Nat} {os : OsState}
variable {nm q : Str} {C N fI : Addr} {bs bm bmB : List Value} {hdct : Bool} {sn : List Str} {sub : List Value} {ab : Bool} {col : Option Bool} {dd : Option Addr} {k0 k1 k2 k3 k5 : Option Value} {B nid iid : String} {K : PySem.W.Frag}
theorem exc_init0 (X : K.In h) (F : ExcBaseFacts B nid iid bmB) (T : OwnTail h bmB bm) {mN : Str → Option Value} {us : List Value} {Q : Fin → Shared → Prop}
    (kC : h.get? C = some (excClassObj nm q C N bs bm hdct sn sub ab col dd k0 k1 k2 k3 k5 nid)) (kN : h.Ns N mN) (kI : mN "__init__" = some (.ref fI)) (hf : PySem.W.typeIn K (.ref fI) = some (.type "function")) (hz : us.length ≤ sizeLine)
    (hq : wpAny (model prog w) A (call (.ref fI) (.ref (h.objs.size + 1) :: us)) (fun r s' => r = .none ∧ Q (.done (.ret (.ref (h.objs.size + 1)))) s') E ⟨madeX h C us, g, d, t, os⟩) :
    wpAny (model prog w) A (Builtin.«type.__call__» ⟨.ref C :: us, []⟩) Q E ⟨h, g, d, t, os⟩ := by
  repeat (first | with_reducible refine wpAny_loadPart_at kC ?_ | with_reducible refine wpAny_madeBy_exc kC ?_ | wp_step)
  refine codeAny_call_builtin_code (Code.quiet_builtin _ F.quiet) (wpAny_check_new_subT F T kC (codeAny_exc_new_subT F T kC ?_ hz))
  show wpAny _ _ _ _ _ _
  have kC1 : (madeX h C us).get? C = _ := madeX_old kC
  have kN1 : (madeX h C us).Ns N mN := kN.keeps fun b o e => madeX_old e
  have X1 : K.In (madeX h C us) := X.keeps fun b o e => madeX_old e
  have T1 : OwnTail (madeX h C us) bmB bm := T.keeps fun b o e => madeX_old e
  have kE := madeX_at (h := h) (C := C) (us := us)
  have self : (Value.ref C :: bm).contains (.ref C) = true := by simp
  unfold isInstance
  repeat (first | with_reducible refine wpAny_loadPart_at kE ?_ | (with_reducible refine wpAny_isSubtype_exc kC1 ?_; rw [self]) | wp_step)
  show wpAny _ _ (typeLookup (.ref C) _) _ _ _
  refine wpAny_typeLookup_tail kC1 kN1 T1 F.mroIs F.init.lookup ?_
  rw [kI]
  refine wpAny_holding (wpAny_bind ((PySem.W.bind_fn X1 (.ref (h.objs.size + 1)) hf).at ?_))
  refine wpAny_bind (wpAny_mono hq (fun r s' hr => ?_) fun _ _ z => z)
  obtain ⟨rfl, hQ⟩ := hr
  wp_walk
  exact hQ
theorem exc_init (X : K.In h) (F : ExcBaseFacts B nid iid bmB) (T : OwnTail h bmB bm) {mN : Str → Option Value} {us : List Value} {Q : Value → Shared → Prop}
    (kC : h.get? C = some (excClassObj nm q C N bs bm hdct sn sub ab col dd k0 k1 k2 k3 k5 nid)) (kN : h.Ns N mN) (kI : mN "__init__" = some (.ref fI)) (hf : PySem.W.typeIn K (.ref fI) = some (.type "function")) (hz : us.length ≤ sizeLine)
    (hq : wpAny (model prog w) (A.under (.builtin "type.__call__" ⟨.ref C :: us, []⟩)) (call (.ref fI) (.ref (h.objs.size + 1) :: us)) (fun r s' => r = .none ∧ Q (.ref (h.objs.size + 1)) s') E ⟨madeX h C us, g, d, t, os⟩) :
    wpAny (model prog w) A (call (.ref C) us) Q E ⟨h, g, d, t, os⟩ := by
  have l1 := tc_lookup
  have l2 := tc_bind (.ref C)
  have ty : (⟨h, g, d, t, os⟩ : Shared).TypeIs (.ref C) "type" := ⟨_, kC, rfl⟩
  refine wpAny_call (codeAny_of_tree ?_)
  show wpAny _ _ (callAny (.ref C) _) _ _ _
  repeat (any_goals (first | assumption | with_reducible refine wpAny_loadPart_at kC ?_ | wp_step))
  exact ⟨rfl, codeAny_call_builtin_at (Code.quiet_builtin _ (by decide +kernel)) entry_typeCall (wpAny_check_type_call_sub kC (exc_init0 X F T kC kN kI hf hz hq))⟩
end
/-! ### raise C(v), C with an __init__ that stores v -/
def spXI (C : Addr) (name : Str) : Sp := fun vs H Q _ => ∃ (e : Addr) (v : V), vs = [.ref e, v] ∧ H e = some (xi e C none) ∧ (∃ z, FmtV v z ∧ z.length ≤ 10000) ∧ ∀ d, H d = none → Q .non (upd (upd H d (.xd [(name, v)])) e (xi e C (some d)))
section
variable {X : Cx} {pins : List (Addr × Obj)} {σ : St} {H : Hp} {s : Shared} {C f : Addr} {name x : Str} {fd : FuncData} {ps : List Str} {k : Nat} {np cpos pos : Pos} {e₀ : Expr} {ta : TA}
theorem run_xmake {E : Value → Shared → Prop} {v : V} {u : Value} {Q : Value → Shared → Prop} (xk : ExcI X.K C f name) (F : FnOk X.prog X.w X.K X.mg X.base CX0 k f fd ps (spXI C name)) (hr : Room (k + 1) X.A) (hb : Binds X.K fd ps []) (I : Inv X pins σ H s) (r : RelV v u)
    (hv : ∃ z, FmtV v z ∧ z.length ≤ 10000)
    (h : ∀ (e d : Addr) (a0 : Value) (s' : Shared), H d = none → Inv X pins σ (upd H d (.xd [(name, v)])) s' → FpOk X pins (upd H d (.xd [(name, v)])) e → s'.heap.get? e = some ⟨.ref C, some d, .fields #[a0, .none, .none, .none, .bool false, .none], #[]⟩ → Q (.ref e) s') :
    wpAny (model X.prog X.w) X.A (call (.ref C) [u]) Q E s := by
  obtain ⟨nm, qn, N, bs, bm, hdct, sn, sub, ab, col, dd, k0, k1, k2, k3, k5, l, T, hd, hi⟩ := xk.ex
  obtain ⟨mN, kN, kI⟩ := hi.ns I.kIn
  have fre := I.hok.fresh (Nat.le_refl _)
  obtain ⟨hp, g, dr, tk, os⟩ := s
  have ne : H (hp.objs.size + 1) = none := I.hok.fresh (Nat.le_succ _)
  have I2 : Inv X pins σ (upd H (hp.objs.size + 1) (xi (hp.objs.size + 1) C none)) ⟨madeX hp C [u], g, dr, tk, os⟩ :=
    I.laid (h' := madeX hp C [u]) (t' := tk) (fun b o q => madeX_old q) (Nat.le_succ _) (xi_mk madeX_at)
  have r2 : Vals [V.ref (hp.objs.size + 1), v] [Value.ref (hp.objs.size + 1), u] := .cons rfl (.cons r .nil)
  have hsp : spXI C name [V.ref (hp.objs.size + 1), v] (upd H (hp.objs.size + 1) (xi (hp.objs.size + 1) C none))
      (fun v' H' => v' = .non ∧ ∃ d, H d = none ∧ d ≠ hp.objs.size + 1 ∧ H' = upd (upd (upd H (hp.objs.size + 1) (xi (hp.objs.size + 1) C none)) d (.xd [(name, v)])) (hp.objs.size + 1) (xi (hp.objs.size + 1) C (some d))) E0 := by
    refine ⟨_, v, rfl, upd_same, hv, fun d hd => ⟨rfl, d, ?_, ?_, rfl⟩⟩
    · by_cases z : d = hp.objs.size + 1
      · rw [z, upd_same] at hd; cases hd
      · rwa [upd_ne z] at hd
    · intro z; rw [z, upd_same] at hd; cases hd
  have hl : [Value.ref (hp.objs.size + 1), u].length = ps.length := by rw [← r2.length]; exact F.len _ _ _ _ hsp
  refine exc_init I.kIn (F := PySem.F.excBase_ValueError) (T.tail I.kIn) (I.kIn _ _ l) kN kI (beq_iff_eq.mp xk.fn) (show 1 ≤ sizeLine by decide) (wpAny_call (codeAny_mono (F.run _ X.stack _ _ ⟨[Value.ref (hp.objs.size + 1), u], []⟩ _ _ _ E0 (hr.make C [u] [])
    (I2.env0.make C [u] []) (hb _ [Value.ref (hp.objs.size + 1), u] I2.kIn (by rw [List.append_nil]; exact hl)) (by rw [List.append_nil]; exact r2) hsp) fun rr s' hq => ?_))
  cases rr with
  | error e => exact hq.elim
  | ok fl =>
    cases fl with
    | ret u' =>
      obtain ⟨v', H', os', bare, un, hok, rv, rfl, d, hd1, hd2, rfl⟩ := hq
      cases rv
      refine ⟨rfl, ?_⟩
      have HeE : ∀ {o : HO}, upd (upd (upd H (hp.objs.size + 1) (xi (hp.objs.size + 1) C none)) d (.xd [(name, v)])) (hp.objs.size + 1) o (hp.objs.size + 1) = some o := upd_same
      have Hne : ∀ b, b ≠ hp.objs.size + 1 → upd (upd (upd H (hp.objs.size + 1) (xi (hp.objs.size + 1) C none)) d (.xd [(name, v)])) (hp.objs.size + 1) (xi (hp.objs.size + 1) C (some d)) b = upd H d (.xd [(name, v)]) b := fun b hb => by
        rw [upd_ne hb]
        by_cases z : b = d
        · rw [z, upd_same, upd_same]
        · rw [upd_ne z, upd_ne z, upd_ne hb]
      have He2 : upd H d (.xd [(name, v)]) (hp.objs.size + 1) = none := by rw [upd_ne (Ne.symm hd2)]; exact ne
      have U1 : Un (frs X.stack) [] H (upd H (hp.objs.size + 1) (xi (hp.objs.size + 1) C none)) hp (madeX hp C [u]) := Un.laid (fun b o q => madeX_old q) (Nat.le_succ _) ne
      have U2 := U1.trans un
      have lt : ∀ b o, hp.get? b = some o → b ≠ hp.objs.size + 1 := fun b o q => Nat.ne_of_lt (Nat.lt_succ_of_lt (Heap.lt_size q))
      have U3 : Un (frs X.stack) [] H (upd H d (.xd [(name, v)])) hp s'.heap := by
        refine ⟨U2.keep, U2.slot, fun b o q n hx => ?_, U2.there, fun b xs q => ?_, fun b o u q => ?_, fun b p q => ?_⟩
        · have z := U2.free b o q n hx
          rwa [Hne b (lt b o q)] at z
        · have z := U2.tups b xs q
          rwa [Hne b (fun e => by rw [e, ne] at q; cases q)] at z
        · have z := U2.frzs b o u q
          rwa [Hne b (fun e => by rw [e, ne] at q; cases q)] at z
        · obtain ⟨m, z⟩ := U2.tbls b p q
          rw [Hne b (fun e => by rw [e, ne] at q; cases q)] at z
          exact ⟨m, z⟩
      have K3 : HOk X.prog X.w (upd H d (.xd [(name, v)])) s'.heap := fun a o q => by
        have ha : a ≠ hp.objs.size + 1 := fun e => by rw [e, He2] at q; cases q
        refine (hok a o (by rw [Hne a ha]; exact q)).stay (fun b u _ z => z) (fun b z => ?_) (fun b xs z => ?_)
        · rwa [Hne b (fun e => by rw [e, HeE] at z; cases z)] at z
        · rwa [Hne b (fun e => by rw [e, HeE] at z; cases z)] at z
      obtain ⟨a0, ea⟩ := xi_at (P := X.prog) (w := X.w) (hok _ _ HeE)
      have I3 : Inv X pins σ (upd H d (.xd [(name, v)])) s' := I.call' (ch := []) os' U3 K3 bare fun b z => absurd z (by simp)
      exact h _ d (.ref a0) s' hd1 I3 (I.fpOk (Nat.le_succ _) He2) ea
    | next => exact False.elim hq
    | brk => exact False.elim hq
    | cont => exact False.elim hq
/-- raise C(v) -/
theorem psx_raiseI (xk : ExcI X.K C f name) (F : FnOk X.prog X.w X.K X.mg X.base CX0 k f fd ps (spXI C name)) (hr : Room (k + 1) X.A) (hb : Binds X.K fd ps []) (hc : X.calm = true) (hg : Gl X x) (hm : X.mg x = some (.ref C)) (ha : PA X.nox [e₀] ta)
    (hdb : (x == ("__debug__" : Str)) = false := by decide) (he : starEach [e₀] X.env = [(false, eval e₀ X.env)] := by rfl) :
    PSX X (.Raise (some (.Call (.Name x np) [e₀] [] cpos)) none pos) (fun _ E σ H => ta σ H fun vs H1 => ∃ v, vs = [v] ∧ (∃ z, FmtV v z ∧ z.length ≤ 10000) ∧ ∀ d, H1 d = none → E σ (.ref C) (some d) (upd H1 d (.xd [(name, v)]))) := by
  intro pins s σ H D E I h
  obtain ⟨nm, q, N, bs, bm, hdct, sn, sub, ab, col, dd, k0, k1, k2, k3, k5, l, T, hd, hi⟩ := xk.ex
  have go : wpAny (model X.prog X.w) X.A (eval (.Call (.Name x np) [e₀] [] cpos) X.env) (fun v s₁ => ∃ (e : Addr) (xd : Option Addr) (a0 : Value) (sl : Array (Option Value)), v = .ref e ∧ s₁.heap.get? C = some (excClassObj nm q C N bs bm hdct sn sub ab col dd k0 k1 k2 k3 k5 "ValueError.__new__") ∧
      s₁.heap.get? e = some ⟨.ref C, xd, .fields #[a0, .none, .none, .none, .bool false, .none], sl⟩ ∧ XPS X pins E (.ref e) s₁) (XPS X pins E) s := by
    refine wpAny_Call_Name_kw (ld_glob I hg hm ?_ hdb)
    unfold callWith
    rw [he]
    refine wpAny_bind (wpAny_holding (Calls.evalArgs_plain ?_))
    have ha' := ha cpos pins s σ H _ (I.wish _) h
    rw [show X.nox.env = X.env from rfl, he] at ha'
    refine wpAny_mono ha' (fun us s₁ ⟨vs, H1, I1, r, v, hvs, hv, q1⟩ => wpAny_bind (wpAny_standAt ?_)) fun _ _ z => False.elim z
    subst hvs
    obtain ⟨u, rfl, rv⟩ := Vals.one r
    have I1' := I1.unwish
    have kC := I1'.kIn _ _ l
    have pl : (backTo cpos [(false, eval e₀ X.env)]).any (·.1) = false := rfl
    have fin : wpAny (model X.prog X.w) X.A (call (.ref C) ([] ++ [u])) (fun r s' => ∃ (e : Addr) (xd : Option Addr) (a0 : Value) (sl : Array (Option Value)), r = .ref e ∧ s'.heap.get? C = some (excClassObj nm q C N bs bm hdct sn sub ab col dd k0 k1 k2 k3 k5 "ValueError.__new__") ∧
      s'.heap.get? e = some ⟨.ref C, xd, .fields #[a0, .none, .none, .none, .bool false, .none], sl⟩ ∧ XPS X pins E (.ref e) s') (XPS X pins E) s₁ := by
      refine run_xmake xk F hr hb I1' rv hv fun e d a0 s' hd1 I2 fp ke => ?_
      exact ⟨e, some d, a0, #[], rfl, I2.kIn _ _ l, ke, σ, e, .ref C, some d, none, _, rfl, I2, ⟨fp, _, _, ke, (by show 1 < 6; decide), rfl⟩, .inl rfl, q1 d hd1⟩
    obtain ⟨hp, g', d', tk, os'⟩ := s₁
    simp only [pl]
    refine wpAny_bind (wpAny_keeperOf_exc kC ?_)
    exact wpAny_bind (wpAny_mono fin (fun v s2 z => wpAny_bind (wpAny_holding (wpAny_point (wpAny_pure z)))) fun _ _ z => z)
  rw [arm_exec_Raise]
  have hbx : bm.contains (.type "BaseException") = true := (T.tail I.kIn).hasType (b := true) (by decide +kernel)
  first
    | exact wpAny_bind (wpAny_standAt (raise_obj (C := C) (nm := nm) (q := q) (N := N) (bs := bs) (bm := bm) (hdct := hdct) (sn := sn) (sub := sub) (ab := ab) (col := col) (dd := dd) (k0 := k0) (k1 := k1) (k2 := k2) (k3 := k3) (k5 := k5) hbx (I.ok.hd hc) (wpAny_bind (wpAny_mono go (fun v s₃ h₃ => wpAny_bind (wpAny_standAt (wpAny_pure h₃))) fun _ _ z => z))))
    | (simp only [evalOpt, Option.map]; exact wpAny_bind (wpAny_standAt (raise_obj (C := C) (nm := nm) (q := q) (N := N) (bs := bs) (bm := bm) (hdct := hdct) (sn := sn) (sub := sub) (ab := ab) (col := col) (dd := dd) (k0 := k0) (k1 := k1) (k2 := k2) (k3 := k3) (k5 := k5) hbx (I.ok.hd hc) (wpAny_bind (wpAny_mono go (fun v s₃ h₃ => wpAny_bind (wpAny_standAt (wpAny_pure h₃))) fun _ _ z => z)))))
end
end L2

namespace L2
open PySem PySem.Spec PyProof.Rows
section
variable {X : Cx} {pins : List (Addr × Obj)} {σ : St} {H : Hp} {s : Shared} {C D f : Addr} {name x : Str} {np apos cpos pos pos' : Pos} {o e value : Expr} {ta tv : TE} {t : TA}
/-- D.__init__(e, v), D an own class above -/
theorem pe_xinit {pl : Sem Bool} (ik : InitK X.K D) (xk : ExcI X.K C f name) (hg : Gl X x) (hm : X.mg x = some (.ref D)) (ha : PA X [o, e] t) (hdb : (x == ("__debug__" : Str)) = false := by decide)
    (hst : starEach [o, e] X.env = (false, eval o X.env) :: starEach [e] X.env := by rfl) (hpl : (backTo pos (starEach [e] X.env)).any (·.1) = false := by rfl)
    (ht : eval (.Call (.Attribute (.Name x np) "__init__" apos) [o, e] [] pos) X.env = (do
      let ov ← eval (.Name x np) X.env
      standAt apos.atName
      let (f, first) ← holding [ov] (getMethod ov "__init__" pl)
      callWith pos f first (backTo pos (starEach [o, e] X.env)) (backToKw pos (keywordEach [] X.env))) := by rfl) :
    PE X (.Call (.Attribute (.Name x np) "__init__" apos) [o, e] [] pos) (fun σ H Q => t σ H fun vs H1 => ∃ ea v, vs = [.ref ea, v] ∧ H1 ea = some (xi ea C none) ∧ Q .non H1) := by
  intro pins s σ H Q I h
  refine PySem.W.methodCall_KW (pl := pl) (ld_glob I hg hm ?_ hdb) ht
  refine PySem.W.method_cls I.kIn ik.sp (PySem.W.cls_value I.kIn ik.rd ik.fc (by decide +kernel) ?_)
  show wpAny _ _ (callWith pos (.builtin "ValueError.__init__") [] (backTo pos (starEach [o, e] X.env)) []) _ _ _
  exact PyProof.Rows.callWith_builtin1 (thn (ha pos pins _ σ H _ (I.tok _) h) fun us s1 ⟨vs, H1, I1, r1, ea, v, hv, hx, q⟩ => call_vinit (xk := xk) pins s1 σ H1 vs us Q I1 r1 ⟨ea, v, hv, hx, q⟩) hst hpl
/-- e.name = value, the first attribute of an exception -/
theorem ps_xset (xk : ExcI X.K C f name) (ha : PE X o ta) (hv : PE X value tv) (hs : swapsWith value (some (.Attribute o name pos')) pos.line X.env = pure false := by rfl) : PS X (.Assign [.Attribute o name pos'] value pos)
    (fun D σ H => tv σ H fun y H1 => ta σ H1 fun x H2 => ∃ ea, x = .ref ea ∧ H2 ea = some (xi ea C none) ∧ ∀ d, H2 d = none → D.nx σ (upd (upd H2 d (.xd [(name, y)])) ea (xi ea C (some d)))) := by
  intro pins s σ H D I h
  refine plainObj_wpAny_Assign_Attribute (thn (hv pins s σ H _ I h) fun u s1 ⟨y, H1, I1, ry, q⟩ => thn (ha pins s1 σ H1 _ I1 q) fun ov s2 ⟨x, H2, I2, rx, ea, ex, hx, q2⟩ => ?_) hs
  subst ex
  obtain rfl : ov = Value.ref ea := rx
  obtain ⟨a0, e0⟩ := xi_at (P := X.prog) (w := X.w) (I2.hok _ _ hx)
  have fr : H2 s2.heap.objs.size = none := I2.hok.fresh (Nat.le_refl _)
  refine xset_raw I2.kIn xk e0 fun h' tk hx' ns kk => ⟨σ, _, ?_, q2 _ fr⟩
  have hde : ea ≠ s2.heap.objs.size := ne_of_none hx fr
  have old : ∀ b, b ≠ ea → b ≠ s2.heap.objs.size → upd (upd H2 s2.heap.objs.size (.xd [(name, y)])) ea (xi ea C (some s2.heap.objs.size)) b = H2 b := fun b h1 h2 => by rw [upd_ne h1, upd_ne h2]
  have lt : ∀ b ob, s2.heap.get? b = some ob → b ≠ s2.heap.objs.size := fun b ob q => Nat.ne_of_lt (Heap.lt_size q)
  have nx : ∀ b, H2 b = none → b ≠ ea := fun b n z => by rw [z, hx] at n; cases n
  have ns' : ∀ b {o : HO}, H2 b = some o → b ≠ s2.heap.objs.size := fun b _ n z => by rw [z, fr] at n; cases n
  refine I2.un (t' := tk) ⟨fun b ob q n _ _ => kk b ob (nx b n) q, fun b ob q n _ _ => ⟨ob.slots, kk b ob (nx b n) q⟩, fun b ob q n _ => by rw [old b (nx b n) (lt b ob q)]; exact n, fun b ob q _ => ?_, fun b xs q => ?_, fun b ob u q => ?_, fun b ps q => ?_⟩ fun a ob q => ?_
  · by_cases z : b = ea
    · exact ⟨_, by rw [z]; exact hx'⟩
    · exact ⟨ob, kk b ob z q⟩
  · rw [old b (fun z => by rw [z, hx] at q; cases q) (ns' b q)]; exact q
  · rw [old b (fun z => by rw [z, hx] at q; cases q) (ns' b q)]; exact q
  · exact ⟨#[], by rw [old b (fun z => by rw [z, hx] at q; cases q) (ns' b q), q]; simp⟩
  · by_cases z : a = ea
    · subst z
      rw [upd_same] at q
      cases q
      exact xi_mk hx'
    · rw [upd_ne z] at q
      by_cases z2 : a = s2.heap.objs.size
      · rw [z2, upd_same] at q
        cases q
        refine ⟨_, by rw [z2]; exact ns, fun g => ?_⟩
        rw [List.lookup_cons]
        by_cases hg : g = name
        · rw [if_pos hg, show (g == name) = true from beq_iff_eq.mpr hg]; exact ry
        · rw [if_neg hg, show (g == name) = false from beq_eq_false_iff_ne.mpr hg]; exact True.intro
      · rw [upd_ne z2] at q
        refine (I2.hok a ob q).stay (fun b u hb r => kk b u ?_ r) (fun b r => ?_) (fun b xs r => ?_)
        · rintro rfl
          rcases hb with hb | hb
          · exact z hb.symm
          · rw [hx] at hb; cases hb
        · rw [old b (fun z => by rw [z, hx] at r; cases r) (ns' b r)]; exact r
        · rw [old b (fun z => by rw [z, hx] at r; cases r) (ns' b r)]; exact r
/-- an exception that was caught, with values of its own -/
theorem xo_instD {ea C d : Addr} {fs : List (Str × V)} (I : Inv X pins σ H s) (h : H ea = some (xo ea (.ref C) (some d))) (hd : H d = some (.xd fs)) :
    ∃ ox od, PySem.W.InstAt s.heap ea ox C (some od) ∧ ∃ mA : Str → Option Value, (∀ n, PySem.W.lookIn n od = some (mA n)) ∧ ∀ n, RelO (fs.lookup n) (mA n) := by
  obtain ⟨⟨sl, vs, e⟩, _⟩ := (show ObjOk X.prog X.w H s.heap ea (xo ea (.ref C) (some d)) from I.hok _ _ h)
  obtain ⟨mA, ns, r⟩ := (show ObjOk X.prog X.w H s.heap d (.xd fs) from I.hok _ _ hd)
  obtain ⟨od, ho, lk⟩ := lookIn_ns ns
  exact ⟨_, od, ⟨e, rfl, rfl, ho⟩, mA, lk, r⟩
/-- e.name, e a caught exception -/
structure XFld (K : PySem.W.Frag) (C : Addr) (name : Str) : Prop where
  ga : GaX K C
  na : PySem.W.findIn K (.ref C) name = some none
  hd : PySem.W.hasDictIn K C = true
theorem pe_xfld (he : PE X e ta) (hb : attributeBase e name X.env (eval e X.env) = eval e X.env) : PE X (.Attribute e name pos)
    (fun σ H Q => ta σ H fun x H1 => ∃ ea C d fs v, x = .ref ea ∧ H1 ea = some (xo ea (.ref C) (some d)) ∧ H1 d = some (.xd fs) ∧ XFld X.K C name ∧ fs.lookup name = some v ∧ (∃ z, FmtV v z) ∧ Q v H1) := by
  intro pins s σ H Q I h
  refine attr_of hb (thn (he pins s σ H _ I h) fun u s1 ⟨x, H1, I1, rx, ea, C, d, fs, v, ex, hx, hd, xf, lk, ⟨z, fz⟩, q⟩ => ?_)
  subst ex
  obtain rfl : u = Value.ref ea := rx
  obtain ⟨ox, od, J, mA, li, rel⟩ := xo_instD I1 hx hd
  have rl := rel name
  rw [lk] at rl
  cases hm : mA name with
  | none => rw [hm] at rl; exact rl.elim
  | some u2 =>
    rw [hm] at rl
    have rl' : RelV v u2 := rl
    have hh : PySem.W.handedIn u2 = true := by
      cases fz with
      | int _ => obtain ⟨t, rfl⟩ := rl'; rfl
      | str => obtain ⟨t, rfl⟩ := rl'; rfl
    obtain ⟨cd, hc, hdct⟩ := PySem.W.any_some xf.hd
    have fo : PySem.W.findObj X.K C (some od) name = some (.value u2) := by
      unfold PySem.W.findObj
      rw [hc, Option.bind_some, xf.na, Option.bind_some]
      simp only [Option.bind_some, PySem.W.ownOf, hdct, if_true, li, hm]
    unfold getAttr
    refine wpAny_bind (wpAny_mkText (gx_by (s := { s1 with toks := s1.toks + 1 }) I1.kIn J xf.ga (gx_entry (s := { s1 with toks := s1.toks + 1 }) I1.kIn J fo ?_)))
    exact ⟨hh, v, H1, I1.tok _, rl', q⟩
/-- isinstance(e, c), e a caught exception with values of its own -/
theorem call_isiXD : CallR X (.builtin "isinstance") (fun xs H Q => ∃ ea c C d fs b, xs = [.ref ea, c] ∧ isC c = true ∧ H ea = some (xo ea (.ref C) (some d)) ∧ H d = some (.xd fs) ∧ ExcTy X.K C ∧ PySem.W.kitOne X.K (.ref C) (clsV c) = some b ∧ Q (.bl b) H) := by
  intro pins s σ H xs us Q I r h
  obtain ⟨ea, c, C, d, fs, b, rfl, hc, hx, hd, ty, e, q⟩ := h
  obtain ⟨u, w', rfl, rx, rc⟩ := vals2 r
  cases rx
  obtain ⟨ox, od, J, _⟩ := xo_instD I hx hd
  have fin : ∀ tk, EP X pins σ Q (.bool b) { s with toks := tk } := fun tk => ⟨.bl b, H, I.tok _, rfl, q⟩
  cases c with
  | ty n => cases rc; exact PySem.W.kia_one (kit_exc ty) I.kIn J e (fun z => nomatch z) fin
  | ref a => cases rc; exact PySem.W.kia_one (kit_exc ty) I.kIn J e (fun z => nomatch z) fin
  | _ => exact absurd (show false = true from hc) Bool.false_ne_true
end
end L2


namespace My
open PySem L2
seal PySem.wpAny
def top (i : Nat) : Stmt := PySem.Challenge.pw_moot_k29_rows_refused.main.body.getD i (.Pass ⟨0, 0, 0, 0⟩)
abbrev s_NoRow_init : Stmt := inClass (top 12) 0
theorem sc_NoRow_init : FnScope ["self", "row"] ["self", "row"] (defScope s_NoRow_init) := ⟨rfl, rfl, rfl, by decide +kernel, rfl, by decide +kernel, by decide +kernel⟩

abbrev s_clause_of : Stmt := top 15
theorem sc_clause_of : FnScope ["words"] ["words"] (defScope s_clause_of) := ⟨rfl, rfl, rfl, by decide +kernel, rfl, by decide +kernel, by decide +kernel⟩

abbrev s_require : Stmt := top 23
theorem sc_require : FnScope ["holds"] ["holds"] (defScope s_require) := ⟨rfl, rfl, rfl, by decide +kernel, rfl, by decide +kernel, by decide +kernel⟩

abbrev s_is_sign : Stmt := top 24
theorem sc_is_sign : FnScope ["sign"] ["sign"] (defScope s_is_sign) := ⟨rfl, rfl, rfl, by decide +kernel, rfl, by decide +kernel, by decide +kernel⟩

abbrev s_is_word : Stmt := top 25
theorem sc_is_word : FnScope ["word"] ["word"] (defScope s_is_word) := ⟨rfl, rfl, rfl, by decide +kernel, rfl, by decide +kernel, by decide +kernel⟩
abbrev kcs_is_word_0 : Scope := { kind := .function, names := [(Str.ofString ".0", .local), (Str.ofString "sign", .local), (Str.ofString "is_sign", .globalImplicit)], isGenerator := false, isCoroutine := false, more := [] }
theorem cs_is_word_0 : CompScope kcs_is_word_0 (defScope s_is_word) "sign" ["word"] ["word"] := ⟨rfl, rfl, by decide +kernel, by decide +kernel, rfl, by decide +kernel, by decide +kernel, by decide +kernel, by decide +kernel, rfl, by decide +kernel, by decide +kernel⟩

abbrev s_is_number : Stmt := top 26
theorem sc_is_number : FnScope ["word"] ["word"] (defScope s_is_number) := ⟨rfl, rfl, rfl, by decide +kernel, rfl, by decide +kernel, by decide +kernel⟩
abbrev kcs_is_number_0 : Scope := { kind := .function, names := [(Str.ofString ".0", .local), (Str.ofString "sign", .local), (Str.ofString "FIGURES", .globalImplicit)], isGenerator := false, isCoroutine := false, more := [] }
theorem cs_is_number_0 : CompScope kcs_is_number_0 (defScope s_is_number) "sign" ["word"] ["word"] := ⟨rfl, rfl, by decide +kernel, by decide +kernel, rfl, by decide +kernel, by decide +kernel, by decide +kernel, by decide +kernel, rfl, by decide +kernel, by decide +kernel⟩

abbrev s_read_number : Stmt := top 27
theorem sc_read_number : FnScope ["word"] ["word"] (defScope s_read_number) := ⟨rfl, rfl, rfl, by decide +kernel, rfl, by decide +kernel, by decide +kernel⟩

abbrev s_read_clause : Stmt := top 28
theorem sc_read_clause : FnScope ["words"] ["words"] (defScope s_read_clause) := ⟨rfl, rfl, rfl, by decide +kernel, rfl, by decide +kernel, by decide +kernel⟩
abbrev kcs_read_clause_0 : Scope := { kind := .function, names := [(Str.ofString ".0", .local), (Str.ofString "word", .local), (Str.ofString "is_word", .globalImplicit)], isGenerator := false, isCoroutine := false, more := [] }
theorem cs_read_clause_0 : CompScope kcs_read_clause_0 (defScope s_read_clause) "word" ["words"] ["words"] := ⟨rfl, rfl, by decide +kernel, by decide +kernel, rfl, by decide +kernel, by decide +kernel, by decide +kernel, by decide +kernel, rfl, by decide +kernel, by decide +kernel⟩

abbrev s_read_text : Stmt := top 29
theorem sc_read_text : FnScope ["words", "clauses", "word"] ["words"] (defScope s_read_text) := ⟨rfl, rfl, rfl, by decide +kernel, rfl, by decide +kernel, by decide +kernel⟩
abbrev kcs_read_text_0 : Scope := { kind := .function, names := [(Str.ofString ".0", .local), (Str.ofString "clause", .local), (Str.ofString "read_clause", .globalImplicit)], isGenerator := false, isCoroutine := false, more := [] }
theorem cs_read_text_0 : CompScopeG kcs_read_text_0 (defScope s_read_text) ["clause"] ["words", "clauses", "word"] ["words", "clauses", "word"] := ⟨rfl, rfl, by decide +kernel, by decide +kernel, by decide +kernel, by decide +kernel, by decide +kernel, by decide +kernel, by decide +kernel, rfl, by decide +kernel, by decide +kernel⟩

abbrev s_read_edit : Stmt := top 30
theorem sc_read_edit : FnScope ["words", "kind", "place", "thing"] ["words"] (defScope s_read_edit) := ⟨rfl, rfl, rfl, by decide +kernel, rfl, by decide +kernel, by decide +kernel⟩

abbrev s_read_mend : Stmt := top 31
theorem sc_read_mend : FnScope ["words", "edit"] ["words"] (defScope s_read_mend) := ⟨rfl, rfl, rfl, by decide +kernel, rfl, by decide +kernel, by decide +kernel⟩

abbrev s_read_sitting : Stmt := top 32
theorem sc_read_sitting : FnScope ["words", "sitting"] ["words"] (defScope s_read_sitting) := ⟨rfl, rfl, rfl, by decide +kernel, rfl, by decide +kernel, by decide +kernel⟩

abbrev s_read_deed : Stmt := top 33
theorem sc_read_deed : FnScope ["row", "words", "kind", "behind"] ["row"] (defScope s_read_deed) := ⟨rfl, rfl, rfl, by decide +kernel, rfl, by decide +kernel, by decide +kernel⟩

abbrev s_l_cell_at : Stmt := top 35
theorem sc_l_cell_at : FnScope ["_law_script", "_law_k"] ["_law_script", "_law_k"] (defScope s_l_cell_at) := ⟨rfl, rfl, rfl, by decide +kernel, rfl, by decide +kernel, by decide +kernel⟩

abbrev s_l_whole : Stmt := top 36
theorem sc_l_whole : FnScope ["_law_found"] ["_law_found"] (defScope s_l_whole) := ⟨rfl, rfl, rfl, by decide +kernel, rfl, by decide +kernel, by decide +kernel⟩

abbrev s_l_bad_number : Stmt := top 37
theorem sc_l_bad_number : FnScope ["_law_draw", "_law_some"] ["_law_draw"] (defScope s_l_bad_number) := ⟨rfl, rfl, rfl, by decide +kernel, rfl, by decide +kernel, by decide +kernel⟩

abbrev s_l_numbered : Stmt := top 38
theorem sc_l_numbered : FnScope ["_law_number", "_law_draw", "_law_some"] ["_law_number", "_law_draw"] (defScope s_l_numbered) := ⟨rfl, rfl, rfl, by decide +kernel, rfl, by decide +kernel, by decide +kernel⟩

abbrev s_l_bad : Stmt := top 39
theorem sc_l_bad : FnScope ["_law_way", "_law_draw", "_law_some", "_law_long"] ["_law_way", "_law_draw"] (defScope s_l_bad) := ⟨rfl, rfl, rfl, by decide +kernel, rfl, by decide +kernel, by decide +kernel⟩

abbrev s_l_another : Stmt := top 40
theorem sc_l_another : FnScope ["_law_caught", "_law_some"] ["_law_caught"] (defScope s_l_another) := ⟨rfl, rfl, rfl, by decide +kernel, rfl, by decide +kernel, by decide +kernel⟩

abbrev s_l_refused : Stmt := top 41
theorem sc_l_refused : FnScope ["_law_row", "_law_caught", "e"] ["_law_row"] (defScope s_l_refused) := ⟨rfl, rfl, rfl, by decide +kernel, rfl, by decide +kernel, by decide +kernel⟩

abbrev s_law : Stmt := top 42
theorem sc_law : FnScope ["_law_script", "_law_good", "_law_k", "_law_cell", "_law_row", "_law_deed"] ["_law_script"] (defScope s_law) := ⟨rfl, rfl, rfl, by decide +kernel, rfl, by decide +kernel, by decide +kernel⟩

structure Adr where
  clause_of : Addr
  fd_clause_of : FuncData
  require : Addr
  fd_require : FuncData
  is_sign : Addr
  fd_is_sign : FuncData
  is_word : Addr
  fd_is_word : FuncData
  is_number : Addr
  fd_is_number : FuncData
  read_number : Addr
  fd_read_number : FuncData
  read_clause : Addr
  fd_read_clause : FuncData
  read_text : Addr
  fd_read_text : FuncData
  read_edit : Addr
  fd_read_edit : FuncData
  read_mend : Addr
  fd_read_mend : FuncData
  read_sitting : Addr
  fd_read_sitting : FuncData
  read_deed : Addr
  fd_read_deed : FuncData
  l_cell_at : Addr
  fd_l_cell_at : FuncData
  l_whole : Addr
  fd_l_whole : FuncData
  l_bad_number : Addr
  fd_l_bad_number : FuncData
  l_numbered : Addr
  fd_l_numbered : FuncData
  l_bad : Addr
  fd_l_bad : FuncData
  l_another : Addr
  fd_l_another : FuncData
  l_refused : Addr
  fd_l_refused : FuncData
  tk_FIGURES : Tok
  tk_MOST_FIGURES : Tok
  tk_MOST_SIGNS : Tok
  tk_LAST_SITTING : Tok
  tk_PERCENT : Tok
  o_LONE : Addr
  C_ChamberError : Addr
  C_NoFit : Addr
  C_Barred : Addr
  C_NoMatter : Addr
  C_NoChange : Addr
  C_NotLater : Addr
  C_Nothing : Addr
  C_TooMany : Addr
  C_NoAside : Addr
  C_NotYet : Addr
  C_NoNumber : Addr
  C_NoRow : Addr
  C_NoName : Addr
  f_NoRow : Addr
  fd_NoRow : FuncData
structure Txt (K : PySem.W.Frag) (mg : Str → Option Value) (A : Adr) : Prop where
  F_clause_of : Fun K "clause_of" "clause_of" s_clause_of A.clause_of A.fd_clause_of
  b_clause_of : Binds K A.fd_clause_of ["words"] []
  g_clause_of : mg "clause_of" = some (.ref A.clause_of)
  F_require : Fun K "require" "require" s_require A.require A.fd_require
  b_require : Binds K A.fd_require ["holds"] []
  g_require : mg "require" = some (.ref A.require)
  F_is_sign : Fun K "is_sign" "is_sign" s_is_sign A.is_sign A.fd_is_sign
  b_is_sign : Binds K A.fd_is_sign ["sign"] []
  g_is_sign : mg "is_sign" = some (.ref A.is_sign)
  F_is_word : Fun K "is_word" "is_word" s_is_word A.is_word A.fd_is_word
  b_is_word : Binds K A.fd_is_word ["word"] []
  g_is_word : mg "is_word" = some (.ref A.is_word)
  F_is_number : Fun K "is_number" "is_number" s_is_number A.is_number A.fd_is_number
  b_is_number : Binds K A.fd_is_number ["word"] []
  g_is_number : mg "is_number" = some (.ref A.is_number)
  F_read_number : Fun K "read_number" "read_number" s_read_number A.read_number A.fd_read_number
  b_read_number : Binds K A.fd_read_number ["word"] []
  g_read_number : mg "read_number" = some (.ref A.read_number)
  F_read_clause : Fun K "read_clause" "read_clause" s_read_clause A.read_clause A.fd_read_clause
  b_read_clause : Binds K A.fd_read_clause ["words"] []
  g_read_clause : mg "read_clause" = some (.ref A.read_clause)
  F_read_text : Fun K "read_text" "read_text" s_read_text A.read_text A.fd_read_text
  b_read_text : Binds K A.fd_read_text ["words"] []
  g_read_text : mg "read_text" = some (.ref A.read_text)
  F_read_edit : Fun K "read_edit" "read_edit" s_read_edit A.read_edit A.fd_read_edit
  b_read_edit : Binds K A.fd_read_edit ["words"] []
  g_read_edit : mg "read_edit" = some (.ref A.read_edit)
  F_read_mend : Fun K "read_mend" "read_mend" s_read_mend A.read_mend A.fd_read_mend
  b_read_mend : Binds K A.fd_read_mend ["words"] []
  g_read_mend : mg "read_mend" = some (.ref A.read_mend)
  F_read_sitting : Fun K "read_sitting" "read_sitting" s_read_sitting A.read_sitting A.fd_read_sitting
  b_read_sitting : Binds K A.fd_read_sitting ["words"] []
  g_read_sitting : mg "read_sitting" = some (.ref A.read_sitting)
  F_read_deed : Fun K "read_deed" "read_deed" s_read_deed A.read_deed A.fd_read_deed
  b_read_deed : Binds K A.fd_read_deed ["row"] []
  g_read_deed : mg "read_deed" = some (.ref A.read_deed)
  F_l_cell_at : Fun K "_law_cell_at" "_law_cell_at" s_l_cell_at A.l_cell_at A.fd_l_cell_at
  b_l_cell_at : Binds K A.fd_l_cell_at ["_law_script", "_law_k"] []
  g_l_cell_at : mg "_law_cell_at" = some (.ref A.l_cell_at)
  F_l_whole : Fun K "_law_whole" "_law_whole" s_l_whole A.l_whole A.fd_l_whole
  b_l_whole : Binds K A.fd_l_whole ["_law_found"] []
  g_l_whole : mg "_law_whole" = some (.ref A.l_whole)
  F_l_bad_number : Fun K "_law_bad_number" "_law_bad_number" s_l_bad_number A.l_bad_number A.fd_l_bad_number
  b_l_bad_number : Binds K A.fd_l_bad_number ["_law_draw"] []
  g_l_bad_number : mg "_law_bad_number" = some (.ref A.l_bad_number)
  F_l_numbered : Fun K "_law_numbered" "_law_numbered" s_l_numbered A.l_numbered A.fd_l_numbered
  b_l_numbered : Binds K A.fd_l_numbered ["_law_number", "_law_draw"] []
  g_l_numbered : mg "_law_numbered" = some (.ref A.l_numbered)
  F_l_bad : Fun K "_law_bad" "_law_bad" s_l_bad A.l_bad A.fd_l_bad
  b_l_bad : Binds K A.fd_l_bad ["_law_way", "_law_draw"] []
  g_l_bad : mg "_law_bad" = some (.ref A.l_bad)
  F_l_another : Fun K "_law_another" "_law_another" s_l_another A.l_another A.fd_l_another
  b_l_another : Binds K A.fd_l_another ["_law_caught"] []
  g_l_another : mg "_law_another" = some (.ref A.l_another)
  F_l_refused : Fun K "_law_refused" "_law_refused" s_l_refused A.l_refused A.fd_l_refused
  b_l_refused : Binds K A.fd_l_refused ["_law_row"] []
  g_l_refused : mg "_law_refused" = some (.ref A.l_refused)
  n_range : mg "range" = none
  n_list : mg "list" = none
  n_int : mg "int" = none
  n_bool : mg "bool" = none
  n_isinstance : mg "isinstance" = none
  n_max : mg "max" = none
  n_min : mg "min" = none
  n_len : mg "len" = none
  n_all : mg "all" = none
  n_any : mg "any" = none
  n_ord : mg "ord" = none
  n_ValueError : mg "ValueError" = none
  g_FIGURES : mg "FIGURES" = some (.str (Str.ofString "0123456789") A.tk_FIGURES)
  g_MOST_FIGURES : mg "MOST_FIGURES" = some (.int 10 A.tk_MOST_FIGURES)
  g_MOST_SIGNS : mg "MOST_SIGNS" = some (.int 20 A.tk_MOST_SIGNS)
  g_LAST_SITTING : mg "LAST_SITTING" = some (.int 999999999 A.tk_LAST_SITTING)
  g_PERCENT : mg "PERCENT" = some (.int 37 A.tk_PERCENT)
  g_LONE : mg "LONE" = some (.ref A.o_LONE)
  q_LONE : ∀ H, SqT K H A.o_LONE [.str (Str.ofString "close"), .str (Str.ofString "lay"), .str (Str.ofString "rest"), .str (Str.ofString "drop")]
  g_ChamberError : mg "ChamberError" = some (.ref A.C_ChamberError)
  g_NoFit : mg "NoFit" = some (.ref A.C_NoFit)
  g_Barred : mg "Barred" = some (.ref A.C_Barred)
  g_NoMatter : mg "NoMatter" = some (.ref A.C_NoMatter)
  g_NoChange : mg "NoChange" = some (.ref A.C_NoChange)
  g_NotLater : mg "NotLater" = some (.ref A.C_NotLater)
  g_Nothing : mg "Nothing" = some (.ref A.C_Nothing)
  g_TooMany : mg "TooMany" = some (.ref A.C_TooMany)
  g_NoAside : mg "NoAside" = some (.ref A.C_NoAside)
  g_NotYet : mg "NotYet" = some (.ref A.C_NotYet)
  g_NoNumber : mg "NoNumber" = some (.ref A.C_NoNumber)
  g_NoRow : mg "NoRow" = some (.ref A.C_NoRow)
  g_NoName : mg "NoName" = some (.ref A.C_NoName)
  ik_ChamberError : InitK K A.C_ChamberError
  xt_NoRow : ExcTy K A.C_NoRow
  F_x_NoRow : Fun K "__init__" "NoRow.__init__" s_NoRow_init A.f_NoRow A.fd_NoRow
  b_x_NoRow : Binds K A.fd_NoRow ["self", "row"] []
  xI_NoRow : ExcI K A.C_NoRow A.f_NoRow "row"
  xr_NoRow : XFld K A.C_NoRow "row"
  xm_NoRow_ChamberError : PySem.W.exmOne K (.ref A.C_NoRow) (.ref A.C_ChamberError) = some true
  xi_NoRow_NoFit : PySem.W.kitOne K (.ref A.C_NoRow) (.ref A.C_NoFit) = some false
  xi_NoRow_Barred : PySem.W.kitOne K (.ref A.C_NoRow) (.ref A.C_Barred) = some false
  xi_NoRow_NoMatter : PySem.W.kitOne K (.ref A.C_NoRow) (.ref A.C_NoMatter) = some false
  xi_NoRow_NoChange : PySem.W.kitOne K (.ref A.C_NoRow) (.ref A.C_NoChange) = some false
  xi_NoRow_NotLater : PySem.W.kitOne K (.ref A.C_NoRow) (.ref A.C_NotLater) = some false
  xi_NoRow_Nothing : PySem.W.kitOne K (.ref A.C_NoRow) (.ref A.C_Nothing) = some false
  xi_NoRow_TooMany : PySem.W.kitOne K (.ref A.C_NoRow) (.ref A.C_TooMany) = some false
  xi_NoRow_NoAside : PySem.W.kitOne K (.ref A.C_NoRow) (.ref A.C_NoAside) = some false
  xi_NoRow_NotYet : PySem.W.kitOne K (.ref A.C_NoRow) (.ref A.C_NotYet) = some false
  xi_NoRow_NoNumber : PySem.W.kitOne K (.ref A.C_NoRow) (.ref A.C_NoNumber) = some false
  xi_NoRow_NoRow : PySem.W.kitOne K (.ref A.C_NoRow) (.ref A.C_NoRow) = some true
  xi_NoRow_NoName : PySem.W.kitOne K (.ref A.C_NoRow) (.ref A.C_NoName) = some false
  xi_NoRow_ValueError : PySem.W.kitOne K (.ref A.C_NoRow) (.type "ValueError") = some true

theorem ofs_len1 (c : Nat) : (⟨#[c]⟩ : Str).length = 1 := rfl
/-! ### the draws: numbers, words, clauses -/
abbrev bl1 : Str := Str.ofString " "
abbrev em : Str := Str.ofString ""
theorem bl1_eq : bl1 = ⟨#[32]⟩ := by decide +kernel
theorem em_eq : em = ⟨#[]⟩ := by decide +kernel
abbrev sg : Str := Str.ofString "!\"#$&'()*+,-./0123456789:;<=>?@ABCDEFGHIJKLMNOPQRSTUVWXYZ[\\]^_`abcdefghijklmnopqrstuvwxyz{|}~"
/-- a sign of a word -/
def Sign (c : Nat) : Prop := 33 ≤ c ∧ c ≤ 126 ∧ c ≠ 37
instance : DecidablePred Sign := fun c => by unfold Sign; exact inferInstance
theorem sg_list : sg.cps.toList.length = 93 := by decide +kernel
theorem sg_sign : ∀ c ∈ sg.cps.toList, Sign c := by decide +kernel
/-- a word of the document -/
structure Word (x : Str) : Prop where
  l1 : 1 ≤ x.length
  l2 : x.length ≤ 20
  sgn : ∀ c ∈ x.cps.toList, Sign c
  ns : x ≠ Str.ofString "/"
def Asc (x : Str) : Prop := ∀ c ∈ x.cps.toList, c < 128
theorem Asc.ok {x : Str} (h : Asc x) : PyData.strOk x = true := by
  unfold PyData.strOk
  rw [Array.all_eq_true]
  intro i hi
  have := h x.cps[i] (by simp)
  exact decide_eq_true (by omega)
theorem Word.asc {x : Str} (w : Word x) : Asc x := fun c hc => by have := w.sgn c hc; unfold Sign at this; omega
theorem asc_join {sep : Str} (hs : Asc sep) : ∀ ws : List Str, (∀ w ∈ ws, Asc w) → Asc (Str.join sep ws)
  | [], _ => fun c hc => by
    have : c ∈ ([] : List Nat) := hc
    cases this
  | [x], h => h x List.mem_cons_self
  | x :: y :: r, h => fun c hc => by
    have hc' : c ∈ ((x ++ sep) ++ Str.join sep (y :: r)).cps.toList := hc
    rw [app_toList, app_toList, List.mem_append, List.mem_append] at hc'
    rcases hc' with (h1 | h1) | h1
    · exact h x List.mem_cons_self c h1
    · exact hs c h1
    · exact asc_join hs (y :: r) (fun w hw => h w (List.mem_cons_of_mem _ hw)) c h1
theorem join_em : ∀ ws : List Str, (Str.join em ws).cps.toList = (ws.map fun w => w.cps.toList).flatten
  | [] => rfl
  | [x] => by
    show x.cps.toList = _
    simp
  | x :: y :: r => by
    show ((x ++ em) ++ Str.join em (y :: r)).cps.toList = _
    rw [app_toList, app_toList, join_em (y :: r), em_eq]
    simp
theorem ones_flat : ∀ cs : List Nat, ((cs.map fun c => (⟨#[c]⟩ : Str)).map fun w => w.cps.toList).flatten = cs
  | [] => rfl
  | c :: r => by
    have := ones_flat r
    simp only [List.map_cons, List.flatten_cons]
    rw [this]
    rfl
theorem len_toList (x : Str) : x.cps.toList.length = x.length := by simp [Str.length]
theorem word_of {cs : List Nat} (h1 : 1 ≤ cs.length) (h2 : cs.length ≤ 20) (h : ∀ c ∈ cs, Sign c) (hn : Str.join em (cs.map fun c => (⟨#[c]⟩ : Str)) ≠ Str.ofString "/") : Word (Str.join em (cs.map fun c => (⟨#[c]⟩ : Str))) := by
  have e : (Str.join em (cs.map fun c => (⟨#[c]⟩ : Str))).cps.toList = cs := by rw [join_em, ones_flat]
  have l : (Str.join em (cs.map fun c => (⟨#[c]⟩ : Str))).length = cs.length := by rw [← len_toList, e]
  exact ⟨by omega, by omega, by rw [e]; exact h, hn⟩
abbrev eight : List Str := [Str.ofString "-", Str.ofString "put", Str.ofString "/a", Str.ofString "0", Str.ofString "off", Str.ofString "//", Str.ofString "matter", Str.ofString "a"]
theorem word_lit {x : Str} (h : decide (1 ≤ x.length ∧ x.length ≤ 20 ∧ (∀ c ∈ x.cps.toList, Sign c) ∧ x ≠ Str.ofString "/") = true) : Word x := by
  obtain ⟨a, b, c, d⟩ := of_decide_eq_true h
  exact ⟨a, b, c, d⟩
theorem eight_word : ∀ x ∈ eight, Word x := by
  intro x hx
  simp only [List.mem_cons, List.not_mem_nil, or_false] at hx
  rcases hx with rfl | rfl | rfl | rfl | rfl | rfl | rfl | rfl <;> exact word_lit (by decide +kernel)
theorem dash_word : Word (Str.ofString "-") := eight_word _ List.mem_cons_self
/-- a clause of at most n words -/
structure Clause (n : Nat) (x : Str) (ws : List Str) : Prop where
  eq : x = Str.join bl1 ws
  len : ws.length ≤ n
  wd : ∀ w ∈ ws, Word w
theorem Clause.asc {n : Nat} {x : Str} {ws : List Str} (c : Clause n x ws) : Asc x := by
  rw [c.eq]
  exact asc_join (by rw [bl1_eq]; intro d hd; have : d = 32 := (by simpa using hd); omega) ws fun w hw => (c.wd w hw).asc
theorem sum20 {ws : List Str} (h : ∀ w ∈ ws, Word w) : (ws.map (·.length)).sum ≤ ws.length * 20 := StrLaws.sumLen_le ws fun w hw => (h w hw).l2
theorem Clause.size {n : Nat} {x : Str} {ws : List Str} (c : Clause n x ws) : x.length ≤ n * 21 := by
  rw [c.eq, bl1_eq]
  have h1 := join_len1 32 ws
  have h2 := sum20 c.wd
  have h3 := c.len
  omega
/-- new objects may have been laid -/
def spStream : Sp := fun vs H Q _ => ∃ (c n : Int), vs = [.int c, .int n] ∧ 0 ≤ n ∧ n ≤ 1000 ∧
  ∀ (zs : List Int) (p : Addr) (H' : Hp), (zs.length : Int) = n → (∀ z ∈ zs, 0 ≤ z ∧ z < 4294967311) → Same H H' → H p = none → H' p = some (.lst (zs.map V.int)) → Q (.ref p) H'
def spWord : Sp := fun vs H Q _ => ∃ d : Int, vs = [.int d] ∧ ∀ (x : Str) (H' : Hp), Word x → Same H H' → Q (.str x) H'
def spClause : Sp := fun vs H Q _ => ∃ d : Int, vs = [.int d] ∧ ∀ (x : Str) (ws : List Str) (H' : Hp), Clause 3 x ws → Same H H' → Q (.str x) H'

/-! ### deeds and their rows -/
abbrev sl1 : Str := Str.ofString "/"
def num (i : Int) : Str := Str.ofString (toString i)
theorem num_len {i : Int} (h0 : 0 ≤ i) (h1 : i < 10 ^ 10) : (num i).length ≤ 10 := PyProof.Rows.toString_length_le h0 (by decide) h1
theorem num_log {i : Int} (h0 : 0 ≤ i) (h1 : i < 10 ^ 10) : i.natAbs.log2 < 1920 := by
  have h : i.natAbs < 2 ^ 34 := by
    have : (10 : Int) ^ 10 ≤ 2 ^ 34 := by decide
    omega
  by_cases hz : i.natAbs = 0
  · rw [hz]; decide
  · exact Nat.lt_trans ((Nat.log2_lt hz).mpr h) (by decide)
def wordsT (z : Str) : List Str := if z = em then [] else PySem.Txt.split z bl1
theorem Word.free {x : Str} (w : Word x) : 32 ∉ x.cps.toList := fun z => by have := w.sgn _ z; unfold Sign at this; omega
theorem words_clause {ws : List Str} (h : ∀ w ∈ ws, Word w) : wordsT (Str.join bl1 ws) = ws := by
  cases ws with
  | nil => exact if_pos (by rw [em_eq]; rfl)
  | cons x r =>
    have l := join_ne_empty (c := 32) (List.cons_ne_nil x r) fun w hw => (h w hw).l1
    have ne : ¬ Str.join bl1 (x :: r) = em := fun e => by
      rw [bl1_eq] at e
      rw [e, em_eq] at l
      exact absurd l (by decide)
    unfold wordsT
    rw [if_neg ne, bl1_eq]
    exact split_join (List.cons_ne_nil x r) fun w hw => (h w hw).free
inductive Deed where
  | mat (cs : List (List Str))
  | ed (m : Bool) (k : Nat) (i : Int) (ws : List Str)
  | pt (ws : List Str)
  | nums (kd : Str) (ns : List Int)
def kEd (m : Bool) : Str := if m then Str.ofString "mend" else Str.ofString "change"
def kn : Nat → Str
  | 0 => Str.ofString "put"
  | 1 => Str.ofString "cut"
  | _ => Str.ofString "turn"
def edR (k : Nat) (i : Int) (x : Str) : List V := if k = 1 then [.str (kn 1), .int i] else [.str (kn k), .int i, .str x]
def numKinds : List (Str × Nat) := [(Str.ofString "put off", 1), (Str.ofString "vote", 2), (Str.ofString "take", 1), (Str.ofString "close", 0), (Str.ofString "lay", 0), (Str.ofString "rest", 0), (Str.ofString "drop", 0)]
structure WsOk (n : Nat) (ws : List Str) : Prop where
  len : ws.length ≤ n
  wd : ∀ w ∈ ws, Word w
def DOk : Deed → Prop
  | .mat cs => cs.length ≤ 12 ∧ ∀ ws ∈ cs, WsOk 12 ws
  | .ed m k i ws => (k = 0 ∨ k = 1 ∨ k = 2) ∧ (0 ≤ i ∧ i < 10 ^ 10) ∧ WsOk 12 ws ∧ (m = true → ws.length = 1)
  | .pt ws => WsOk 12 ws
  | .nums kd ns => (kd, ns.length) ∈ numKinds ∧ ∀ i ∈ ns, 0 ≤ i ∧ i < 10 ^ 10
def DeedAt (K : PySem.W.Frag) (H : Hp) : Deed → Addr → Prop
  | .mat cs, t => ∃ L, SqT K H t [.str (Str.ofString "matter"), .ref L] ∧ SqL K H L ((cs.map (Str.join bl1)).map V.str)
  | .ed m k i ws, t => ∃ e, SqT K H t [.str (kEd m), .ref e] ∧ SqT K H e (edR k i (Str.join bl1 ws))
  | .pt ws, t => SqT K H t [.str (Str.ofString "point"), .str (Str.join bl1 ws)]
  | .nums kd ns, t => SqT K H t (.str kd :: ns.map V.int)
theorem DeedAt.same {K : PySem.W.Frag} {H H' : Hp} (s : Same H H') : ∀ {d : Deed} {t : Addr}, DeedAt K H d t → DeedAt K H' d t
  | .mat _, _, ⟨L, a, b⟩ => ⟨L, same_sqt s a, s.seq b⟩
  | .ed _ _ _ _, _, ⟨e, a, b⟩ => ⟨e, same_sqt s a, same_sqt s b⟩
  | .pt _, _, a => same_sqt s a
  | .nums _ _, _, a => same_sqt s a
def dKind : Deed → Str
  | .mat _ => Str.ofString "matter"
  | .ed m _ _ _ => kEd m
  | .pt _ => Str.ofString "point"
  | .nums kd _ => kd
def dBehind : Deed → List Str
  | .mat cs => cs.flatMap fun ws => sl1 :: ws
  | .ed _ k i ws => kn k :: num i :: (if k = 1 then [] else ws)
  | .pt ws => ws
  | .nums _ ns => ns.map num
def dRow (d : Deed) : Str := Str.join bl1 (dKind d :: dBehind d)
theorem sum_le {ws : List Str} {n : Nat} (h : ∀ w ∈ ws, w.length ≤ n) : (ws.map (·.length)).sum ≤ ws.length * n := StrLaws.sumLen_le ws h
theorem Word.l20 {ws : List Str} (h : ∀ w ∈ ws, Word w) : ∀ w ∈ ws, w.length ≤ 20 := fun w hw => (h w hw).l2
theorem kn_len (k : Nat) : (kn k).length ≤ 4 := by
  unfold kn
  split <;> decide +kernel
theorem kEd_len (m : Bool) : (kEd m).length ≤ 6 := by cases m <;> decide +kernel
theorem kd_len {kd : Str} {n : Nat} (h : (kd, n) ∈ numKinds) : kd.length ≤ 7 ∧ n ≤ 2 := by
  simp only [numKinds, List.mem_cons, List.not_mem_nil, or_false, Prod.mk.injEq] at h
  rcases h with ⟨rfl, rfl⟩ | ⟨rfl, rfl⟩ | ⟨rfl, rfl⟩ | ⟨rfl, rfl⟩ | ⟨rfl, rfl⟩ | ⟨rfl, rfl⟩ | ⟨rfl, rfl⟩ <;> decide +kernel
theorem behind_ok {d : Deed} (o : DOk d) : (dBehind d).length ≤ 200 ∧ (∀ w ∈ dBehind d, w.length ≤ 20) ∧ (dKind d).length ≤ 20 := by
  cases d with
  | mat cs =>
    obtain ⟨o1, o2⟩ := o
    refine ⟨?_, fun w hw => ?_, by show (Str.ofString "matter").length ≤ 20; decide +kernel⟩
    · show (cs.flatMap fun ws => sl1 :: ws).length ≤ 200
      have : ∀ l : List (List Str), (∀ ws ∈ l, WsOk 12 ws) → (l.flatMap fun ws => sl1 :: ws).length ≤ l.length * 13 := fun l => by
        induction l with
        | nil => intro _; exact Nat.le_refl _
        | cons x l ih =>
          intro h
          have h1 := (h x List.mem_cons_self).len
          have h2 := ih fun w hw => h w (List.mem_cons_of_mem _ hw)
          rw [List.flatMap_cons, List.length_append, List.length_cons, List.length_cons]
          omega
      have := this cs o2
      omega
    · obtain ⟨ws, h1, h2⟩ := List.mem_flatMap.mp hw
      rcases List.mem_cons.mp h2 with rfl | h2
      · decide +kernel
      · exact ((o2 ws h1).wd w h2).l2
  | ed m k i ws =>
    obtain ⟨o1, ⟨i0, i1⟩, o3, _⟩ := o
    have l := o3.len
    refine ⟨?_, fun w hw => ?_, ?_⟩
    · show (kn k :: num i :: (if k = 1 then [] else ws)).length ≤ 200
      split <;> simp <;> omega
    · have hw' : w ∈ kn k :: num i :: (if k = 1 then [] else ws) := hw
      rcases List.mem_cons.mp hw' with rfl | hw'
      · have := kn_len k; omega
      · rcases List.mem_cons.mp hw' with rfl | hw'
        · have := num_len i0 i1; omega
        · split at hw'
          · cases hw'
          · exact (o3.wd w hw').l2
    · have := kEd_len m
      show (kEd m).length ≤ 20
      omega
  | pt ws => exact ⟨by have := o.len; show ws.length ≤ 200; omega, fun w hw => (o.wd w hw).l2, by show (Str.ofString "point").length ≤ 20; decide +kernel⟩
  | nums kd ns =>
    obtain ⟨o1, o2⟩ := o
    have := kd_len o1
    refine ⟨by show (ns.map num).length ≤ 200; rw [List.length_map]; omega, fun w hw => ?_, by show kd.length ≤ 20; omega⟩
    obtain ⟨i, hi, rfl⟩ := List.mem_map.mp hw
    have := num_len (o2 i hi).1 (o2 i hi).2
    omega
/-! the program's promises -/
def spWordsOf : Sp := fun vs H Q _ => ∃ z, vs = [.str z] ∧ z.length + 2 ≤ sizeLine ∧ ∀ p, H p = none → Q (.ref p) (upd H p (.lst ((wordsT z).map V.str)))
def spClauseOf (K : PySem.W.Frag) : Sp := fun vs H Q _ => ∃ a ws, vs = [.ref a] ∧ SqL K H a (ws.map V.str) ∧ (ws.map (·.length)).sum + ws.length ≤ 16777216 ∧ Q (.str (Str.join bl1 ws)) H
def spText (K : PySem.W.Frag) : Sp := fun vs H Q _ => ∃ (L : Addr) (cs : List (List Str)), vs = [.ref L] ∧ SqL K H L ((cs.map (Str.join bl1)).map V.str) ∧ DOk (.mat cs) ∧ ∀ p H', Same H H' → H p = none → H' p = some (.lst ((dBehind (.mat cs)).map V.str)) → Q (.ref p) H'
def spWEdit (K : PySem.W.Frag) : Sp := fun vs H Q _ => ∃ (t : Addr) (m : Bool) (k : Nat) (i : Int) (ws : List Str), vs = [.ref t] ∧ SqT K H t (edR k i (Str.join bl1 ws)) ∧ DOk (.ed m k i ws) ∧ ∀ p H', Same H H' → H p = none → H' p = some (.lst ((dBehind (.ed m k i ws)).map V.str)) → Q (.ref p) H'
def spBehind (K : PySem.W.Frag) : Sp := fun vs H Q _ => ∃ (t : Addr) (d : Deed), vs = [.ref t] ∧ DeedAt K H d t ∧ DOk d ∧ ∀ p H', Same H H' → H p = none → H' p = some (.lst ((dBehind d).map V.str)) → Q (.ref p) H'
def spShow (K : PySem.W.Frag) : Sp := fun vs H Q _ => ∃ (t : Addr) (d : Deed), vs = [.ref t] ∧ DeedAt K H d t ∧ DOk d ∧ ∀ H', Same H H' → Q (.str (dRow d)) H'
theorem kn_cut {k : Nat} (h : k = 0 ∨ k = 1 ∨ k = 2) : (V.str (kn k) = V.str (Str.ofString "cut")) ↔ k = 1 := by
  rcases h with rfl | rfl | rfl <;> decide +kernel
theorem edR_at0 (k : Nat) (i : Int) (x : Str) : atI (edR k i x) 0 = some (.str (kn k)) := by
  unfold edR
  split
  · rename_i h; rw [h]; rfl
  · rfl
theorem edR_at1 (k : Nat) (i : Int) (x : Str) : atI (edR k i x) 1 = some (.int i) := by
  unfold edR
  split <;> rfl
theorem edR_at2 {k : Nat} (h : k ≠ 1) (i : Int) (x : Str) : atI (edR k i x) 2 = some (.str x) := by
  unfold edR
  rw [if_neg h]; rfl
theorem clause_len {ws : List Str} (o : WsOk 12 ws) : (Str.join bl1 ws).length ≤ 300 := by
  have h1 := join_len1 32 ws
  have h2 := sum20 o.wd
  have h3 := o.len
  rw [bl1_eq]
  omega
theorem nk_ne {kd : Str} {n : Nat} (h : (kd, n) ∈ numKinds) : V.str kd ≠ V.str (Str.ofString "matter") ∧ V.str kd ≠ V.str (Str.ofString "change") ∧ V.str kd ≠ V.str (Str.ofString "mend") ∧ V.str kd ≠ V.str (Str.ofString "point") := by
  simp only [numKinds, List.mem_cons, List.not_mem_nil, or_false, Prod.mk.injEq] at h
  rcases h with ⟨rfl, rfl⟩ | ⟨rfl, rfl⟩ | ⟨rfl, rfl⟩ | ⟨rfl, rfl⟩ | ⟨rfl, rfl⟩ | ⟨rfl, rfl⟩ | ⟨rfl, rfl⟩ <;> decide +kernel
section
variable {K : PySem.W.Frag}
theorem DeedAt.at0 {H : Hp} {d : Deed} {t : Addr} (h : DeedAt K H d t) : ∃ xs, SqT K H t xs ∧ atI xs 0 = some (.str (dKind d)) := by
  cases d with
  | mat cs => obtain ⟨L, a, b⟩ := h; exact ⟨_, a, rfl⟩
  | ed m k i ws => obtain ⟨e, a, b⟩ := h; exact ⟨_, a, rfl⟩
  | pt ws => exact ⟨_, h, rfl⟩
  | nums kd ns => exact ⟨_, h, atI_nat (j := 0) rfl⟩
end
section
variable {P : Program} {w : World} {K : PySem.W.Frag} {mg : Str → Option Value} {base : Heap} {A : Adr}
theorem ok_clause_of (T : Txt K mg A) : FnOk P w K mg base CX0 1 A.clause_of A.fd_clause_of ["words"] (spClauseOf K) := by
  refine T.F_clause_of.ok sc_clause_of (fun vs H Q E h => ?_) (fun cdv A' outer s H vs Q E hr h => ?_)
  · obtain ⟨a, ws, rfl, _⟩ := h
    rfl
  · obtain ⟨a, ws, rfl, hq, hz, k⟩ := h
    refine ⟨_, (pss_one (ps_ret (pe_bm PySem.F.plainAttrs_str PySem.F.slot_str_join PySem.F.type_str_join mt_join pe_str (pa_cons (pv 0) pa_nil)))), ?_⟩
    exact ⟨rfl, _, rfl, bl1, a, ws, rfl, rfl, hq, by rw [bl1_eq]; show _ + ws.length * 1 ≤ _; omega, k⟩
end

/-! lists of words -/
def WAt (H : Hp) : List Addr → List (List Str) → Prop
  | [], cs => cs = []
  | p :: ps, cs => ∃ ws r, cs = ws :: r ∧ H p = some (.lst (ws.map V.str)) ∧ WAt H ps r
theorem WAt.same {H H' : Hp} (s : Same H H') : ∀ {ps : List Addr} {cs : List (List Str)}, WAt H ps cs → WAt H' ps cs
  | [], _, h => h
  | _ :: _, _, ⟨ws, r, e, h, t⟩ => ⟨ws, r, e, s _ _ h, WAt.same s t⟩
theorem WAt.upd {H : Hp} {b : Addr} {o : HO} : ∀ {ps : List Addr} {cs : List (List Str)}, b ∉ ps → WAt H ps cs → WAt (upd H b o) ps cs
  | [], _, _, h => h
  | p :: ps, _, hb, ⟨ws, r, e, h, t⟩ => ⟨ws, r, e, (upd_ne fun z => hb (by rw [z]; exact List.mem_cons_self)).trans h, WAt.upd (fun z => hb (List.mem_cons_of_mem _ z)) t⟩
theorem WAt.snoc {H : Hp} : ∀ {ps : List Addr} {cs : List (List Str)} {p : Addr} {ws : List Str}, WAt H ps cs → H p = some (.lst (ws.map V.str)) → WAt H (ps ++ [p]) (cs ++ [ws])
  | [], _, p, ws, h, e => by
    have h' : _ = [] := h
    subst h'
    exact ⟨ws, [], rfl, e, rfl⟩
  | _ :: _, _, p, ws, ⟨ws', r, e', h, t⟩, e => ⟨ws', r ++ [ws], by rw [e']; rfl, h, WAt.snoc t e⟩
theorem WAt.unsnoc {H : Hp} : ∀ {ps : List Addr} {cs : List (List Str)} {p : Addr}, WAt H (ps ++ [p]) cs → ∃ ds d, cs = ds ++ [d] ∧ WAt H ps ds ∧ H p = some (.lst (d.map V.str))
  | [], _, p, ⟨ws, r, e, h, t⟩ => by
    have t' : r = [] := t
    exact ⟨[], ws, by rw [e, t']; rfl, rfl, h⟩
  | _ :: _, _, p, ⟨ws, r, e, h, t⟩ => by
    obtain ⟨ds, d, e2, t2, h2⟩ := WAt.unsnoc t
    exact ⟨ws :: ds, d, by rw [e, e2]; rfl, ⟨ws, ds, rfl, h, t2⟩, h2⟩
theorem WAt.len {H : Hp} : ∀ {ps : List Addr} {cs : List (List Str)}, WAt H ps cs → ps.length = cs.length
  | [], _, h => by
    have h' : _ = [] := h
    rw [h']; rfl
  | _ :: _, _, ⟨ws, r, e, h, t⟩ => by rw [e, List.length_cons, List.length_cons, WAt.len t]
theorem WAt.get {H : Hp} : ∀ {ps : List Addr} {cs : List (List Str)} {i : Nat} {p : Addr}, WAt H ps cs → ps[i]? = some p → ∃ ws, cs[i]? = some ws ∧ H p = some (.lst (ws.map V.str))
  | [], _, _, _, _, g => by simp at g
  | _ :: _, _, 0, p, ⟨ws, r, e, h, t⟩, g => by
    obtain rfl := Option.some.inj g
    exact ⟨ws, by rw [e]; rfl, h⟩
  | _ :: _, _, i + 1, p, ⟨ws, r, e, h, t⟩, g => by
    obtain ⟨x, h1, h2⟩ := WAt.get t (show _ = some p from g)
    exact ⟨x, by rw [e]; exact h1, h2⟩

/-- a deed that was read: its list is its own -/
def DeedNew (H H' : Hp) : Deed → Addr → Prop
  | .mat cs, t => ∃ L, H' t = some (.tup [.str (Str.ofString "matter"), .ref L]) ∧ H L = none ∧ H' L = some (.lst ((cs.map (Str.join bl1)).map V.str))
  | .ed m k i ws, t => ∃ e, H' t = some (.tup [.str (kEd m), .ref e]) ∧ H' e = some (.tup (edR k i (Str.join bl1 ws)))
  | .pt ws, t => H' t = some (.tup [.str (Str.ofString "point"), .str (Str.join bl1 ws)])
  | .nums kd ns, t => H' t = some (.tup (.str kd :: ns.map V.int))
theorem DeedNew.at {K : PySem.W.Frag} {H H' : Hp} : ∀ {d : Deed} {t : Addr}, DeedNew H H' d t → DeedAt K H' d t
  | .mat _, _, ⟨L, a, _, b⟩ => ⟨L, SqT.of a, SqL.of b⟩
  | .ed _ _ _ _, _, ⟨e, a, b⟩ => ⟨e, SqT.of a, SqT.of b⟩
  | .pt _, _, h => SqT.of h
  | .nums _ _, _, h => SqT.of h
theorem DeedNew.back {H H1 H2 : Hp} (s : Same H H1) : ∀ {d : Deed} {t : Addr}, DeedNew H1 H2 d t → DeedNew H H2 d t
  | .mat _, _, ⟨L, a, b, c⟩ => ⟨L, a, s.free b, c⟩
  | .ed _ _ _ _, _, h => h
  | .pt _, _, h => h
  | .nums _ _, _, h => h
theorem DeedNew.top {H H' : Hp} : ∀ {d : Deed} {t : Addr}, DeedNew H H' d t → ∃ xs, H' t = some (.tup (.str (dKind d) :: xs))
  | .mat _, _, ⟨_, a, _⟩ => ⟨_, a⟩
  | .ed _ _ _ _, _, ⟨_, a, _⟩ => ⟨_, a⟩
  | .pt _, _, h => ⟨_, h⟩
  | .nums _ _, _, h => ⟨_, h⟩
theorem DeedNew.same {H H1 H2 : Hp} (s : Same H1 H2) : ∀ {d : Deed} {t : Addr}, DeedNew H H1 d t → DeedNew H H2 d t
  | .mat _, _, ⟨L, a, b, c⟩ => ⟨L, s _ _ a, b, s _ _ c⟩
  | .ed _ _ _ _, _, ⟨e, a, b⟩ => ⟨e, s _ _ a, s _ _ b⟩
  | .pt _, _, h => s _ _ h
  | .nums _ _, _, h => s _ _ h

/-! ### READ: rows read -/
def isSignB (c : Nat) : Bool := decide (33 ≤ c) && (decide (c ≤ 126) && decide (c ≠ 37))
def isWordB (z : Str) : Bool := decide (1 ≤ z.length) && (decide (z.length ≤ 20) && (!decide (z = sl1) && z.cps.toList.all isSignB))
def isDigB (c : Nat) : Bool := decide (48 ≤ c) && decide (c ≤ 57)
def isNumB (z : Str) : Bool := decide (z ≠ em) && (decide (z.length ≤ 10) && (z.cps.toList.all isDigB && (decide (z = Str.ofString "0") || !decide (z.cps.toList.head? = some 48))))
def numV (z : Str) : Int := (PySem.intText? z).getD 0
def clausesOf : List (List Str) → List Str → Option (List (List Str))
  | acc, [] => some acc
  | acc, w :: r => if w = sl1 then clausesOf (acc ++ [[]]) r else if acc = [] then none else clausesOf (acc.dropLast ++ [acc.getLastD [] ++ [w]]) r
def readText (ws : List Str) : Option (List (List Str)) := (clausesOf [] ws).bind fun cs => if cs.all (fun c => c.all isWordB) = true then some cs else none
def readEdit : List Str → Option (Nat × Int × List Str)
  | k :: p :: th => if isNumB p = true then (if k = kn 1 then (if th = [] then some (1, numV p, []) else none) else if (k = kn 0 ∨ k = kn 2) ∧ th.all isWordB = true then some (if k = kn 0 then 0 else 2, numV p, th) else none) else none
  | _ => none
def readMend (ws : List Str) : Option (Nat × Int × List Str) := (readEdit ws).bind fun e => if e.1 = 1 ∨ ws.length = 3 then some e else none
def readSit : List Str → Option Int
  | [o, n] => if o = Str.ofString "off" ∧ isNumB n = true ∧ 1 ≤ numV n ∧ numV n ≤ 999999999 then some (numV n) else none
  | _ => none
def lone : List Str := [Str.ofString "close", Str.ofString "lay", Str.ofString "rest", Str.ofString "drop"]
def readVote : List Str → Option Deed
  | [a, b] => if isNumB a = true ∧ isNumB b = true then some (.nums (Str.ofString "vote") [numV a, numV b]) else none
  | _ => none
def readTake : List Str → Option Deed
  | [a] => if isNumB a = true then some (.nums (Str.ofString "take") [numV a]) else none
  | _ => none
def readD : List Str → Option Deed
  | [] => none
  | k :: ws =>
    if k = Str.ofString "matter" then (readText ws).map .mat
    else if k = Str.ofString "change" then (readEdit ws).map fun e => .ed false e.1 e.2.1 e.2.2
    else if k = Str.ofString "mend" then (readMend ws).map fun e => .ed true e.1 e.2.1 e.2.2
    else if k = Str.ofString "put" then (readSit ws).map fun n => .nums (Str.ofString "put off") [n]
    else if k = Str.ofString "point" then (if ws.all isWordB = true then some (.pt ws) else none)
    else if k = Str.ofString "vote" then readVote ws
    else if k = Str.ofString "take" then readTake ws
    else if k ∈ lone ∧ ws = [] then some (.nums k []) else none
/-- words of a row -/
structure RowOk (ws : List Str) : Prop where
  sz : (ws.map (·.length)).sum + ws.length ≤ 60000
  asc : ∀ w ∈ ws, Asc w
theorem RowOk.len {ws : List Str} (o : RowOk ws) : ws.length ≤ 60000 := by have := o.sz; omega
theorem le_sum : ∀ {ws : List Str} {w : Str}, w ∈ ws → w.length ≤ (ws.map (·.length)).sum
  | x :: r, w, h => by
    rw [List.map_cons, List.sum_cons]
    rcases List.mem_cons.mp h with rfl | h
    · omega
    · have := le_sum h; omega
theorem RowOk.wl {ws : List Str} (o : RowOk ws) {w : Str} (h : w ∈ ws) : w.length ≤ 60000 := by have := o.sz; have := le_sum h; omega
theorem sum_drop (ws : List Str) (n : Nat) : ((ws.drop n).map (·.length)).sum ≤ (ws.map (·.length)).sum := by
  rw [List.map_drop]
  conv => rhs; rw [← List.take_append_drop n (ws.map (·.length)), List.sum_append]
  omega
theorem RowOk.drop {ws : List Str} (o : RowOk ws) (n : Nat) : RowOk (ws.drop n) :=
  ⟨by have := sum_drop ws n; have := o.sz; have : (ws.drop n).length ≤ ws.length := by rw [List.length_drop]; omega
      omega, fun w hw => o.asc w (List.mem_of_mem_drop hw)⟩
/-- refused with NoRow n -/
def ERow (A : Adr) (n : Int) (E : XK) (H : Hp) : Prop := ∀ (d : Addr) (H' : Hp), Same H H' → H' d = some (.xd [("row", .int n)]) → E (.ref A.C_NoRow) (some d) H'
theorem ERow.same {A : Adr} {n : Int} {E : XK} {H H1 : Hp} (e : ERow A n E H) (s : Same H H1) : ERow A n E H1 := fun d H' s' h => e d H' (s.trans s') h
def spRequire (A : Adr) : Sp := fun vs H Q E => ∃ b : Bool, vs = [.bl b] ∧ (b = true → Q .non H) ∧ (b = false → ERow A 1 E H)
def spIsSign : Sp := fun vs H Q _ => ∃ c : Nat, vs = [.str ⟨#[c]⟩] ∧ Q (.bl (isSignB c)) H
def spIsWord : Sp := fun vs H Q _ => ∃ z : Str, vs = [.str z] ∧ z.length ≤ 60000 ∧ ∀ H', Same H H' → Q (.bl (isWordB z)) H'
def spIsNum : Sp := fun vs H Q _ => ∃ z : Str, vs = [.str z] ∧ z.length ≤ 60000 ∧ ∀ H', Same H H' → Q (.bl (isNumB z)) H'
def spRNum (A : Adr) : Sp := fun vs H Q E => ∃ z : Str, vs = [.str z] ∧ z.length ≤ 60000 ∧ (isNumB z = true → ∀ H', Same H H' → Q (.int (numV z)) H') ∧ (isNumB z = false → ERow A 1 E H)
def spRClause (K : PySem.W.Frag) (A : Adr) : Sp := fun vs H Q E => ∃ (a : Addr) (ws : List Str), vs = [.ref a] ∧ SqL K H a (ws.map V.str) ∧ RowOk ws ∧ (ws.all isWordB = true → ∀ H', Same H H' → Q (.str (Str.join bl1 ws)) H') ∧ (ws.all isWordB = false → ERow A 1 E H)
theorem lt1 (a b : Nat) : decide ([a] < [b]) = decide (a < b) := by
  rw [Bool.eq_iff_iff, decide_eq_true_iff, decide_eq_true_iff]
  constructor
  · intro h
    cases h with
    | rel h => exact h
    | cons h => cases h
  · exact fun h => .rel h
section
variable {P : Program} {w : World} {K : PySem.W.Frag} {mg : Str → Option Value} {base : Heap} {A : Adr}
theorem ok_x_NoRow (T : Txt K mg A) : FnOk P w K mg base CX0 1 A.f_NoRow A.fd_NoRow ["self", "row"] (spXI A.C_NoRow "row") := by
  refine T.F_x_NoRow.ok sc_NoRow_init (fun vs H Q E h => ?_) (fun cdv A' outer s H vs Q E hr h => ?_)
  · obtain ⟨e, v, rfl, _⟩ := h
    rfl
  · obtain ⟨e, v, rfl, hx, ⟨z, fz, zl⟩, q⟩ := h
    refine ⟨_, (pss_cons (ps_expr (pe_xinit T.ik_ChamberError T.xI_NoRow rfl T.g_ChamberError (pa_cons (pv 0) (pa_cons (pe_js (pj_const (pj_fmt (pv 1) pj_nil))) pa_nil))))
  (pss_one (ps_xset T.xI_NoRow (pv 0) (pv 1)))), ?_⟩
    have sz : sizeLine = 16777216 := by decide
    have c5 : (Str.ofString "refused at the row ").length = 19 := by decide +kernel
    have e5 : (Str.empty ++ Str.ofString "refused at the row " : Str).length = 19 := by decide +kernel
    refine ⟨_, rfl, by rw [e5]; omega, _, rfl, z, fz, by omega, by rw [len_app, e5]; omega, by rw [len_app, e5]; omega, e, _, rfl, hx, ?_⟩
    exact ⟨_, rfl, _, rfl, e, rfl, hx, fun d hd => q d hd⟩
theorem ok_require (T : Txt K mg A) : FnOk P w K mg base (CXX P w) 3 A.require A.fd_require ["holds"] (spRequire A) := by
  have G_x_NoRow : FnOk P w K mg base CX0 1 A.f_NoRow A.fd_NoRow ["self", "row"] (spXI A.C_NoRow "row") := ok_x_NoRow T
  refine T.F_require.okX sc_require (fun vs H Q E h => ?_) (fun cdv A' outer s H vs Q E hr h => ?_)
  · obtain ⟨b, rfl, _⟩ := h
    rfl
  · obtain ⟨b, rfl, h1, h2⟩ := h
    have hr_x : Room 2 _ := hr
    refine ⟨_, (psxs_one (psx_if (pt_not (pt_val (pv 0)))
  (psxs_one (psx_raiseI T.xI_NoRow G_x_NoRow hr_x T.b_x_NoRow rfl rfl T.g_NoRow (pa_cons pe_int pa_nil)))
  (psxs pss_nil))), ?_⟩
    refine ⟨_, rfl, b, rfl, ?_⟩
    cases b with
    | true => exact iteF (h1 rfl)
    | false => exact iteT ⟨_, rfl, ⟨_, .int (by decide), by decide +kernel⟩, fun d hd => h2 rfl d _ (same_new hd) upd_same⟩
theorem ok_is_sign (T : Txt K mg A) : FnOk P w K mg base CX0 1 A.is_sign A.fd_is_sign ["sign"] spIsSign := by
  refine T.F_is_sign.ok sc_is_sign (fun vs H Q E h => ?_) (fun cdv A' outer s H vs Q E hr h => ?_)
  · obtain ⟨c, rfl, _⟩ := h
    rfl
  · obtain ⟨c, rfl, q⟩ := h
    refine ⟨_, (pss_one (ps_ret (pe_and (pe_chain op_le_str op_le_str pe_str (pv 0) pe_str) (pe_one (pe_cmpR op_ne (pe_callB call_ord (by rfl) T.n_ord bt_ord (pa_cons (pv 0) pa_nil)) (pe_glob (v := V.int 37) rfl T.g_PERCENT ⟨_, rfl⟩) (nomark _)))))), ?_⟩
    have e1 : (Str.ofString "!").cps.toList = [33] := by decide +kernel
    have e2 : (Str.ofString "~").cps.toList = [126] := by decide +kernel
    refine ⟨_, rfl, _, _, rfl, rfl, _, rfl, ?_⟩
    rw [e1, show (⟨#[c]⟩ : Str).cps.toList = [c] from rfl, lt1]
    by_cases h1 : c < 33
    · rw [decide_eq_true h1]
      refine iteF ⟨_, rfl, iteF ?_⟩
      rw [isSignB, decide_eq_false (show ¬ 33 ≤ c by omega)] at q
      exact q
    · rw [decide_eq_false h1]
      refine iteT ⟨_, _, rfl, rfl, _, rfl, ?_⟩
      rw [e2, show (⟨#[c]⟩ : Str).cps.toList = [c] from rfl, lt1]
      by_cases h2 : 126 < c
      · rw [decide_eq_true h2]
        refine iteF ?_
        rw [isSignB, decide_eq_true (show 33 ≤ c by omega), decide_eq_false (show ¬ c ≤ 126 by omega)] at q
        exact q
      · rw [decide_eq_false h2]
        refine iteT ⟨_, rfl, _, rfl, rfl, rfl, ?_⟩
        rw [isSignB, decide_eq_true (show 33 ≤ c by omega), decide_eq_true (show c ≤ 126 by omega)] at q
        have e3 : (!decide (V.int ((((⟨#[c]⟩ : Str).cps.getD 0 0 : Nat)) : Int) = V.int 37)) = decide (c ≠ 37) := by
          rw [Bool.eq_iff_iff]
          simp
          omega
        rw [e3]
        exact q
end

/-! ### READ2 -/
section
variable {P : Program} {w : World} {K : PySem.W.Frag} {mg : Str → Option Value} {base : Heap} {A : Adr}
theorem all_map_id {α : Type} (p : α → Bool) (l : List α) : (l.map p).all id = l.all p := by
  induction l with
  | nil => rfl
  | cons a l ih => simp [ih]
theorem ok_is_word (T : Txt K mg A) : FnOk P w K mg base CX0 2 A.is_word A.fd_is_word ["word"] spIsWord := by
  have G_is_sign : FnOk P w K mg base CX0 1 A.is_sign A.fd_is_sign ["sign"] spIsSign := ok_is_sign T
  refine T.F_is_word.ok sc_is_word (fun vs H Q E h => ?_) (fun cdv A' outer s H vs Q E hr h => ?_)
  · obtain ⟨z, rfl, _⟩ := h
    rfl
  · obtain ⟨z, rfl, zl, q⟩ := h
    have hr_is_sign := hr
    refine ⟨_, (pss_one (ps_ret (pe_and (pe_chain op_le op_le pe_int (pe_callB call_len_str (by rfl) T.n_len bt_len (pa_cons (pv 0) pa_nil)) (pe_glob (v := V.int 20) rfl T.g_MOST_SIGNS ⟨_, rfl⟩)) (pe_and (pe_cmpR op_ne (pv 0) pe_str (nomark _)) (pe_one (pe_callB (call_all rfl) (by rfl) T.n_all bt_all (pa_cons (pe_comp (scope := kcs_is_word_0) cs_is_word_0 rfl (pi_str (pv 0)) (fun _ _ _ _ _ => (pe_call G_is_sign hr_is_sign rfl T.g_is_sign T.F_is_sign.kp T.b_is_sign .nil pass0 (pa_cons (pv 0) pa_nil)))) pa_nil))))))), ?_⟩
    have sz : sizeLine = 16777216 := by decide
    refine ⟨_, rfl, z, rfl, by omega, _, _, rfl, rfl, _, rfl, ?_⟩
    by_cases h1 : 1 ≤ z.length
    · rw [decide_eq_true (show (1 : Int) ≤ (z.length : Int) by omega)]
      refine iteT ⟨_, _, rfl, rfl, _, rfl, ?_⟩
      by_cases h2 : z.length ≤ 20
      · rw [decide_eq_true (show (z.length : Int) ≤ 20 by omega)]
        refine iteT ⟨_, rfl, rfl, _, rfl, ?_⟩
        by_cases h3 : z = sl1
        · rw [decide_eq_true (show V.str z = V.str (Str.ofString "/") from congrArg V.str h3)]
          refine iteF ?_
          have := q H (Same.refl H)
          rw [isWordB, decide_eq_true h1, decide_eq_true h2, decide_eq_true h3] at this
          exact this
        · rw [decide_eq_false (show ¬ V.str z = V.str (Str.ofString "/") from fun e => h3 (by injection e))]
          refine iteT ⟨_, rfl, z, rfl, fun D hD => ?_⟩
          refine comp_strB isSignB (by show z.length ≤ _; omega) hD (fun c H2 Q2 hc s2 k => ⟨_, rfl, c, rfl, k H2 (Same.refl _)⟩) fun H2 s2 h2' => ?_
          refine ⟨D, z.cps.toList.map isSignB, rfl, SqL.of h2', ?_⟩
          have := q H2 s2
          rw [isWordB, decide_eq_true h1, decide_eq_true h2, decide_eq_false h3] at this
          rw [all_map_id]
          exact this
      · rw [decide_eq_false (show ¬ (z.length : Int) ≤ 20 by omega)]
        refine iteF ?_
        have := q H (Same.refl H)
        rw [isWordB, decide_eq_true h1, decide_eq_false h2] at this
        exact this
    · rw [decide_eq_false (show ¬ (1 : Int) ≤ (z.length : Int) by omega)]
      refine iteF ⟨_, rfl, iteF ?_⟩
      have := q H (Same.refl H)
      rw [isWordB, decide_eq_false h1] at this
      exact this
theorem atI_zero {α : Type} {c : α} {r : List α} : atI (c :: r) 0 = some c := by
  unfold atI ixN
  simp
theorem dig_in (c : Nat) : (!(Builtin.Str.occurrences (Str.ofString "0123456789") ⟨#[c]⟩ 0 (Str.ofString "0123456789").length 1).isEmpty) = isDigB c := by
  rw [StrLaws.found_one]
  have e : (Str.ofString "0123456789").cps.toList = [48, 49, 50, 51, 52, 53, 54, 55, 56, 57] := by decide +kernel
  rw [e, isDigB, Bool.eq_iff_iff]
  simp
  omega
theorem ok_is_number (T : Txt K mg A) : FnOk P w K mg base CX0 1 A.is_number A.fd_is_number ["word"] spIsNum := by
  refine T.F_is_number.ok sc_is_number (fun vs H Q E h => ?_) (fun cdv A' outer s H vs Q E hr h => ?_)
  · obtain ⟨z, rfl, _⟩ := h
    rfl
  · obtain ⟨z, rfl, zl, q⟩ := h
    refine ⟨_, (pss_cons (ps_if (PW.pt (pw_or (pt_cmpR op_eq (pv 0) pe_str (nomark _)) (pw_or1 (pt_cmpR op_gt (pe_callB call_len_str (by rfl) T.n_len bt_len (pa_cons (pv 0) pa_nil)) (pe_glob (v := V.int 10) rfl T.g_MOST_FIGURES ⟨_, rfl⟩) (nomark _)))))
  (pss_one (ps_ret pe_bl))
  pss_nil)
  (pss_one (ps_ret (pe_and (pe_callB (call_all rfl) (by rfl) T.n_all bt_all (pa_cons (pe_comp (scope := kcs_is_number_0) cs_is_number_0 rfl (pi_str (pv 0)) (fun _ _ _ _ _ => (pe_cmpR op_in_str (pv 0) (pe_glob (v := V.str (Str.ofString "0123456789")) rfl T.g_FIGURES ⟨_, rfl⟩) rfl))) pa_nil)) (pe_one (pe_or (pe_cmpR op_eq (pv 0) pe_str (nomark _)) (pe_one (pe_cmpR op_ne (pe_ix ix_str (pv 0) pe_int (fun _ _ => rfl)) pe_str (nomark _))))))))), ?_⟩
    have sz : sizeLine = 16777216 := by decide
    refine ⟨_, rfl, rfl, _, rfl, ite2 (fun e => ?_) (fun e => ?_)⟩
    · refine iteT ?_
      have e' : z = em := by injection of_decide_eq_true e
      have := q H (Same.refl H)
      rw [isNumB, decide_eq_false (fun z => z e')] at this
      exact this
    · have hne : z ≠ em := fun q => e (decide_eq_true (congrArg V.str q))
      refine ⟨_, rfl, z, rfl, by omega, _, _, rfl, rfl, _, rfl, ite2 (fun e => ?_) (fun e => ?_)⟩
      · have e' : (10 : Int) < (z.length : Int) := of_decide_eq_true e
        have := q H (Same.refl H)
        rw [isNumB, decide_eq_true hne, decide_eq_false (show ¬ z.length ≤ 10 by omega)] at this
        exact this
      · have e' : ¬ (10 : Int) < (z.length : Int) := fun h => e (decide_eq_true h)
        have hl : z.length ≤ 10 := by omega
        have hq := fun H2 s2 => q H2 s2
        rw [isNumB, decide_eq_true hne, decide_eq_true hl] at hq
        refine ⟨_, rfl, z, rfl, fun D hD => ?_⟩
        refine comp_strB isDigB (by show z.length ≤ _; omega) hD (fun c H2 Q2 hc s2 k => ⟨_, rfl, _, _, rfl, rfl, by rw [dig_in]; exact k H2 (Same.refl _)⟩) fun H2 s2 h2' => ?_
        refine ⟨D, z.cps.toList.map isDigB, rfl, SqL.of h2', _, rfl, ?_⟩
        have hq2 := hq H2 s2
        rw [all_map_id]
        cases ha : z.cps.toList.all isDigB with
        | false => rw [ha] at hq2; exact iteF hq2
        | true =>
          rw [ha] at hq2
          refine iteT ⟨_, rfl, rfl, _, rfl, ?_⟩
          by_cases h0 : z = Str.ofString "0"
          · rw [decide_eq_true (congrArg V.str h0)]
            rw [decide_eq_true h0] at hq2
            exact iteT hq2
          · rw [decide_eq_false (show ¬ V.str z = V.str (Str.ofString "0") from fun e => h0 (by injection e))]
            rw [decide_eq_false h0] at hq2
            cases hz : z.cps.toList with
            | nil =>
              exfalso
              refine hne (str_ext ?_)
              rw [hz, em_eq]
            | cons c r =>
              rw [hz] at hq2
              refine iteF ⟨_, rfl, z, 0, c, rfl, rfl, by omega, by rw [hz]; exact atI_zero, rfl, ?_⟩
              have e0 : Str.ofString "0" = ⟨#[48]⟩ := by decide +kernel
              have e3 : (!decide (V.str ⟨#[c]⟩ = V.str (Str.ofString "0"))) = (!decide ((c :: r).head? = some 48)) := by
                rw [e0]
                congr 1
                rw [Bool.eq_iff_iff]
                simp
              rw [e3]
              exact hq2
theorem dv_lt : ∀ (cs : List Nat) (acc : Nat), PySem.NumText.AllDigits cs → cs.foldl (fun acc c => acc * 10 + (c - 48)) acc < (acc + 1) * 10 ^ cs.length
  | [], acc, _ => by simp
  | c :: cs, acc, h => by
    have h1 := h.head
    have h2 := dv_lt cs (acc * 10 + (c - 48)) h.tail
    rw [List.foldl_cons, List.length_cons, Nat.pow_succ]
    refine Nat.lt_of_lt_of_le h2 ?_
    rw [Nat.mul_comm (10 ^ cs.length) 10, ← Nat.mul_assoc]
    exact Nat.mul_le_mul_right _ (by omega)
theorem num_val {z : Str} (h : isNumB z = true) : PySem.intText? z = some (numV z) ∧ z.length ≤ 10 ∧ 0 ≤ numV z ∧ numV z < 10 ^ 10 := by
  simp only [isNumB, Bool.and_eq_true, decide_eq_true_iff] at h
  obtain ⟨h1, h2, h3, _⟩ := h
  have hd : PySem.NumText.AllDigits z.cps.toList := fun c hc => by
    have := List.all_eq_true.mp h3 c hc
    simp only [isDigB, Bool.and_eq_true, decide_eq_true_iff] at this
    exact this
  have hne : z.cps.toList ≠ [] := fun e => h1 (str_ext (by rw [e, em_eq]))
  have e := PySem.intText_digits hd hne (Nat.le_trans h2 (by decide))
  have ev : numV z = ((PySem.NumText.digitsVal z.cps.toList : Nat) : Int) := by unfold numV; rw [e]; rfl
  have lt := dv_lt z.cps.toList 0 hd
  have lt2 : PySem.NumText.digitsVal z.cps.toList < 10 ^ 10 := by
    refine Nat.lt_of_lt_of_le lt ?_
    rw [Nat.zero_add, Nat.one_mul]
    exact Nat.pow_le_pow_right (by decide) (by rw [len_toList]; exact h2)
  refine ⟨by rw [e, ev], h2, by rw [ev]; omega, by rw [ev]; omega⟩
end

/-! ### READ3 -/
theorem comp_listB {K : PySem.W.Frag} {a D : Addr} {ws : List Str} {te : TE} {Q : VK} {σ : St} {H1 : Hp} (p : Str → Bool) (hq : SqL K H1 a (ws.map V.str)) (hz : ws.length ≤ sizeLine) (hD : H1 D = none)
    (hs : ∀ (x : Str) (H2 : Hp) (Q2 : VK), x ∈ ws → Same H1 H2 → (∀ H3, Same H2 H3 → Q2 (.bl (p x)) H3) → te (some (.str x) :: σ) H2 Q2)
    (hd : ∀ H2, Same H1 H2 → H2 D = some (.lst ((ws.map p).map V.bl)) → Q (.ref D) H2) : CompGoal (Itl K a) te σ D H1 Q := by
  refine comp_list (K := K) (a := a) (xs := ws.map V.str) (fun i ys H2 => ys = ((ws.take i).map p).map V.bl ∧ Same H1 H2 ∧ H2 D = some (.lst ys)) ⟨by simp, same_new hD, upd_same⟩ (by rw [List.length_map]; exact hz) ?_ ?_ ?_
  · rintro i ys H2 hi ⟨rfl, s2, h2⟩
    rw [List.length_map] at hi
    exact ⟨s2.seq hq, h2, by simp; omega⟩
  · rintro i y ys H2 hi ⟨rfl, s2, h2⟩
    rw [List.getElem?_map] at hi
    cases hw : ws[i]? with
    | none => rw [hw] at hi; cases hi
    | some x =>
      rw [hw] at hi
      obtain rfl : V.str x = y := Option.some.inj hi
      refine hs x H2 _ (List.mem_of_getElem? hw) s2 fun H3 s3 => ?_
      refine CompNext.mk (by rw [List.length_map]; exact (List.getElem?_eq_some_iff.mp hw).1) (s3 _ _ h2) ⟨?_, (s2.trans s3).own hD, upd_same⟩
      rw [List.take_add_one, hw]
      simp
  · rintro ys H2 ⟨rfl, s2, h2⟩
    refine hd H2 s2 (h2.trans ?_)
    rw [List.length_map, List.take_length]
/-- their data -/
def csD (cs : List (List Str)) : PyData := .list (cs.map fun c => .list (c.map PyData.str))
theorem WAt.dvs {K : PySem.W.Frag} {H : Hp} : ∀ {ps : List Addr} {cs : List (List Str)}, WAt H ps cs → DVs K H (cs.map fun c => .list (c.map PyData.str)) (ps.map V.ref)
  | [], _, h => by
    have h' : _ = [] := h
    subst h'
    simp only [List.map_nil]
    unfold DVs; rfl
  | _ :: _, _, ⟨ws, r, e, h, t⟩ => by
    subst e
    simp only [List.map_cons]
    unfold DVs
    exact ⟨_, _, rfl, dv_strs (SqL.of h), WAt.dvs t⟩
theorem csD_shaped {cs : List (List Str)} (h : ∀ c ∈ cs, ∀ w ∈ c, Asc w) : SeqAt.shaped (csD cs) = true := by
  have key : ∀ l : List (List Str), (∀ c ∈ l, ∀ w ∈ c, Asc w) → PyData.canLayAll0 (l.map fun c => .list (c.map PyData.str)) = true ∧ PyData.depthAll (l.map fun c => PyData.list (c.map PyData.str)) ≤ 10 := fun l => by
    induction l with
    | nil => intro _; exact ⟨rfl, Nat.zero_le _⟩
    | cons c l ih =>
      intro h
      obtain ⟨i1, i2⟩ := ih fun c hc => h c (List.mem_cons_of_mem _ hc)
      have h1 := canLay_strs c fun w hw => (h c List.mem_cons_self w hw).ok
      have h2 := depth_strs c
      refine ⟨?_, ?_⟩
      · simp [PyData.canLayAll0, PyData.canLay0, h1, i1]
      · simp only [List.map_cons, PyData.depthAll, PyData.depth]; omega
  obtain ⟨k1, k2⟩ := key cs h
  have k3 : (csD cs).canLay0 = true := by simp [csD, PyData.canLay0, k1]
  have k4 : (csD cs).depth ≤ 64 := by simp only [csD, PyData.depth]; omega
  show (PyData.canLay0 (csD cs) && decide (PyData.depth (csD cs) ≤ 64)) = true
  rw [k3, decide_eq_true k4]; rfl
theorem csD_nil (cs : List (List Str)) : PyData.eqv (csD cs) (.list []) = decide (cs = []) := by
  cases cs with
  | nil => rfl
  | cons c r => rfl
theorem strs_nil (cs : List Str) : PyData.eqv (.list (cs.map PyData.str)) (.list []) = decide (cs = []) := by
  cases cs with
  | nil => rfl
  | cons c r => rfl
def spRText (K : PySem.W.Frag) (A : Adr) : Sp := fun vs H Q E => ∃ (a : Addr) (ws : List Str), vs = [.ref a] ∧ SqL K H a (ws.map V.str) ∧ RowOk ws ∧
  (∀ cs, readText ws = some cs → ∀ L H', Same H H' → H L = none → H' L = some (.lst ((cs.map (Str.join bl1)).map V.str)) → Q (.ref L) H') ∧ (readText ws = none → ERow A 1 E H)
/-- what the clauses are behind i words -/
structure WOk (i : Nat) (ws : List Str) (cs : List (List Str)) : Prop where
  cl : cs.length ≤ i
  ln : ∀ c ∈ cs, c.length ≤ i
  sm : ∀ c ∈ cs, (c.map (·.length)).sum ≤ ((ws.take i).map (·.length)).sum
  mm : ∀ c ∈ cs, ∀ w ∈ c, w ∈ ws
theorem WOk.more {i : Nat} {ws : List Str} {cs : List (List Str)} {x : Str} (o : WOk i ws cs) (hx : ws[i]? = some x) : WOk (i + 1) ws (cs ++ [[]]) := by
  have t : ((ws.take (i + 1)).map (·.length)).sum = ((ws.take i).map (·.length)).sum + x.length := by rw [List.take_add_one, hx]; simp
  refine ⟨by rw [List.length_append]; have := o.cl; simp; omega, fun c hc => ?_, fun c hc => ?_, fun c hc => ?_⟩
  all_goals
    rcases List.mem_append.mp hc with hc | hc
    · first
        | (have := o.ln c hc; omega)
        | (have := o.sm c hc; omega)
        | exact o.mm c hc
    · obtain rfl := List.mem_singleton.mp hc
      simp
theorem WOk.word {i : Nat} {ws : List Str} {ds : List (List Str)} {d : List Str} {x : Str} (o : WOk i ws (ds ++ [d])) (hx : ws[i]? = some x) : WOk (i + 1) ws (ds ++ [d ++ [x]]) := by
  have t : ((ws.take (i + 1)).map (·.length)).sum = ((ws.take i).map (·.length)).sum + x.length := by rw [List.take_add_one, hx]; simp
  have dm : d ∈ ds ++ [d] := List.mem_append_right _ List.mem_cons_self
  refine ⟨by have := o.cl; rw [List.length_append] at this ⊢; simp at this ⊢; omega, fun c hc => ?_, fun c hc => ?_, fun c hc => ?_⟩
  · rcases List.mem_append.mp hc with hc | hc
    · have := o.ln c (List.mem_append_left _ hc); omega
    · obtain rfl := List.mem_singleton.mp hc
      have := o.ln d dm
      rw [List.length_append]; simp; omega
  · rcases List.mem_append.mp hc with hc | hc
    · have := o.sm c (List.mem_append_left _ hc); omega
    · obtain rfl := List.mem_singleton.mp hc
      have := o.sm d dm
      have e1 : ([x].map fun x : Str => x.length).sum = x.length := by simp
      rw [List.map_append, List.sum_append, e1]
      omega
  · rcases List.mem_append.mp hc with hc | hc
    · exact o.mm c (List.mem_append_left _ hc)
    · obtain rfl := List.mem_singleton.mp hc
      intro w hw
      rcases List.mem_append.mp hw with hw | hw
      · exact o.mm d dm w hw
      · rw [List.mem_singleton.mp hw]; exact List.mem_of_getElem? hx
section
variable {P : Program} {w : World} {K : PySem.W.Frag} {mg : Str → Option Value} {base : Heap} {A : Adr}
theorem ok_read_number (T : Txt K mg A) : FnOk P w K mg base (CXX P w) 4 A.read_number A.fd_read_number ["word"] (spRNum A) := by
  have G_require : FnOk P w K mg base (CXX P w) 3 A.require A.fd_require ["holds"] (spRequire A) := ok_require T
  have G_is_number : FnOk P w K mg base CX0 1 A.is_number A.fd_is_number ["word"] spIsNum := ok_is_number T
  refine T.F_read_number.okX sc_read_number (fun vs H Q E h => ?_) (fun cdv A' outer s H vs Q E hr h => ?_)
  · obtain ⟨z, rfl, _⟩ := h
    rfl
  · obtain ⟨z, rfl, zl, h1, h2⟩ := h
    have hr_require := hr
    have hr_is_number : Room 1 _ := hr.mono (by decide)
    refine ⟨_, (psxs_cons (psx_expr (pe_callX G_require hr_require rfl T.g_require T.F_require.kp T.b_require (pax (pa_cons (pe_call G_is_number hr_is_number rfl T.g_is_number T.F_is_number.kp T.b_is_number .nil pass0 (pa_cons (pv 0) pa_nil)) pa_nil))))
  (psxs_one (psx (ps_ret (pe_callTy call_int_text (by rfl) T.n_int bt_int (pa_cons (pv 0) pa_nil)))))), ?_⟩
    refine ⟨_, rfl, z, rfl, zl, fun H2 s2 => ⟨isNumB z, rfl, fun hb => ?_, fun hb => (h2 hb).same s2⟩⟩
    obtain ⟨v1, v2, _⟩ := num_val hb
    exact ⟨_, rfl, z, numV z, rfl, v1, by omega, h1 hb H2 s2⟩
theorem ok_read_clause (T : Txt K mg A) : FnOk P w K mg base (CXX P w) 4 A.read_clause A.fd_read_clause ["words"] (spRClause K A) := by
  have G_require : FnOk P w K mg base (CXX P w) 3 A.require A.fd_require ["holds"] (spRequire A) := ok_require T
  have G_is_word : FnOk P w K mg base CX0 2 A.is_word A.fd_is_word ["word"] spIsWord := ok_is_word T
  have G_clause_of : FnOk P w K mg base CX0 1 A.clause_of A.fd_clause_of ["words"] (spClauseOf K) := ok_clause_of T
  refine T.F_read_clause.okX sc_read_clause (fun vs H Q E h => ?_) (fun cdv A' outer s H vs Q E hr h => ?_)
  · obtain ⟨a, ws, rfl, _⟩ := h
    rfl
  · obtain ⟨a, ws, rfl, hS, o, h1, h2⟩ := h
    have hr_require := hr
    have hr_is_word : Room 2 _ := hr.mono (by decide)
    have hr_clause_of : Room 1 _ := hr.mono (by decide)
    refine ⟨_, (psxs_cons (psx_expr (pe_callX G_require hr_require rfl T.g_require T.F_require.kp T.b_require (pax (pa_cons (pe_callB (call_all rfl) (by rfl) T.n_all bt_all (pa_cons (pe_comp (scope := kcs_read_clause_0) cs_read_clause_0 rfl (pi_list (pv 0)) (fun _ _ _ _ _ => (pe_call G_is_word hr_is_word rfl T.g_is_word T.F_is_word.kp T.b_is_word .nil pass0 (pa_cons (pv 0) pa_nil)))) pa_nil)) pa_nil))))
  (psxs_one (psx (ps_ret (pe_call G_clause_of hr_clause_of rfl T.g_clause_of T.F_clause_of.kp T.b_clause_of .nil pass0 (pa_cons (pv 0) pa_nil)))))), ?_⟩
    have sz : sizeLine = 16777216 := by decide
    have ol := o.len
    have os := o.sz
    refine ⟨_, rfl, a, rfl, ⟨_, hS⟩, fun D hD => ?_⟩
    refine comp_listB isWordB hS (by omega) hD (fun x H2 Q2 hx s2 k => ⟨_, rfl, x, rfl, o.wl hx, k⟩) fun H2 s2 h2' => ?_
    refine ⟨D, ws.map isWordB, rfl, SqL.of h2', ?_⟩
    rw [all_map_id]
    refine ⟨ws.all isWordB, rfl, fun hb => ?_, fun hb => (h2 hb).same s2⟩
    exact ⟨_, rfl, a, ws, rfl, s2.seq hS, by omega, h1 hb H2 s2⟩
theorem split2 {α : Type} {l : List α} (h : l ≠ []) : ∃ (r : List α) (a : α), l = r ++ [a] := ⟨l.dropLast, l.getLast h, (List.dropLast_concat_getLast h).symm⟩
theorem atI_last {α : Type} {r : List α} {a : α} : atI (r ++ [a]) (-1) = some a := by
  unfold atI ixN
  rw [if_neg (by decide), if_pos (by rw [List.length_append, List.length_singleton]; omega), Option.bind_some, show ((-1 : Int) + ((r ++ [a]).length : Int)).toNat = r.length by rw [List.length_append, List.length_singleton]; omega]
  simp
theorem ok_read_text (T : Txt K mg A) : FnOk P w K mg base (CXX P w) 5 A.read_text A.fd_read_text ["words"] (spRText K A) := by
  have G_require : FnOk P w K mg base (CXX P w) 3 A.require A.fd_require ["holds"] (spRequire A) := ok_require T
  have G_read_clause : FnOk P w K mg base (CXX P w) 4 A.read_clause A.fd_read_clause ["words"] (spRClause K A) := ok_read_clause T
  refine T.F_read_text.okX sc_read_text (fun vs H Q E h => ?_) (fun cdv A' outer s H vs Q E hr h => ?_)
  · obtain ⟨a, ws, rfl, _⟩ := h
    rfl
  · obtain ⟨a, ws, rfl, hS, o, h1, h2⟩ := h
    have hr_require : Room 3 _ := hr.mono (by decide)
    have hr_read_clause := hr
    have hu64 := hr.units
    refine ⟨_, (psxs_cons (psx (ps_set (i := 1) sc_read_text.nd rfl (Or.inl rfl) (pe_lst pa_nil)))
  (psxs_cons (psx_for ⟨rfl, rfl⟩ rfl (pi_list (pv 0)) (pg_name (i := 2) sc_read_text.nd rfl (Or.inl rfl))
  (psxs_one (psx_if (pt_cmpR op_eq (pv 2) pe_str (nomark _))
  (psxs_one (psx (ps_expr (pe_bm PySem.F.plainAttrs_list PySem.F.slot_list_append PySem.F.type_list_append mt_append (pv 1) (pa_cons (pe_lst pa_nil) pa_nil)))))
  (psxs_cons (psx_expr (pe_callX G_require hr_require rfl T.g_require T.F_require.kp T.b_require (pax (pa_cons (pe_cmpR (op_neD hu64) (pv 1) (pe_lst pa_nil) (nomark _)) pa_nil))))
  (psxs_one (psx (ps_expr (pe_bm PySem.F.plainAttrs_list PySem.F.slot_list_append PySem.F.type_list_append mt_append (pe_ix ix_list (pv 1) (pe_un un_neg pe_int) (fun _ _ => rfl)) (pa_cons (pv 2) pa_nil)))))))))
  (psxs_one (psx_ret (pex_comp (scope := kcs_read_text_0) ⟨rfl, rfl⟩ cs_read_text_0 rfl (pi_list (pv 1)) (fun _ _ _ _ _ => (pg_name (i := 0) cs_read_text_0.nd2 rfl (Or.inl rfl))) (fun _ _ _ _ _ => (pe_callX G_read_clause hr_read_clause rfl T.g_read_clause T.F_read_clause.kp T.b_read_clause (pax (pa_cons (pv 0) pa_nil))))))))), ?_⟩
    have sz : sizeLine = 16777216 := by decide
    have ol := o.len
    refine ⟨Nat.zero_le _, fun C hC => ?_⟩
    refine ⟨_, rfl, a, rfl, ⟨_, (same_new hC).seq hS⟩, ?_⟩
    refine for_list (K := K) (a := a) (xs := ws.map V.str) (fun i σ H2 => ∃ (v2 : Option V) (ps : List Addr) (cs : List (List Str)), σ = [some (.ref a), some (.ref C), v2] ∧ Same H H2 ∧ H2 C = some (.lst (ps.map V.ref)) ∧ WAt H2 ps cs ∧ ps.Nodup ∧ C ∉ ps ∧ (∀ p ∈ ps, H p = none) ∧
        clausesOf cs (ws.drop i) = clausesOf [] ws ∧ WOk i ws cs)
      ⟨_, [], [], rfl, same_new hC, upd_same, rfl, List.nodup_nil, (fun z => nomatch z), (fun p hp => nomatch hp), rfl, ⟨Nat.le_refl _, (fun c hc => nomatch hc), (fun c hc => nomatch hc), fun c hc => nomatch hc⟩⟩ (fun i σ H2 _ ⟨_, _, _, _, s2, _⟩ => s2.seq hS) ?_ ?_
    · rintro i y σ H2 hi ⟨v2, ps, cs, rfl, s2, hCl, hW, nd, nC, hn, ecl, wo⟩
      rw [List.getElem?_map] at hi
      cases hx : ws[i]? with
      | none => rw [hx] at hi; cases hi
      | some x =>
        rw [hx] at hi
        obtain rfl : V.str x = y := Option.some.inj hi
        have hil : i < ws.length := (List.getElem?_eq_some_iff.mp hx).1
        have dr : ws.drop i = x :: ws.drop (i + 1) := by
          rw [List.drop_eq_getElem_cons hil, (List.getElem?_eq_some_iff.mp hx).2]
        have pl := hW.len
        have cl := wo.cl
        refine ⟨_, rfl, rfl, _, rfl, ite2 (fun e => ?_) (fun e => ?_)⟩
        · have e' : x = sl1 := by injection of_decide_eq_true e
          refine ⟨_, rfl, .inl ⟨rfl, _, SqL.of hCl⟩, Nat.zero_le _, fun p hp => ?_⟩
          have nCp : C ≠ p := ne_of_none hCl hp
          have hpps : p ∉ ps := fun z => by
            obtain ⟨j, hj⟩ := List.getElem?_of_mem z
            obtain ⟨_, _, h3⟩ := hW.get hj
            rw [hp] at h3; cases h3
          refine ⟨C, _, _, rfl, rfl, (upd_ne nCp).trans hCl, (by rw [List.length_map]; omega), ?_⟩
          refine ⟨_, ps ++ [p], cs ++ [[]], rfl, ((s2.new hp).own hC), ?_, ?_, ?_, ?_, ?_, ?_, wo.more hx⟩
          · rw [upd_same, List.map_append]; rfl
          · refine WAt.upd (by rw [List.mem_append, not_or]; exact ⟨nC, fun z => nCp (List.mem_singleton.mp z)⟩) (WAt.snoc (WAt.upd hpps hW) ?_)
            rw [upd_same]; rfl
          · exact List.nodup_append.mpr ⟨nd, by simp, fun b hb c hc e => hpps (by rw [← List.mem_singleton.mp hc, ← e]; exact hb)⟩
          · rw [List.mem_append, not_or]; exact ⟨nC, fun z => nCp (List.mem_singleton.mp z)⟩
          · intro b hb
            rcases List.mem_append.mp hb with hb | hb
            · exact hn b hb
            · rw [List.mem_singleton.mp hb]; exact s2.free hp
          · rw [← ecl, dr, clausesOf, if_pos e']
        · have e' : ¬ x = sl1 := fun z => e (decide_eq_true (congrArg V.str z))
          refine ⟨_, rfl, Nat.zero_le _, fun p hp => ?_⟩
          have s3 : Same H2 (upd H2 p (.lst [])) := same_new hp
          refine ⟨csD cs, .list [], ?_, ?_, csD_shaped (fun c hc w hw => o.asc w (wo.mm c hc w hw)), by decide +kernel, ?_⟩
          · unfold csD DV
            exact ⟨C, _, rfl, SqL.of (s3 _ _ hCl), (hW.same s3).dvs⟩
          · unfold DV
            exact ⟨p, [], rfl, SqL.of upd_same, by unfold DVs; rfl⟩
          · rw [csD_nil]
            refine ⟨!decide (cs = []), rfl, fun hb => ?_, fun hb => ?_⟩
            · have hcs : cs ≠ [] := by simpa using hb
              have hps : ps ≠ [] := fun z => by rw [z] at pl; exact hcs (List.length_eq_zero_iff.mp pl.symm)
              obtain ⟨qs, q, rfl⟩ := split2 hps
              obtain ⟨ds, d, rfl, hWd, hq⟩ := hW.unsnoc
              have nq : q ≠ p := ne_of_none hq hp
              have nqs : q ∉ qs := fun z => by
                have := (List.nodup_append.mp nd).2.2 q z q (by simp)
                exact this rfl
              have nqC : q ≠ C := fun z => nC (by rw [← z]; simp)
              have dl := wo.ln d (by simp)
              refine ⟨_, rfl, _, rfl, C, _, _, .ref q, rfl, rfl, SqL.of (s3 _ _ hCl), ?_, .inl ⟨rfl, _, SqL.of (s3 _ _ hq)⟩, _, rfl, q, _, _, rfl, rfl, s3 _ _ hq, (by rw [List.length_map]; omega), ?_⟩
              · rw [List.map_append]; exact atI_last
              · have hHq : H q = none := hn q (by simp)
                refine ⟨_, qs ++ [q], ds ++ [d ++ [x]], rfl, (s2.trans s3).own hHq, ?_, ?_, nd, nC, hn, ?_, wo.word hx⟩
                · exact (upd_ne (Ne.symm nqC)).trans (s3 _ _ hCl)
                · refine WAt.snoc (WAt.upd nqs (hWd.same s3)) ?_
                  rw [upd_same, List.map_append]; rfl
                · rw [← ecl, dr]
                  conv => rhs; rw [clausesOf]
                  rw [if_neg e', if_neg (by simp)]
                  simp
            · have hcs : cs = [] := by simpa using hb
              refine (h2 ?_).same (s2.trans s3)
              unfold readText
              rw [← ecl, hcs, dr, clausesOf, if_neg e', if_pos rfl]
              rfl
    · rintro σ H2 ⟨v2, ps, cs, rfl, s2, hCl, hW, nd, nC, hn, ecl, wo⟩
      rw [List.length_map, List.drop_length] at ecl
      have ecs : clausesOf [] ws = some cs := ecl.symm
      rw [List.length_map] at wo
      have pl := hW.len
      have cl := wo.cl
      refine ⟨_, rfl, C, rfl, ⟨_, SqL.of hCl⟩, fun D hD => ?_⟩
      have nCD : C ≠ D := ne_of_none hCl hD
      refine comp1_list (K := K) (a := C) (xs := ps.map V.ref) (fun i ys H3 => ys = ((cs.take i).map (Str.join bl1)).map V.str ∧ (cs.take i).all (fun c => c.all isWordB) = true ∧ Same H2 H3 ∧ H3 D = some (.lst ys))
        ⟨rfl, rfl, same_new hD, upd_same⟩ (by rw [List.length_map]; omega) ?_ ?_ ?_
      · rintro i ys H3 hi ⟨rfl, _, s3, h3⟩
        rw [List.length_map] at hi
        exact ⟨SqL.of (s3 _ _ hCl), h3, by simp; omega⟩
      · rintro i y ys H3 hi ⟨rfl, al, s3, h3⟩
        rw [List.getElem?_map] at hi
        cases hp : ps[i]? with
        | none => rw [hp] at hi; cases hi
        | some p =>
          rw [hp] at hi
          obtain rfl : V.ref p = y := Option.some.inj hi
          obtain ⟨c, hc, hpc⟩ := hW.get hp
          have cm := List.mem_of_getElem? hc
          have co : RowOk c := ⟨by have := wo.ln c cm; have := wo.sm c cm; have := o.sz; rw [List.take_length] at *; omega, fun w hw => o.asc w (wo.mm c cm w hw)⟩
          refine ⟨_, rfl, p, c, rfl, SqL.of (s3 _ _ hpc), co, fun ok H4 s4 => ?_, fun bad => (h2 ?_).same (s2.trans s3)⟩
          · refine CompNext.mk (by rw [List.length_map]; exact (List.getElem?_eq_some_iff.mp hp).1) (s4 _ _ h3) ⟨?_, ?_, (s3.trans s4).own hD, upd_same⟩
            · rw [List.take_add_one, hc]; simp
            · rw [List.take_add_one, hc, List.all_append, al]; simp [ok]
          · unfold readText
            rw [ecs]
            refine if_neg fun z => ?_
            have := List.all_eq_true.mp z c cm
            rw [bad] at this; cases this
      · rintro ys H3 ⟨rfl, al, s3, h3⟩
        rw [List.length_map, pl, List.take_length] at al h3
        refine h1 cs ?_ D H3 (s2.trans s3) (s2.free hD) h3
        unfold readText
        rw [ecs]
        exact if_pos al
end

/-! ### READ4 -/
theorem atI_one {α : Type} {b c : α} {r : List α} : atI (b :: c :: r) 1 = some c := by
  unfold atI ixN
  rw [if_pos (by decide), if_pos (by rw [List.length_cons, List.length_cons]; omega)]
  rfl
theorem inV_str2 (k a b : Str) : inV (.str k) [.str a, .str b] = decide (k = a ∨ k = b) := by
  have e : ∀ x y : Str, eqV (.str x) (.str y) = decide (y = x) := fun x y => by
    show (x == y) = _
    rw [Bool.eq_iff_iff]
    simp
    exact ⟨fun h => h.symm, fun h => h.symm⟩
  unfold inV
  simp only [List.any_cons, List.any_nil, e, Bool.or_false]
  rw [Bool.eq_iff_iff]
  simp
theorem kn_ne : kn 0 ≠ kn 1 ∧ kn 2 ≠ kn 1 ∧ kn 0 ≠ kn 2 := by decide +kernel
def spREdit (K : PySem.W.Frag) (A : Adr) : Sp := fun vs H Q E => ∃ (a : Addr) (ws : List Str), vs = [.ref a] ∧ SqL K H a (ws.map V.str) ∧ RowOk ws ∧
  (∀ k i th, readEdit ws = some (k, i, th) → ∀ t H', Same H H' → H' t = some (.tup (edR k i (Str.join bl1 th))) → Q (.ref t) H') ∧ (readEdit ws = none → ERow A 1 E H)
def spRMend (K : PySem.W.Frag) (A : Adr) : Sp := fun vs H Q E => ∃ (a : Addr) (ws : List Str), vs = [.ref a] ∧ SqL K H a (ws.map V.str) ∧ RowOk ws ∧
  (∀ k i th, readMend ws = some (k, i, th) → ∀ t H', Same H H' → H' t = some (.tup (edR k i (Str.join bl1 th))) → Q (.ref t) H') ∧ (readMend ws = none → ERow A 1 E H)
def spRSit (K : PySem.W.Frag) (A : Adr) : Sp := fun vs H Q E => ∃ (a : Addr) (ws : List Str), vs = [.ref a] ∧ SqL K H a (ws.map V.str) ∧ RowOk ws ∧
  (∀ n, readSit ws = some n → ∀ H', Same H H' → Q (.int n) H') ∧ (readSit ws = none → ERow A 1 E H)
def spRDeed (K : PySem.W.Frag) (A : Adr) : Sp := fun vs H Q E => ∃ (z : Str), vs = [.str z] ∧ z.length ≤ 50000 ∧ Asc z ∧
  (∀ d, readD (Txt.split z bl1) = some d → ∀ t H', Same H H' → H t = none → DeedNew H H' d t → Q (.ref t) H') ∧ (readD (Txt.split z bl1) = none → ERow A 1 E H)
theorem cut2 (a b : V) (r : List V) : cutV (a :: b :: r) (some 2) none = r := by
  rw [show (2 : Int) = ((2 : Nat) : Int) from rfl, cut_from]
  rfl
theorem cut1 (a : V) (r : List V) : cutV (a :: r) (some 1) none = r := by
  rw [show (1 : Int) = ((1 : Nat) : Int) from rfl, cut_from]
  rfl
section
variable {P : Program} {w : World} {K : PySem.W.Frag} {mg : Str → Option Value} {base : Heap} {A : Adr}
theorem ok_read_edit (T : Txt K mg A) : FnOk P w K mg base (CXX P w) 5 A.read_edit A.fd_read_edit ["words"] (spREdit K A) := by
  have G_require : FnOk P w K mg base (CXX P w) 3 A.require A.fd_require ["holds"] (spRequire A) := ok_require T
  have G_read_clause : FnOk P w K mg base (CXX P w) 4 A.read_clause A.fd_read_clause ["words"] (spRClause K A) := ok_read_clause T
  have G_read_number : FnOk P w K mg base (CXX P w) 4 A.read_number A.fd_read_number ["word"] (spRNum A) := ok_read_number T
  refine T.F_read_edit.okX sc_read_edit (fun vs H Q E h => ?_) (fun cdv A' outer s H vs Q E hr h => ?_)
  · obtain ⟨a, ws, rfl, _⟩ := h
    rfl
  · obtain ⟨a, ws, rfl, hS, o, h1, h2⟩ := h
    have hr_require : Room 3 _ := hr.mono (by decide)
    have hr_read_clause := hr
    have hr_read_number := hr
    have hu64 := hr.units
    refine ⟨_, (psxs_cons (psx_expr (pe_callX G_require hr_require rfl T.g_require T.F_require.kp T.b_require (pax (pa_cons (pe_cmpR op_ge (pe_callB call_len_seq (by rfl) T.n_len bt_len (pa_cons (pv 0) pa_nil)) pe_int (nomark _)) pa_nil))))
  (psxs_cons (psx (ps_set (i := 1) sc_read_edit.nd rfl (Or.inl rfl) (pe_ix ix_list (pv 0) pe_int (fun _ _ => rfl))))
  (psxs_cons (psx_set (i := 2) sc_read_edit.nd rfl (Or.inl rfl) (pe_callX G_read_number hr_read_number rfl T.g_read_number T.F_read_number.kp T.b_read_number (pax (pa_cons (pe_ix ix_list (pv 0) pe_int (fun _ _ => rfl)) pa_nil))))
  (psxs_cons (psx (ps_set (i := 3) sc_read_edit.nd rfl (Or.inl rfl) (pe_slice sl_list (pv 0) (po_some pe_int) po_none)))
  (psxs_cons (psx_if (pt_cmpR op_eq (pv 1) pe_str (nomark _))
  (psxs_cons (psx_expr (pe_callX G_require hr_require rfl T.g_require T.F_require.kp T.b_require (pax (pa_cons (pe_cmpR (op_eqD hu64) (pv 3) (pe_lst pa_nil) (nomark _)) pa_nil))))
  (psxs_one (psx (ps_ret (pe_tup (pa_cons pe_str (pa_cons (pv 2) pa_nil)))))))
  (psxs pss_nil))
  (psxs_cons (psx_expr (pe_callX G_require hr_require rfl T.g_require T.F_require.kp T.b_require (pax (pa_cons (pe_cmpR op_in_seq (pv 1) (pe_tup (pa_cons pe_str (pa_cons pe_str pa_nil))) rfl) pa_nil))))
  (psxs_one (psx_ret (pex_tup (pax_cons (px (pv 1)) (pax_cons (px (pv 2)) (pax_cons (pe_callX G_read_clause hr_read_clause rfl T.g_read_clause T.F_read_clause.kp T.b_read_clause (pax (pa_cons (pv 3) pa_nil))) pax_nil)))))))))))), ?_⟩
    have sz : sizeLine = 16777216 := by decide
    have ol := o.len
    refine ⟨_, rfl, a, _, rfl, .inl hS, _, _, rfl, rfl, _, rfl, fun hb => ?_, fun hb => h2 ?_⟩
    rotate_left
    · have hb' := of_decide_eq_false hb
      rw [List.length_map] at hb'
      match ws, hb' with
      | [], _ => rfl
      | [_], _ => rfl
      | _ :: _ :: r, h => exact absurd (show (2 : Int) ≤ ((_ :: _ :: r).length : Int) by rw [List.length_cons, List.length_cons]; omega) h
    have hb' := of_decide_eq_true hb
    rw [List.length_map] at hb'
    obtain ⟨k, p, th, rfl⟩ : ∃ k p th, ws = k :: p :: th := by
      match ws, hb' with
      | [], h => exact absurd h (by decide)
      | [_], h => exact absurd h (by simp)
      | k :: p :: r, _ => exact ⟨k, p, r, rfl⟩
    refine ⟨_, rfl, a, _, _, _, rfl, rfl, hS, atI_zero, ?_⟩
    refine ⟨_, rfl, a, _, _, .str p, rfl, rfl, hS, atI_one, p, rfl, o.wl (by simp), fun hn H2 s2 => ?_, fun hn => h2 ?_⟩
    rotate_left
    · show (if isNumB p = true then _ else none) = none
      rw [hn]; rfl
    refine ⟨_, rfl, _, rfl, a, _, rfl, s2.seq hS, fun tp htp => ?_⟩
    have s3 : Same H2 (upd H2 tp (.lst (cutV (List.map V.str (k :: p :: th)) (some 2) none))) := same_new htp
    have e2 : cutV (List.map V.str (k :: p :: th)) (some 2) none = th.map V.str := cut2 _ _ _
    rw [e2] at s3 ⊢
    have oth : RowOk th := o.drop 2
    have othl := oth.len
    have hth : upd H2 tp (.lst (th.map V.str)) tp = some (.lst (th.map V.str)) := upd_same
    generalize upd H2 tp (.lst (th.map V.str)) = H3 at s3 hth ⊢
    have s13 := s2.trans s3
    have rE : readEdit (k :: p :: th) = if k = kn 1 then (if th = [] then some (1, numV p, []) else none) else if (k = kn 0 ∨ k = kn 2) ∧ th.all isWordB = true then some (if k = kn 0 then 0 else 2, numV p, th) else none := by
      show (if isNumB p = true then _ else none) = _
      rw [if_pos hn]
    refine ⟨_, rfl, rfl, _, rfl, ite2 (fun e => ?_) (fun e => ?_)⟩
    · have ek : k = kn 1 := by injection of_decide_eq_true e
      rw [if_pos ek] at rE
      refine ⟨_, rfl, Nat.zero_le _, fun q hq => ?_⟩
      have s4 : Same H3 (upd H3 q (.lst [])) := same_new hq
      refine ⟨.list (th.map PyData.str), .list [], dv_strs (s4.seq (SqL.of hth)), ?_, shaped_strs fun w hw => (oth.asc w hw).ok, by decide +kernel, ?_⟩
      · unfold DV
        exact ⟨q, [], rfl, SqL.of upd_same, by unfold DVs; rfl⟩
      · rw [strs_nil]
        refine ⟨_, rfl, fun hb => ?_, fun hb => ?_⟩
        · have ht := of_decide_eq_true hb
          rw [if_pos ht] at rE
          refine ⟨_, rfl, (by show 2 ≤ sizeLine; decide), fun t ht2 => h1 _ _ _ rE t _ ((s13.trans s4).new ht2) upd_same⟩
        · rw [if_neg (of_decide_eq_false hb)] at rE
          exact (h2 rE).same (s13.trans s4)
    · have ek : ¬ k = kn 1 := fun z => e (decide_eq_true (congrArg V.str z))
      rw [if_neg ek] at rE
      refine ⟨_, rfl, (by show 2 ≤ sizeLine; decide), fun q hq => ?_⟩
      have s4 : Same H3 (upd H3 q (.tup [.str (Str.ofString "put"), .str (Str.ofString "turn")])) := same_new hq
      refine ⟨q, _, rfl, .inr (SqT.of upd_same), rfl, rfl, ?_⟩
      refine ⟨_, rfl, fun hb => ?_, fun hb => ?_⟩
      · have hb' : inV (.str k) [.str (Str.ofString "put"), .str (Str.ofString "turn")] = true := hb
        rw [inV_str2] at hb'
        have hk : k = kn 0 ∨ k = kn 2 := of_decide_eq_true hb'
        refine ⟨_, rfl, _, rfl, _, rfl, tp, th, rfl, SqL.of (s4 _ _ hth), oth, fun ok H5 s5 => ?_, fun bad => ?_⟩
        · rw [if_pos ⟨hk, ok⟩] at rE
          refine ⟨(by show 3 ≤ sizeLine; decide), fun t ht => h1 _ _ _ rE t _ (((s13.trans s4).trans s5).new ht) ?_⟩
          rw [upd_same]
          rcases hk with rfl | rfl
          · rfl
          · rw [if_neg (Ne.symm kn_ne.2.2)]; rfl
        · rw [if_neg (fun z => by rw [z.2] at bad; cases bad)] at rE
          exact (h2 rE).same (s13.trans s4)
      · have hb' : inV (.str k) [.str (Str.ofString "put"), .str (Str.ofString "turn")] = false := hb
        rw [inV_str2] at hb'
        rw [if_neg (fun z => (of_decide_eq_false hb') z.1)] at rE
        exact (h2 rE).same (s13.trans s4)
theorem ok_read_mend (T : Txt K mg A) : FnOk P w K mg base (CXX P w) 6 A.read_mend A.fd_read_mend ["words"] (spRMend K A) := by
  have G_require : FnOk P w K mg base (CXX P w) 3 A.require A.fd_require ["holds"] (spRequire A) := ok_require T
  have G_read_edit : FnOk P w K mg base (CXX P w) 5 A.read_edit A.fd_read_edit ["words"] (spREdit K A) := ok_read_edit T
  refine T.F_read_mend.okX sc_read_mend (fun vs H Q E h => ?_) (fun cdv A' outer s H vs Q E hr h => ?_)
  · obtain ⟨a, ws, rfl, _⟩ := h
    rfl
  · obtain ⟨a, ws, rfl, hS, o, h1, h2⟩ := h
    have hr_require : Room 3 _ := hr.mono (by decide)
    have hr_read_edit := hr
    refine ⟨_, (psxs_cons (psx_set (i := 1) sc_read_mend.nd rfl (Or.inl rfl) (pe_callX G_read_edit hr_read_edit rfl T.g_read_edit T.F_read_edit.kp T.b_read_edit (pax (pa_cons (pv 0) pa_nil))))
  (psxs_cons (psx_expr (pe_callX G_require hr_require rfl T.g_require T.F_require.kp T.b_require (pax (pa_cons (pe_or (pe_cmpR op_eq (pe_ix ix_tup (pv 1) pe_int (fun _ _ => rfl)) pe_str (nomark _)) (pe_one (pe_cmpR op_eq (pe_callB call_len_seq (by rfl) T.n_len bt_len (pa_cons (pv 0) pa_nil)) pe_int (nomark _)))) pa_nil))))
  (psxs_one (psx (ps_ret (pv 1)))))), ?_⟩
    refine ⟨_, rfl, a, ws, rfl, hS, o, fun k i th re t H2 s2 ht => ?_, fun hn => h2 (by unfold readMend; rw [hn]; rfl)⟩
    have rm : readMend ws = if k = 1 ∨ ws.length = 3 then some (k, i, th) else none := by unfold readMend; rw [re]; rfl
    refine ⟨_, rfl, t, _, _, _, rfl, rfl, SqT.of ht, edR_at0 k i _, rfl, _, rfl, ?_⟩
    have kk : (V.str (kn k) = V.str (Str.ofString "cut")) ↔ k = 1 := by
      refine kn_cut ?_
      match ws, re with
      | x :: p :: r, re =>
        by_cases hp : isNumB p = true
        · have re' := re
          simp only [readEdit, if_pos hp] at re'
          split at re'
          · split at re'
            · simp at re'; omega
            · cases re'
          · split at re'
            · simp only [Option.some.injEq, Prod.mk.injEq] at re'
              rw [← re'.1]
              split <;> simp
            · cases re'
        · simp only [readEdit, if_neg hp] at re
          cases re
    by_cases hk : k = 1
    · rw [decide_eq_true (kk.mpr hk)]
      refine iteT ⟨true, rfl, fun _ => ?_, fun z => nomatch z⟩
      rw [if_pos (.inl hk)] at rm
      exact ⟨_, rfl, h1 _ _ _ rm t H2 s2 ht⟩
    · rw [decide_eq_false fun z => hk (kk.mp z)]
      refine iteF ⟨_, rfl, a, _, rfl, .inl (s2.seq hS), rfl, _, rfl, fun hb => ?_, fun hb => ?_⟩
      · have hl : ws.length = 3 := by
          have := of_decide_eq_true hb
          rw [List.length_map] at this
          injection this with this
          omega
        rw [if_pos (.inr hl)] at rm
        exact ⟨_, rfl, h1 _ _ _ rm t H2 s2 ht⟩
      · have hl : ¬ ws.length = 3 := fun z => by
          refine of_decide_eq_false hb ?_
          rw [List.length_map, z]
          rfl
        rw [if_neg (by rintro (z | z); exact hk z; exact hl z)] at rm
        exact (h2 rm).same s2
theorem ok_read_sitting (T : Txt K mg A) : FnOk P w K mg base (CXX P w) 5 A.read_sitting A.fd_read_sitting ["words"] (spRSit K A) := by
  have G_require : FnOk P w K mg base (CXX P w) 3 A.require A.fd_require ["holds"] (spRequire A) := ok_require T
  have G_read_number : FnOk P w K mg base (CXX P w) 4 A.read_number A.fd_read_number ["word"] (spRNum A) := ok_read_number T
  refine T.F_read_sitting.okX sc_read_sitting (fun vs H Q E h => ?_) (fun cdv A' outer s H vs Q E hr h => ?_)
  · obtain ⟨a, ws, rfl, _⟩ := h
    rfl
  · obtain ⟨a, ws, rfl, hS, o, h1, h2⟩ := h
    have hr_require : Room 3 _ := hr.mono (by decide)
    have hr_read_number := hr
    refine ⟨_, (psxs_cons (psx_expr (pe_callX G_require hr_require rfl T.g_require T.F_require.kp T.b_require (pax (pa_cons (pe_and (pe_cmpR op_eq (pe_callB call_len_seq (by rfl) T.n_len bt_len (pa_cons (pv 0) pa_nil)) pe_int (nomark _)) (pe_one (pe_cmpR op_eq (pe_ix ix_list (pv 0) pe_int (fun _ _ => rfl)) pe_str (nomark _)))) pa_nil))))
  (psxs_cons (psx_set (i := 1) sc_read_sitting.nd rfl (Or.inl rfl) (pe_callX G_read_number hr_read_number rfl T.g_read_number T.F_read_number.kp T.b_read_number (pax (pa_cons (pe_ix ix_list (pv 0) pe_int (fun _ _ => rfl)) pa_nil))))
  (psxs_cons (psx_expr (pe_callX G_require hr_require rfl T.g_require T.F_require.kp T.b_require (pax (pa_cons (pe_chain op_le op_le pe_int (pv 1) (pe_glob (v := V.int 999999999) rfl T.g_LAST_SITTING ⟨_, rfl⟩)) pa_nil))))
  (psxs_one (psx (ps_ret (pv 1))))))), ?_⟩
    refine ⟨_, rfl, a, _, rfl, .inl hS, rfl, _, rfl, ?_⟩
    rw [List.length_map]
    by_cases hl : ws.length = 2
    · obtain ⟨x, n, rfl⟩ : ∃ x n, ws = [x, n] := by
        match ws, hl with
        | [x, n], _ => exact ⟨x, n, rfl⟩
      refine iteT ⟨_, rfl, a, _, _, .str x, rfl, rfl, hS, atI_zero, rfl, _, rfl, fun hb => ?_, fun hb => ?_⟩
      · have hx : x = Str.ofString "off" := by injection of_decide_eq_true hb
        refine ⟨_, rfl, a, _, _, .str n, rfl, rfl, hS, atI_one, n, rfl, o.wl (by simp), fun hn H2 s2 => ?_, fun hn => h2 ?_⟩
        · refine ⟨_, rfl, _, _, rfl, rfl, _, rfl, ?_⟩
          by_cases b1 : 1 ≤ numV n
          · rw [decide_eq_true b1]
            refine iteT ⟨_, _, rfl, rfl, _, rfl, fun b2 => ?_, fun b2 => ?_⟩
            · exact ⟨_, rfl, h1 _ (if_pos ⟨hx, hn, b1, of_decide_eq_true b2⟩) H2 s2⟩
            · exact (h2 (if_neg fun z => of_decide_eq_false b2 z.2.2.2)).same s2
          · rw [decide_eq_false b1]
            exact iteF ⟨false, rfl, (fun z => nomatch z), fun _ => (h2 (if_neg fun z => b1 z.2.2.1)).same s2⟩
        · exact if_neg fun z => by rw [z.2.1] at hn; cases hn
      · exact h2 (if_neg fun z => of_decide_eq_false hb (congrArg V.str z.1))
    · rw [decide_eq_false (show ¬ V.int (ws.length : Int) = V.int 2 from fun z => hl (by injection z with z; omega))]
      refine iteF ⟨false, rfl, (fun z => nomatch z), fun _ => h2 ?_⟩
      match ws, hl with
      | [], _ => rfl
      | [_], _ => rfl
      | [_, _], h => exact absurd rfl h
      | _ :: _ :: _ :: _, _ => rfl
end

/-! ### READ5 -/
theorem join_sum (c : Nat) : ∀ ws : List Str, ws ≠ [] → (ws.map (·.length)).sum + ws.length = (Str.join ⟨#[c]⟩ ws).length + 1
  | [], h => absurd rfl h
  | [x], _ => by show _ = x.length + 1; simp
  | x :: y :: r, _ => by
    have ih := join_sum c (y :: r) (List.cons_ne_nil _ _)
    have e : (Str.join ⟨#[c]⟩ (x :: y :: r)).length = x.length + 1 + (Str.join ⟨#[c]⟩ (y :: r)).length := by
      have := congrArg List.length (join_cons2 c x y r)
      rw [List.length_append, List.length_cons, len_toList, len_toList, len_toList] at this
      omega
    simp only [List.map_cons, List.sum_cons, List.length_cons] at ih ⊢
    omega
theorem asc_parts (c : Nat) : ∀ ws : List Str, Asc (Str.join ⟨#[c]⟩ ws) → ∀ w ∈ ws, Asc w
  | [], _, _, h => nomatch h
  | [x], h, w, hw => by rw [List.mem_singleton.mp hw]; exact h
  | x :: y :: r, h, w, hw => by
    have e := join_cons2 c x y r
    rcases List.mem_cons.mp hw with rfl | hw
    · exact fun d hd => h d (by rw [e]; exact List.mem_append_left _ hd)
    · exact asc_parts c (y :: r) (fun d hd => h d (by rw [e]; exact List.mem_append_right _ (List.mem_cons_of_mem _ hd))) w hw
theorem row_ok {z : Str} (h : z.length ≤ 50000) (ha : Asc z) : RowOk (Txt.split z bl1) := by
  have e : Str.join ⟨#[32]⟩ (Txt.split z ⟨#[32]⟩) = z := StrLaws.join_split _ _
  rw [bl1_eq]
  have s := join_sum 32 _ (split_ne z ⟨#[32]⟩)
  rw [e] at s
  exact ⟨by omega, asc_parts 32 _ (by rw [e]; exact ha)⟩
theorem inV_lone (k : Str) : inV (.str k) [.str (Str.ofString "close"), .str (Str.ofString "lay"), .str (Str.ofString "rest"), .str (Str.ofString "drop")] = decide (k ∈ lone) := by
  have e : ∀ x y : Str, eqV (.str x) (.str y) = decide (y = x) := fun x y => by
    show (x == y) = _
    rw [Bool.eq_iff_iff]
    simp
    exact ⟨fun h => h.symm, fun h => h.symm⟩
  unfold inV
  simp only [List.any_cons, List.any_nil, e, Bool.or_false]
  rw [Bool.eq_iff_iff]
  simp [lone]
theorem str_ne {a b : Str} (h : ¬ decide (V.str a = V.str b) = true) : ¬ a = b := fun z => h (decide_eq_true (congrArg V.str z))
theorem str_eq {a b : Str} (h : decide (V.str a = V.str b) = true) : a = b := by injection of_decide_eq_true h
section
variable {P : Program} {w : World} {K : PySem.W.Frag} {mg : Str → Option Value} {base : Heap} {A : Adr}
theorem ok_read_deed (T : Txt K mg A) : FnOk P w K mg base (CXX P w) 7 A.read_deed A.fd_read_deed ["row"] (spRDeed K A) := by
  have G_require : FnOk P w K mg base (CXX P w) 3 A.require A.fd_require ["holds"] (spRequire A) := ok_require T
  have G_read_clause : FnOk P w K mg base (CXX P w) 4 A.read_clause A.fd_read_clause ["words"] (spRClause K A) := ok_read_clause T
  have G_read_number : FnOk P w K mg base (CXX P w) 4 A.read_number A.fd_read_number ["word"] (spRNum A) := ok_read_number T
  have G_read_text : FnOk P w K mg base (CXX P w) 5 A.read_text A.fd_read_text ["words"] (spRText K A) := ok_read_text T
  have G_read_edit : FnOk P w K mg base (CXX P w) 5 A.read_edit A.fd_read_edit ["words"] (spREdit K A) := ok_read_edit T
  have G_read_mend : FnOk P w K mg base (CXX P w) 6 A.read_mend A.fd_read_mend ["words"] (spRMend K A) := ok_read_mend T
  have G_read_sitting : FnOk P w K mg base (CXX P w) 5 A.read_sitting A.fd_read_sitting ["words"] (spRSit K A) := ok_read_sitting T
  refine T.F_read_deed.okX sc_read_deed (fun vs H Q E h => ?_) (fun cdv A' outer s H vs Q E hr h => ?_)
  · obtain ⟨z, rfl, _⟩ := h
    rfl
  · obtain ⟨z, rfl, zl, za, h1, h2⟩ := h
    have hr_require : Room 3 _ := hr.mono (by decide)
    have hr_read_clause : Room 4 _ := hr.mono (by decide)
    have hr_read_number : Room 4 _ := hr.mono (by decide)
    have hr_read_text : Room 5 _ := hr.mono (by decide)
    have hr_read_edit : Room 5 _ := hr.mono (by decide)
    have hr_read_sitting : Room 5 _ := hr.mono (by decide)
    have hr_read_mend := hr
    have hu64 := hr.units
    refine ⟨_, (psxs_cons (psx (ps_set (i := 1) sc_read_deed.nd rfl (Or.inl rfl) (pe_bm PySem.F.plainAttrs_str PySem.F.slot_str_split PySem.F.type_str_split mt_split (pv 0) (pa_cons pe_str pa_nil))))
  (psxs_cons (psx (ps_set (i := 2) sc_read_deed.nd rfl (Or.inl rfl) (pe_ix ix_list (pv 1) pe_int (fun _ _ => rfl))))
  (psxs_cons (psx (ps_set (i := 3) sc_read_deed.nd rfl (Or.inl rfl) (pe_slice sl_list (pv 1) (po_some pe_int) po_none)))
  (psxs_cons (psx_if (pt_cmpR op_eq (pv 2) pe_str (nomark _))
  (psxs_one (psx_ret (pex_tup (pax_cons (px pe_str) (pax_cons (pe_callX G_read_text hr_read_text rfl T.g_read_text T.F_read_text.kp T.b_read_text (pax (pa_cons (pv 3) pa_nil))) pax_nil)))))
  (psxs pss_nil))
  (psxs_cons (psx_if (pt_cmpR op_eq (pv 2) pe_str (nomark _))
  (psxs_one (psx_ret (pex_tup (pax_cons (px pe_str) (pax_cons (pe_callX G_read_edit hr_read_edit rfl T.g_read_edit T.F_read_edit.kp T.b_read_edit (pax (pa_cons (pv 3) pa_nil))) pax_nil)))))
  (psxs pss_nil))
  (psxs_cons (psx_if (pt_cmpR op_eq (pv 2) pe_str (nomark _))
  (psxs_one (psx_ret (pex_tup (pax_cons (px pe_str) (pax_cons (pe_callX G_read_mend hr_read_mend rfl T.g_read_mend T.F_read_mend.kp T.b_read_mend (pax (pa_cons (pv 3) pa_nil))) pax_nil)))))
  (psxs pss_nil))
  (psxs_cons (psx_if (pt_cmpR op_eq (pv 2) pe_str (nomark _))
  (psxs_one (psx_ret (pex_tup (pax_cons (px pe_str) (pax_cons (pe_callX G_read_sitting hr_read_sitting rfl T.g_read_sitting T.F_read_sitting.kp T.b_read_sitting (pax (pa_cons (pv 3) pa_nil))) pax_nil)))))
  (psxs pss_nil))
  (psxs_cons (psx_if (pt_cmpR op_eq (pv 2) pe_str (nomark _))
  (psxs_one (psx_ret (pex_tup (pax_cons (px pe_str) (pax_cons (pe_callX G_read_clause hr_read_clause rfl T.g_read_clause T.F_read_clause.kp T.b_read_clause (pax (pa_cons (pv 3) pa_nil))) pax_nil)))))
  (psxs pss_nil))
  (psxs_cons (psx_if (pt_cmpR op_eq (pv 2) pe_str (nomark _))
  (psxs_cons (psx_expr (pe_callX G_require hr_require rfl T.g_require T.F_require.kp T.b_require (pax (pa_cons (pe_cmpR op_eq (pe_callB call_len_seq (by rfl) T.n_len bt_len (pa_cons (pv 3) pa_nil)) pe_int (nomark _)) pa_nil))))
  (psxs_one (psx_ret (pex_tup (pax_cons (px pe_str) (pax_cons (pe_callX G_read_number hr_read_number rfl T.g_read_number T.F_read_number.kp T.b_read_number (pax (pa_cons (pe_ix ix_list (pv 3) pe_int (fun _ _ => rfl)) pa_nil))) (pax_cons (pe_callX G_read_number hr_read_number rfl T.g_read_number T.F_read_number.kp T.b_read_number (pax (pa_cons (pe_ix ix_list (pv 3) pe_int (fun _ _ => rfl)) pa_nil))) pax_nil)))))))
  (psxs pss_nil))
  (psxs_cons (psx_if (pt_cmpR op_eq (pv 2) pe_str (nomark _))
  (psxs_cons (psx_expr (pe_callX G_require hr_require rfl T.g_require T.F_require.kp T.b_require (pax (pa_cons (pe_cmpR op_eq (pe_callB call_len_seq (by rfl) T.n_len bt_len (pa_cons (pv 3) pa_nil)) pe_int (nomark _)) pa_nil))))
  (psxs_one (psx_ret (pex_tup (pax_cons (px pe_str) (pax_cons (pe_callX G_read_number hr_read_number rfl T.g_read_number T.F_read_number.kp T.b_read_number (pax (pa_cons (pe_ix ix_list (pv 3) pe_int (fun _ _ => rfl)) pa_nil))) pax_nil))))))
  (psxs pss_nil))
  (psxs_cons (psx_expr (pe_callX G_require hr_require rfl T.g_require T.F_require.kp T.b_require (pax (pa_cons (pe_and (pe_cmpR op_in_seq (pv 2) (pe_glob (v := V.ref A.o_LONE) rfl T.g_LONE rfl) rfl) (pe_one (pe_cmpR (op_eqD hu64) (pv 3) (pe_lst pa_nil) (nomark _)))) pa_nil))))
  (psxs_one (psx (ps_ret (pe_tup (pa_cons (pv 2) pa_nil)))))))))))))))), ?_⟩
    have sz : sizeLine = 16777216 := by decide
    refine ⟨_, rfl, rfl, z, bl1, rfl, rfl, by rw [bl1_eq]; rfl, by omega, fun W hW => ?_⟩
    have o := row_ok zl za
    have hsp := split_ne z bl1
    generalize Txt.split z bl1 = sp at o hsp h1 h2 ⊢
    obtain ⟨k, ws, rfl⟩ : ∃ k ws, sp = k :: ws := by
      cases sp with
      | nil => exact absurd rfl hsp
      | cons k ws => exact ⟨k, ws, rfl⟩
    have hWl : upd H W (.lst ((k :: ws).map V.str)) W = some (.lst ((k :: ws).map V.str)) := upd_same
    have s1 : Same H (upd H W (.lst ((k :: ws).map V.str))) := same_new hW
    generalize upd H W (.lst ((k :: ws).map V.str)) = H1 at hWl s1 ⊢
    refine ⟨_, rfl, W, _, _, .str k, rfl, rfl, SqL.of hWl, atI_zero, ?_⟩
    refine ⟨_, rfl, _, rfl, W, _, rfl, SqL.of hWl, fun B hB => ?_⟩
    have e1 : cutV (List.map V.str (k :: ws)) (some 1) none = ws.map V.str := cut1 _ _
    rw [e1]
    have s2 : Same H1 (upd H1 B (.lst (ws.map V.str))) := same_new hB
    have hBl : upd H1 B (.lst (ws.map V.str)) B = some (.lst (ws.map V.str)) := upd_same
    generalize upd H1 B (.lst (ws.map V.str)) = H2 at s2 hBl ⊢
    have s12 := s1.trans s2
    have hB' : SqL K H2 B (ws.map V.str) := SqL.of hBl
    have ow : RowOk ws := o.drop 1
    have owl := ow.len
    -- what is read
    have R : readD (k :: ws) = _ := rfl
    refine ⟨_, rfl, rfl, _, rfl, ite2 (fun e => ?_) (fun e => ?_)⟩
    · have R' : readD (k :: ws) = (readText ws).map .mat := by rw [readD, if_pos (str_eq e)]
      refine ⟨_, rfl, B, ws, rfl, hB', ow, fun cs ec L H3 s3 nL hL => ⟨(by show 2 ≤ sizeLine; decide), fun t ht => ?_⟩, fun en => (h2 (by rw [R', en]; rfl)).same s12⟩
      have nLt : L ≠ t := ne_of_none hL ht
      exact h1 (.mat cs) (by rw [R', ec]; rfl) t _ ((s12.trans s3).new ht) (s12.free (s3.free ht)) ⟨L, upd_same, s12.free nL, (upd_ne nLt).trans hL⟩
    have n1 := str_ne e
    refine ⟨_, rfl, rfl, _, rfl, ite2 (fun e => ?_) (fun e => ?_)⟩
    · have R' : readD (k :: ws) = (readEdit ws).map fun e => .ed false e.1 e.2.1 e.2.2 := by rw [readD, if_neg n1, if_pos (str_eq e)]
      refine ⟨_, rfl, B, ws, rfl, hB', ow, fun kk i th ec ta H3 s3 hta => ⟨(by show 2 ≤ sizeLine; decide), fun t ht => ?_⟩, fun en => (h2 (by rw [R', en]; rfl)).same s12⟩
      have nLt : ta ≠ t := ne_of_none hta ht
      exact h1 (.ed false kk i th) (by rw [R', ec]; rfl) t _ ((s12.trans s3).new ht) (s12.free (s3.free ht)) ⟨ta, upd_same, (upd_ne nLt).trans hta⟩
    have n2 := str_ne e
    refine ⟨_, rfl, rfl, _, rfl, ite2 (fun e => ?_) (fun e => ?_)⟩
    · have R' : readD (k :: ws) = (readMend ws).map fun e => .ed true e.1 e.2.1 e.2.2 := by rw [readD, if_neg n1, if_neg n2, if_pos (str_eq e)]
      refine ⟨_, rfl, B, ws, rfl, hB', ow, fun kk i th ec ta H3 s3 hta => ⟨(by show 2 ≤ sizeLine; decide), fun t ht => ?_⟩, fun en => (h2 (by rw [R', en]; rfl)).same s12⟩
      have nLt : ta ≠ t := ne_of_none hta ht
      exact h1 (.ed true kk i th) (by rw [R', ec]; rfl) t _ ((s12.trans s3).new ht) (s12.free (s3.free ht)) ⟨ta, upd_same, (upd_ne nLt).trans hta⟩
    have n3 := str_ne e
    refine ⟨_, rfl, rfl, _, rfl, ite2 (fun e => ?_) (fun e => ?_)⟩
    · have R' : readD (k :: ws) = (readSit ws).map fun n => .nums (Str.ofString "put off") [n] := by rw [readD, if_neg n1, if_neg n2, if_neg n3, if_pos (str_eq e)]
      refine ⟨_, rfl, B, ws, rfl, hB', ow, fun n ec H3 s3 => ⟨(by show 2 ≤ sizeLine; decide), fun t ht => ?_⟩, fun en => (h2 (by rw [R', en]; rfl)).same s12⟩
      exact h1 (.nums (Str.ofString "put off") [n]) (by rw [R', ec]; rfl) t _ ((s12.trans s3).new ht) (s12.free (s3.free ht)) upd_same
    have n4 := str_ne e
    refine ⟨_, rfl, rfl, _, rfl, ite2 (fun e => ?_) (fun e => ?_)⟩
    · have R' : readD (k :: ws) = if ws.all isWordB = true then some (.pt ws) else none := by rw [readD, if_neg n1, if_neg n2, if_neg n3, if_neg n4, if_pos (str_eq e)]
      refine ⟨_, rfl, B, ws, rfl, hB', ow, fun ok H3 s3 => ⟨(by show 2 ≤ sizeLine; decide), fun t ht => ?_⟩, fun en => (h2 (by rw [R', en]; rfl)).same s12⟩
      exact h1 (.pt ws) (by rw [R', if_pos ok]) t _ ((s12.trans s3).new ht) (s12.free (s3.free ht)) upd_same
    have n5 := str_ne e
    refine ⟨_, rfl, rfl, _, rfl, ite2 (fun e => ?_) (fun e => ?_)⟩
    · have R' : readD (k :: ws) = readVote ws := by rw [readD, if_neg n1, if_neg n2, if_neg n3, if_neg n4, if_neg n5, if_pos (str_eq e)]
      refine ⟨_, rfl, B, _, rfl, .inl hB', rfl, _, rfl, ?_⟩
      rw [List.length_map]
      by_cases hl : ws.length = 2
      · obtain ⟨a, b, rfl⟩ : ∃ x n, ws = [x, n] := by
          match ws, hl with
          | [x, n], _ => exact ⟨x, n, rfl⟩
        refine ⟨fun _ => ?_, fun z => nomatch z⟩
        have R2 : readD [k, a, b] = if isNumB a = true ∧ isNumB b = true then some (.nums (Str.ofString "vote") [numV a, numV b]) else none := R'
        refine ⟨_, rfl, B, _, _, .str a, rfl, rfl, hB', atI_zero, a, rfl, ow.wl (by simp), fun ha H3 s3 => ?_, fun ha => (h2 (by rw [R2, if_neg (fun z => by rw [z.1] at ha; cases ha)])).same s12⟩
        refine ⟨_, rfl, B, _, _, .str b, rfl, rfl, s3.seq hB', atI_one, b, rfl, ow.wl (by simp), fun hb H4 s4 => ?_, fun hb => (h2 (by rw [R2, if_neg (fun z => by rw [z.2] at hb; cases hb)])).same (s12.trans s3)⟩
        refine ⟨(by show 3 ≤ sizeLine; decide), fun t ht => ?_⟩
        exact h1 (.nums (Str.ofString "vote") [numV a, numV b]) (by rw [R2, if_pos ⟨ha, hb⟩]) t _ (((s12.trans s3).trans s4).new ht) (s12.free (s3.free (s4.free ht))) upd_same
      · rw [decide_eq_false (show ¬ V.int (ws.length : Int) = V.int 2 from fun z => hl (by injection z with z; omega))]
        refine ⟨(fun z => nomatch z), fun _ => (h2 ?_).same s12⟩
        rw [R']
        match ws, hl with
        | [], _ => rfl
        | [_], _ => rfl
        | [_, _], h => exact absurd rfl h
        | _ :: _ :: _ :: _, _ => rfl
    have n6 := str_ne e
    refine ⟨_, rfl, rfl, _, rfl, ite2 (fun e => ?_) (fun e => ?_)⟩
    · have R' : readD (k :: ws) = readTake ws := by rw [readD, if_neg n1, if_neg n2, if_neg n3, if_neg n4, if_neg n5, if_neg n6, if_pos (str_eq e)]
      refine ⟨_, rfl, B, _, rfl, .inl hB', rfl, _, rfl, ?_⟩
      rw [List.length_map]
      by_cases hl : ws.length = 1
      · obtain ⟨a, rfl⟩ := List.length_eq_one_iff.mp hl
        refine ⟨fun _ => ?_, fun z => nomatch z⟩
        have R2 : readD [k, a] = if isNumB a = true then some (.nums (Str.ofString "take") [numV a]) else none := R'
        refine ⟨_, rfl, B, _, _, .str a, rfl, rfl, hB', atI_zero, a, rfl, ow.wl (by simp), fun ha H3 s3 => ?_, fun ha => (h2 (by rw [R2, if_neg (fun z => by rw [z] at ha; cases ha)])).same s12⟩
        refine ⟨(by show 2 ≤ sizeLine; decide), fun t ht => ?_⟩
        exact h1 (.nums (Str.ofString "take") [numV a]) (by rw [R2, if_pos ha]) t _ ((s12.trans s3).new ht) (s12.free (s3.free ht)) upd_same
      · rw [decide_eq_false (show ¬ V.int (ws.length : Int) = V.int 1 from fun z => hl (by injection z with z; omega))]
        refine ⟨(fun z => nomatch z), fun _ => (h2 ?_).same s12⟩
        rw [R']
        match ws, hl with
        | [], _ => rfl
        | [_], h => exact absurd rfl h
        | _ :: _ :: _, _ => rfl
    have n7 := str_ne e
    have R' : readD (k :: ws) = if k ∈ lone ∧ ws = [] then some (.nums k []) else none := by rw [readD, if_neg n1, if_neg n2, if_neg n3, if_neg n4, if_neg n5, if_neg n6, if_neg n7]
    refine ⟨_, rfl, A.o_LONE, _, rfl, .inr (T.q_LONE _), rfl, rfl, _, rfl, ?_⟩
    by_cases hk : k ∈ lone
    · have hi : inV (.str k) [.str (Str.ofString "close"), .str (Str.ofString "lay"), .str (Str.ofString "rest"), .str (Str.ofString "drop")] = true := by rw [inV_lone]; exact decide_eq_true hk
      refine ite_t (show (if false = true then _ else inV (.str k) _) = true from hi) ?_
      refine ⟨_, rfl, Nat.zero_le _, fun q hq => ?_⟩
      have s4 : Same H2 (upd H2 q (.lst [])) := same_new hq
      refine ⟨.list (ws.map PyData.str), .list [], dv_strs (s4.seq hB'), ?_, shaped_strs fun w hw => (ow.asc w hw).ok, by decide +kernel, ?_⟩
      · unfold DV
        exact ⟨q, [], rfl, SqL.of upd_same, by unfold DVs; rfl⟩
      · rw [strs_nil]
        refine ⟨_, rfl, fun hb => ?_, fun hb => ?_⟩
        · have hw := of_decide_eq_true hb
          refine ⟨_, rfl, (by show 1 ≤ sizeLine; decide), fun t ht => ?_⟩
          exact h1 (.nums k []) (by rw [R', if_pos ⟨hk, hw⟩]) t _ ((s12.trans s4).new ht) (s12.free (s4.free ht)) upd_same
        · exact (h2 (by rw [R', if_neg (fun z => of_decide_eq_false hb z.2)])).same (s12.trans s4)
    · have hi : inV (.str k) [.str (Str.ofString "close"), .str (Str.ofString "lay"), .str (Str.ofString "rest"), .str (Str.ofString "drop")] = false := by rw [inV_lone]; exact decide_eq_false hk
      refine ite_f (show (if false = true then _ else inV (.str k) _) = false from hi) ?_
      exact ⟨false, rfl, (fun z => nomatch z), fun _ => (h2 (by rw [R', if_neg (fun z => hk z.1)])).same s12⟩
end

/-! ### LAW27A -/
theorem dRow_len {d : Deed} (o : DOk d) : (dRow d).length ≤ 5000 := by
  obtain ⟨b1, b2, b3⟩ := behind_ok o
  have h1 := join_len1 32 (dKind d :: dBehind d)
  have h2 := StrLaws.sumLen_le (B := 20) (dKind d :: dBehind d) (fun w hw => by
    rcases List.mem_cons.mp hw with rfl | hw
    · exact b3
    · exact b2 w hw)
  rw [← bl1_eq] at h1
  rw [List.length_cons] at h1 h2
  show (Str.join bl1 (dKind d :: dBehind d)).length ≤ 5000
  omega
/-! the data of a deed -/
def edRD (k : Nat) (i : Int) (x : Str) : List PyData := if k = 1 then [.str (kn 1), .int i] else [.str (kn k), .int i, .str x]
def dD : Deed → PyData
  | .mat cs => .tuple [.str (Str.ofString "matter"), .list ((cs.map (Str.join bl1)).map PyData.str)]
  | .ed m k i ws => .tuple [.str (kEd m), .tuple (edRD k i (Str.join bl1 ws))]
  | .pt ws => .tuple [.str (Str.ofString "point"), .str (Str.join bl1 ws)]
  | .nums kd ns => .tuple (.str kd :: ns.map PyData.int)
theorem dvs_ints (K : PySem.W.Frag) (H : Hp) : ∀ ns : List Int, DVs K H (ns.map PyData.int) (ns.map V.int)
  | [] => by simp only [List.map_nil]; unfold DVs; rfl
  | n :: ns => by
    simp only [List.map_cons]
    unfold DVs
    exact ⟨_, _, rfl, by unfold DV; rfl, dvs_ints K H ns⟩
theorem dD_dv {K : PySem.W.Frag} {H : Hp} {d : Deed} {t : Addr} (h : DeedAt K H d t) : DV K H (dD d) (.ref t) := by
  cases d with
  | mat cs =>
    obtain ⟨L, a, b⟩ := h
    unfold dD DV
    exact ⟨t, _, rfl, a, by unfold DVs; exact ⟨_, _, rfl, by unfold DV; rfl, by unfold DVs; exact ⟨_, _, rfl, dv_strs b, by unfold DVs; rfl⟩⟩⟩
  | ed m k i ws =>
    obtain ⟨e, a, b⟩ := h
    have he : DV K H (.tuple (edRD k i (Str.join bl1 ws))) (.ref e) := by
      unfold edRD
      unfold edR at b
      split at b
      · rename_i z
        rw [if_pos z]
        unfold DV
        exact ⟨e, _, rfl, b, by unfold DVs; exact ⟨_, _, rfl, by unfold DV; rfl, by unfold DVs; exact ⟨_, _, rfl, by unfold DV; rfl, by unfold DVs; rfl⟩⟩⟩
      · rename_i z
        rw [if_neg z]
        unfold DV
        exact ⟨e, _, rfl, b, by unfold DVs; exact ⟨_, _, rfl, by unfold DV; rfl, by unfold DVs; exact ⟨_, _, rfl, by unfold DV; rfl, by unfold DVs; exact ⟨_, _, rfl, by unfold DV; rfl, by unfold DVs; rfl⟩⟩⟩⟩
    unfold dD DV
    exact ⟨t, _, rfl, a, by unfold DVs; exact ⟨_, _, rfl, by unfold DV; rfl, by unfold DVs; exact ⟨_, _, rfl, he, by unfold DVs; rfl⟩⟩⟩
  | pt ws =>
    unfold dD DV
    exact ⟨t, _, rfl, h, by unfold DVs; exact ⟨_, _, rfl, by unfold DV; rfl, by unfold DVs; exact ⟨_, _, rfl, by unfold DV; rfl, by unfold DVs; rfl⟩⟩⟩
  | nums kd ns =>
    unfold dD DV
    exact ⟨t, _, rfl, h, by unfold DVs; exact ⟨_, _, rfl, by unfold DV; rfl, dvs_ints K H ns⟩⟩
theorem lay_ints : ∀ ns : List Int, PyData.canLayAll0 (ns.map PyData.int) = true ∧ PyData.depthAll (ns.map PyData.int) = 0
  | [] => ⟨rfl, rfl⟩
  | n :: ns => by
    have := lay_ints ns
    simp [PyData.canLayAll0, PyData.canLay0, PyData.depthAll, PyData.depth, this.1, this.2]
theorem ok_join {n : Nat} {ws : List Str} (o : WsOk n ws) : PyData.strOk (Str.join bl1 ws) = true :=
  Asc.ok (asc_join (by rw [bl1_eq]; intro d hd; have : d = 32 := (by simpa using hd); omega) ws fun w hw => (o.wd w hw).asc)
theorem kd_ok {kd : Str} {n : Nat} (h : (kd, n) ∈ numKinds) : PyData.strOk kd = true := by
  simp only [numKinds, List.mem_cons, List.not_mem_nil, or_false, Prod.mk.injEq] at h
  rcases h with ⟨rfl, rfl⟩ | ⟨rfl, rfl⟩ | ⟨rfl, rfl⟩ | ⟨rfl, rfl⟩ | ⟨rfl, rfl⟩ | ⟨rfl, rfl⟩ | ⟨rfl, rfl⟩ <;> decide +kernel
theorem dD_lay {d : Deed} (o : DOk d) : (dD d).canLay0 = true ∧ SeqAt.shaped (dD d) = true := by
  have key : (dD d).canLay0 = true ∧ (dD d).depth ≤ 64 := by
    cases d with
    | mat cs =>
      have h1 := canLay_strs (cs.map (Str.join bl1)) (fun x hx => by obtain ⟨ws, hw, rfl⟩ := List.mem_map.mp hx; exact ok_join (o.2 ws hw))
      have h2 := depth_strs (cs.map (Str.join bl1))
      have h3 : PyData.strOk (Str.ofString "matter") = true := by decide +kernel
      refine ⟨?_, ?_⟩
      · simp only [dD, PyData.canLay0, PyData.canLayAll0, h1, h3, Bool.and_self]
      · simp only [dD, PyData.depth, PyData.depthAll]; omega
    | ed m k i ws =>
      have h1 := ok_join o.2.2.1
      have h2 : PyData.strOk (kEd m) = true := by cases m <;> decide +kernel
      have h3 : PyData.strOk (kn k) = true := by unfold kn; split <;> decide +kernel
      have h4 : PyData.strOk (kn 1) = true := by decide +kernel
      refine ⟨?_, ?_⟩
      · simp only [dD, edRD]; split <;> simp [PyData.canLay0, PyData.canLayAll0, h1, h2, h3, h4]
      · simp only [dD, edRD]; split <;> simp [PyData.depth, PyData.depthAll]
    | pt ws =>
      have h1 := ok_join o
      have h3 : PyData.strOk (Str.ofString "point") = true := by decide +kernel
      refine ⟨?_, ?_⟩
      · simp [dD, PyData.canLay0, PyData.canLayAll0, h1, h3]
      · simp [dD, PyData.depth, PyData.depthAll]
    | nums kd ns =>
      have h1 := lay_ints ns
      have h3 := kd_ok o.1
      refine ⟨?_, ?_⟩
      · simp only [dD, PyData.canLay0, PyData.canLayAll0, h1.1, h3, Bool.and_self]
      · simp only [dD, PyData.depth, PyData.depthAll, h1.2]; decide
  refine ⟨key.1, ?_⟩
  show (PyData.canLay0 (dD d) && decide (PyData.depth (dD d) ≤ 64)) = true
  rw [key.1, decide_eq_true key.2]; rfl
def spCell (K : PySem.W.Frag) : Sp := fun vs H Q _ => ∃ (a : Addr) (ns : List Int) (k : Int), vs = [.ref a, .int k] ∧ SqL K H a (ns.map V.int) ∧ 0 ≤ k ∧ ∀ z : Int, Q (.int z) H
def spWords : Sp := fun vs H Q _ => ∃ d : Int, vs = [.int d] ∧ ∀ (ws : List Str) (p : Addr) (H' : Hp), WsOk 12 ws → Same H H' → H p = none → H' p = some (.lst (ws.map V.str)) → Q (.ref p) H'
def spNumber : Sp := fun vs H Q _ => ∃ d : Int, vs = [.int d] ∧ ∀ n : Int, 0 ≤ n → n < 10 ^ 10 → Q (.int n) H
def SitOk : Deed → Prop
  | .nums kd ns => kd = Str.ofString "put off" → ∀ i ∈ ns, 1 ≤ i ∧ i ≤ 999999999
  | _ => True
def Pair (K : PySem.W.Frag) (H : Hp) (Q : VK) : Prop := ∀ (d : Deed) (t p : Addr) (H' : Hp), DOk d ∧ SitOk d → Same H H' → H t = none → H' p = some (.tup [.ref t, .str (dRow d)]) → DeedNew H H' d t → Q (.ref p) H'
def spMatter (K : PySem.W.Frag) : Sp := fun vs H Q _ => ∃ c : Int, vs = [.int c] ∧ Pair K H Q
def spEdit (K : PySem.W.Frag) : Sp := fun vs H Q _ => ∃ (m : Bool) (D : Addr) (a b c : Int), vs = [.str (kEd m), .ref D] ∧ SqL K H D [.int a, .int b, .int c] ∧ Pair K H Q
def spDeed (K : PySem.W.Frag) : Sp := fun vs H Q _ => ∃ c m : Int, vs = [.int c, .int m] ∧ Pair K H Q
theorem small_step2 {j : Int} (h0 : 0 ≤ j) (h1 : j ≤ 1000) : Builtin.Range.small 0 j 2 = true ∧ 0 ≤ Builtin.Range.rangeSize 0 j 2 := by
  unfold Builtin.Range.small Builtin.Range.rangeFitsLong Builtin.Range.rangeSize
  simp only [Bool.and_eq_true, Bool.or_eq_true, decide_eq_true_eq, beq_iff_eq, show (2 : Int) > 0 by decide, if_true]
  split <;> omega
theorem kn_at (a : Int) : ∃ k : Nat, (k = 0 ∨ k = 1 ∨ k = 2) ∧ atI [V.str (Str.ofString "put"), V.str (Str.ofString "cut"), V.str (Str.ofString "turn")] (a % 3) = some (.str (kn k)) := by
  have h : a % 3 = 0 ∨ a % 3 = 1 ∨ a % 3 = 2 := by omega
  rcases h with e | e | e
  · exact ⟨0, .inl rfl, by rw [e]; rfl⟩
  · exact ⟨1, .inr (.inl rfl), by rw [e]; rfl⟩
  · exact ⟨2, .inr (.inr rfl), by rw [e]; rfl⟩
section
variable {P : Program} {w : World} {K : PySem.W.Frag} {mg : Str → Option Value} {base : Heap} {A : Adr}
theorem ok_l_cell_at (T : Txt K mg A) : FnOk P w K mg base CX0 1 A.l_cell_at A.fd_l_cell_at ["_law_script", "_law_k"] (spCell K) := by
  refine T.F_l_cell_at.ok sc_l_cell_at (fun vs H Q E h => ?_) (fun cdv A' outer s H vs Q E hr h => ?_)
  · obtain ⟨a, ns, k, rfl, _⟩ := h
    rfl
  · obtain ⟨a, ns, k, rfl, hS, h0, q⟩ := h
    refine ⟨_, (pss_cons (ps_if (pt_cmpR op_lt (pv 1) (pe_callB call_len_seq (by rfl) T.n_len bt_len (pa_cons (pv 0) pa_nil)) (nomark _))
  (pss_one (ps_ret (pe_ix ix_list (pv 0) (pv 1) (fun _ _ => rfl))))
  pss_nil)
  (pss_one (ps_ret pe_int))), ?_⟩
    refine ⟨_, rfl, _, rfl, a, _, rfl, .inl hS, _, _, rfl, rfl, _, rfl, ite2 (fun e => ?_) (fun _ => q 0)⟩
    have e' : k < ((ns.map V.int).length : Int) := of_decide_eq_true e
    rw [List.length_map] at e'
    obtain ⟨c, hc, hm⟩ := at_ix (xs := ns.map V.int) (i := k) (n := ns.length) (List.length_map _) h0 e'
    obtain ⟨z, _, rfl⟩ := List.mem_map.mp hm
    exact ⟨_, rfl, _, rfl, a, _, _, _, rfl, rfl, hS, hc, q z⟩
end

/-! ### LAW28 -/
/-! a row that was written is read as its deed -/
theorem word_b {x : Str} (h : Word x) : isWordB x = true := by
  unfold isWordB
  rw [decide_eq_true h.l1, decide_eq_true h.l2, decide_eq_false h.ns]
  refine List.all_eq_true.mpr fun c hc => ?_
  obtain ⟨a, b, d⟩ := h.sgn c hc
  unfold isSignB
  rw [decide_eq_true a, decide_eq_true b, decide_eq_true d]; rfl
theorem words_b {ws : List Str} (h : ∀ w ∈ ws, Word w) : ws.all isWordB = true := List.all_eq_true.mpr fun w hw => word_b (h w hw)
theorem dig_head : ∀ m : Nat, 0 < m → ∃ c r, Nat.toDigits 10 m = c :: r ∧ c ≠ '0' := by
  intro m
  induction m using Nat.strongRecOn with
  | _ m ih =>
    intro hm
    by_cases h : m < 10
    · rw [Nat.toDigits_of_lt_base h]
      refine ⟨_, _, rfl, ?_⟩
      have : ∀ d : Nat, d < 10 → 0 < d → Nat.digitChar d ≠ '0' := by decide
      exact this m h hm
    · have hm2 : m % 10 < 10 := Nat.mod_lt m (by decide)
      have t : Nat.toDigits 10 (m / 10) ++ Nat.toDigits 10 (m % 10) = Nat.toDigits 10 (10 * (m / 10) + m % 10) := Nat.toDigits_append_toDigits (by decide) (by omega) hm2
      rw [Nat.div_add_mod] at t
      obtain ⟨c, r, e, n⟩ := ih (m / 10) (by omega) (by omega)
      exact ⟨c, r ++ Nat.toDigits 10 (m % 10), by rw [← t, e]; rfl, n⟩
theorem num_b {i : Int} (h0 : 0 ≤ i) (h1 : i < 10 ^ 10) : isNumB (num i) = true ∧ numV (num i) = i := by
  have rd := PySem.W.KIN.num_reads h0 h1
  have hl := num_len h0 h1
  obtain ⟨m, rfl⟩ := Int.eq_ofNat_of_zero_le h0
  have sg := PySem.W.KIN.signs_num m
  have hd : ∀ c ∈ (num ((m : Nat) : Int)).cps.toList, isDigB c = true := fun c hc => by
    have hc' : c ∈ (Nat.toDigits 10 m).map Char.toNat := by rw [← sg]; exact hc
    obtain ⟨ch, hch, e⟩ := List.mem_map.mp hc'
    have r := PyProof.Rows.digit_range (Nat.isDigit_of_mem_toDigits (by decide) (by decide) hch)
    rw [← e]
    unfold isDigB
    rw [decide_eq_true r.1, decide_eq_true r.2]; rfl
  have hne : num ((m : Nat) : Int) ≠ em := fun e => by
    have e2 : (num ((m : Nat) : Int)).cps.toList = em.cps.toList := congrArg (fun z : Str => z.cps.toList) e
    rw [show (num ((m : Nat) : Int)).cps.toList = _ from sg, em_eq] at e2
    by_cases hm : 0 < m
    · obtain ⟨c, r, e3, _⟩ := dig_head m hm
      rw [e3] at e2; cases e2
    · obtain rfl : m = 0 := by omega
      revert e2; decide
  refine ⟨?_, by unfold numV; rw [show PySem.intText? (num ((m : Nat) : Int)) = _ from rd]; rfl⟩
  unfold isNumB
  rw [decide_eq_true hne, decide_eq_true hl, List.all_eq_true.mpr hd]
  by_cases hm : 0 < m
  · obtain ⟨c, r, e3, n⟩ := dig_head m hm
    have : ¬ (num ((m : Nat) : Int)).cps.toList.head? = some 48 := fun z => by
      rw [show (num ((m : Nat) : Int)).cps.toList = _ from sg, e3] at z
      have z' : c.toNat = 48 := by simpa using z
      exact n (Char.ext (UInt32.toNat_inj.mp z'))
    rw [decide_eq_false this]; simp
  · obtain rfl : m = 0 := by omega
    have : num ((0 : Nat) : Int) = Str.ofString "0" := by decide +kernel
    rw [decide_eq_true this]; simp
/-- what is read of a deed's row: the words of a cut are not told -/
def norm : Deed → Deed
  | .ed m k i ws => .ed m k i (if k = 1 then [] else ws)
  | d => d
theorem edR_norm (k : Nat) (i : Int) (ws : List Str) : edR k i (Str.join bl1 (if k = 1 then [] else ws)) = edR k i (Str.join bl1 ws) := by
  unfold edR
  split
  · rfl
  · rfl
theorem dD_norm (d : Deed) : dD (norm d) = dD d := by
  cases d with
  | ed m k i ws =>
    show PyData.tuple [_, .tuple (edRD k i (Str.join bl1 (if k = 1 then [] else ws)))] = PyData.tuple [_, .tuple (edRD k i (Str.join bl1 ws))]
    have : edRD k i (Str.join bl1 (if k = 1 then [] else ws)) = edRD k i (Str.join bl1 ws) := by
      unfold edRD
      split
      · rfl
      · rfl
    rw [this]
  | _ => rfl
theorem DeedNew.norm {H H' : Hp} {d : Deed} {t : Addr} (h : DeedNew H H' (norm d) t) : DeedNew H H' d t := by
  cases d with
  | ed m k i ws =>
    obtain ⟨e, a, b⟩ := h
    exact ⟨e, a, by rw [edR_norm] at b; exact b⟩
  | _ => exact h
def dWords : Deed → List Str
  | .nums kd ns => if kd = Str.ofString "put off" then Str.ofString "put" :: Str.ofString "off" :: ns.map num else kd :: ns.map num
  | d => dKind d :: dBehind d
theorem dRow_words (d : Deed) : dRow d = Str.join bl1 (dWords d) := by
  cases d with
  | nums kd ns =>
    show Str.join bl1 (kd :: ns.map num) = Str.join bl1 (if kd = Str.ofString "put off" then _ else _)
    split
    · rename_i h
      rw [h]
      have e : Str.ofString "put off" = Str.join bl1 [Str.ofString "put", Str.ofString "off"] := by decide +kernel
      rw [e]
      exact join_join bl1 [Str.ofString "put", Str.ofString "off"] (ns.map num) (List.cons_ne_nil _ _)
    · rfl
  | _ => rfl
theorem num_free {i : Int} (h0 : 0 ≤ i) (h1 : i < 10 ^ 10) : 32 ∉ (num i).cps.toList := fun z => by
  have := (num_b h0 h1).1
  simp only [isNumB, Bool.and_eq_true] at this
  have := List.all_eq_true.mp this.2.2.1 32 z
  revert this; decide
theorem dWords_free {d : Deed} (o : DOk d) : ∀ w ∈ dWords d, 32 ∉ w.cps.toList := by
  have lit : ∀ x ∈ ([Str.ofString "matter", sl1, Str.ofString "mend", Str.ofString "change", kn 0, kn 1, kn 2, Str.ofString "point", Str.ofString "put", Str.ofString "off", Str.ofString "vote", Str.ofString "take", Str.ofString "close", Str.ofString "lay", Str.ofString "rest", Str.ofString "drop"] : List Str), 32 ∉ x.cps.toList := by decide +kernel
  cases d with
  | mat cs =>
    intro w hw
    have hw' : w ∈ Str.ofString "matter" :: cs.flatMap (fun ws => sl1 :: ws) := hw
    rcases List.mem_cons.mp hw' with rfl | hw'
    · exact lit _ (by simp)
    · obtain ⟨ws, h1, h2⟩ := List.mem_flatMap.mp hw'
      rcases List.mem_cons.mp h2 with rfl | h2
      · exact lit _ (by simp)
      · exact ((o.2 ws h1).wd w h2).free
  | ed m k i ws =>
    obtain ⟨o1, ⟨i0, i1⟩, o3, _⟩ := o
    intro w hw
    have hw' : w ∈ kEd m :: kn k :: num i :: (if k = 1 then [] else ws) := hw
    rcases List.mem_cons.mp hw' with rfl | hw'
    · cases m <;> exact lit _ (by simp [kEd])
    rcases List.mem_cons.mp hw' with rfl | hw'
    · rcases o1 with rfl | rfl | rfl <;> exact lit _ (by simp)
    rcases List.mem_cons.mp hw' with rfl | hw'
    · exact num_free i0 i1
    split at hw'
    · cases hw'
    · exact (o3.wd w hw').free
  | pt ws =>
    intro w hw
    have hw' : w ∈ Str.ofString "point" :: ws := hw
    rcases List.mem_cons.mp hw' with rfl | hw'
    · exact lit _ (by simp)
    · exact (o.wd w hw').free
  | nums kd ns =>
    obtain ⟨o1, o2⟩ := o
    intro w hw
    have nf : ∀ w ∈ ns.map num, 32 ∉ w.cps.toList := fun w hw => by
      obtain ⟨i, hi, rfl⟩ := List.mem_map.mp hw
      exact num_free (o2 i hi).1 (o2 i hi).2
    have hw' : w ∈ (if kd = Str.ofString "put off" then Str.ofString "put" :: Str.ofString "off" :: ns.map num else kd :: ns.map num) := hw
    split at hw'
    · rcases List.mem_cons.mp hw' with rfl | hw'
      · exact lit _ (by simp)
      rcases List.mem_cons.mp hw' with rfl | hw'
      · exact lit _ (by simp)
      · exact nf w hw'
    · rename_i hk
      rcases List.mem_cons.mp hw' with rfl | hw'
      · simp only [numKinds, List.mem_cons, List.not_mem_nil, or_false, Prod.mk.injEq] at o1
        rcases o1 with ⟨rfl, _⟩ | ⟨rfl, _⟩ | ⟨rfl, _⟩ | ⟨rfl, _⟩ | ⟨rfl, _⟩ | ⟨rfl, _⟩ | ⟨rfl, _⟩
        · exact absurd rfl hk
        all_goals exact lit _ (by simp)
      · exact nf w hw'
theorem split_row {d : Deed} (o : DOk d) : Txt.split (dRow d) bl1 = dWords d := by
  rw [dRow_words, bl1_eq]
  refine split_join ?_ (dWords_free o)
  cases d with
  | nums kd ns =>
    show (if kd = Str.ofString "put off" then _ else _) ≠ []
    split <;> exact List.cons_ne_nil _ _
  | _ => exact List.cons_ne_nil _ _
theorem clauses_words : ∀ (ws : List Str) (acc : List (List Str)) (c rest : List Str), (∀ w ∈ ws, w ≠ sl1) → True → ∀ tl : List Str, clausesOf (acc ++ [c]) (ws ++ tl) = clausesOf (acc ++ [c ++ ws]) tl
  | [], acc, c, _, _, _, tl => by simp
  | w :: ws, acc, c, r, h, _, tl => by
    show clausesOf (acc ++ [c]) (w :: (ws ++ tl)) = _
    rw [clausesOf, if_neg (h w List.mem_cons_self), if_neg (by simp)]
    have e1 : (acc ++ [c]).dropLast = acc := by simp
    have e2 : (acc ++ [c]).getLastD [] = c := by simp
    rw [e1, e2, clauses_words ws acc (c ++ [w]) r (fun x hx => h x (List.mem_cons_of_mem _ hx)) trivial tl]
    simp
theorem clauses_back : ∀ (cs acc : List (List Str)), (∀ ws ∈ cs, ∀ w ∈ ws, w ≠ sl1) → clausesOf acc (cs.flatMap fun ws => sl1 :: ws) = some (acc ++ cs)
  | [], acc, _ => by simp [clausesOf]
  | ws :: cs, acc, h => by
    rw [List.flatMap_cons]
    show clausesOf acc (sl1 :: (ws ++ cs.flatMap fun ws => sl1 :: ws)) = _
    rw [clausesOf, if_pos rfl, clauses_words ws acc [] [] (h ws List.mem_cons_self) trivial, clauses_back cs _ fun x hx => h x (List.mem_cons_of_mem _ hx)]
    simp
theorem lone_read {kd : Str} (h : kd ∈ lone) (r : ¬ kd = Str.ofString "matter" ∧ ¬ kd = Str.ofString "change" ∧ ¬ kd = Str.ofString "mend" ∧ ¬ kd = Str.ofString "put" ∧ ¬ kd = Str.ofString "point")
    (r2 : ¬ kd = Str.ofString "vote" ∧ ¬ kd = Str.ofString "take") : readD [kd] = some (.nums kd []) := by
  rw [readD, if_neg r.1, if_neg r.2.1, if_neg r.2.2.1, if_neg r.2.2.2.1, if_neg r.2.2.2.2, if_neg r2.1, if_neg r2.2, if_pos ⟨h, rfl⟩]
theorem read_back {d : Deed} (o : DOk d) (so : SitOk d) : readD (dWords d) = some (norm d) := by
  have k1 : ¬ Str.ofString "change" = Str.ofString "matter" := by decide +kernel
  have k2 : ¬ Str.ofString "mend" = Str.ofString "matter" ∧ ¬ Str.ofString "mend" = Str.ofString "change" := by decide +kernel
  have k3 : ¬ Str.ofString "put" = Str.ofString "matter" ∧ ¬ Str.ofString "put" = Str.ofString "change" ∧ ¬ Str.ofString "put" = Str.ofString "mend" := by decide +kernel
  have k4 : ¬ Str.ofString "point" = Str.ofString "matter" ∧ ¬ Str.ofString "point" = Str.ofString "change" ∧ ¬ Str.ofString "point" = Str.ofString "mend" ∧ ¬ Str.ofString "point" = Str.ofString "put" := by decide +kernel
  have rest : ∀ kd ∈ ([Str.ofString "vote", Str.ofString "take", Str.ofString "close", Str.ofString "lay", Str.ofString "rest", Str.ofString "drop"] : List Str), ¬ kd = Str.ofString "matter" ∧ ¬ kd = Str.ofString "change" ∧ ¬ kd = Str.ofString "mend" ∧ ¬ kd = Str.ofString "put" ∧ ¬ kd = Str.ofString "point" := by decide +kernel
  cases d with
  | mat cs =>
    show readD (Str.ofString "matter" :: cs.flatMap fun ws => sl1 :: ws) = some (.mat cs)
    rw [readD, if_pos rfl]
    unfold readText
    rw [clauses_back cs [] fun ws hw w h => ((o.2 ws hw).wd w h).ns, Option.bind_some, if_pos]
    · rfl
    · exact List.all_eq_true.mpr fun c hc => words_b (o.2 c (by simpa using hc)).wd
  | ed m k i ws =>
    obtain ⟨o1, ⟨i0, i1⟩, o3, o4⟩ := o
    obtain ⟨n1, n2⟩ := num_b i0 i1
    have re : readEdit (kn k :: num i :: (if k = 1 then [] else ws)) = some (k, i, if k = 1 then [] else ws) := by
      rw [readEdit, if_pos n1, n2]
      rcases o1 with rfl | rfl | rfl
      · rw [if_neg kn_ne.1, if_neg (show ¬ (0 = 1) by decide), if_pos (show (kn 0 = kn 0 ∨ kn 0 = kn 2) ∧ ws.all isWordB = true from ⟨.inl rfl, words_b o3.wd⟩), if_pos rfl]
      · rw [if_pos rfl]; rfl
      · rw [if_neg kn_ne.2.1, if_neg (show ¬ (2 = 1) by decide), if_pos (show (kn 2 = kn 0 ∨ kn 2 = kn 2) ∧ ws.all isWordB = true from ⟨.inr rfl, words_b o3.wd⟩), if_neg (Ne.symm kn_ne.2.2)]
    show readD (kEd m :: kn k :: num i :: (if k = 1 then [] else ws)) = some (.ed m k i (if k = 1 then [] else ws))
    cases m with
    | false =>
      show readD (Str.ofString "change" :: _) = _
      rw [readD, if_neg k1, if_pos rfl, re]; rfl
    | true =>
      show readD (Str.ofString "mend" :: _) = _
      rw [readD, if_neg k2.1, if_neg k2.2, if_pos rfl]
      unfold readMend
      rw [re, Option.bind_some, if_pos]
      · rfl
      · by_cases hk : k = 1
        · exact .inl hk
        · right
          rw [if_neg hk]
          have := o4 rfl
          simp [this]
  | pt ws =>
    show readD (Str.ofString "point" :: ws) = some (.pt ws)
    rw [readD, if_neg k4.1, if_neg k4.2.1, if_neg k4.2.2.1, if_neg k4.2.2.2, if_pos rfl, if_pos (words_b o.wd)]
  | nums kd ns =>
    obtain ⟨o1, o2⟩ := o
    show readD (if kd = Str.ofString "put off" then Str.ofString "put" :: Str.ofString "off" :: ns.map num else kd :: ns.map num) = some (.nums kd ns)
    simp only [numKinds, List.mem_cons, List.not_mem_nil, or_false, Prod.mk.injEq] at o1
    rcases o1 with ⟨rfl, hl⟩ | ⟨rfl, hl⟩ | ⟨rfl, hl⟩ | ⟨rfl, hl⟩ | ⟨rfl, hl⟩ | ⟨rfl, hl⟩ | ⟨rfl, hl⟩
    · obtain ⟨n, rfl⟩ := List.length_eq_one_iff.mp hl
      obtain ⟨b1, b2⟩ := num_b (o2 n (by simp)).1 (o2 n (by simp)).2
      obtain ⟨s1, s2⟩ := so rfl n (by simp)
      rw [if_pos rfl, readD, if_neg k3.1, if_neg k3.2.1, if_neg k3.2.2, if_pos rfl]
      show (readSit [Str.ofString "off", num n]).map _ = _
      rw [readSit, b2, if_pos ⟨rfl, b1, s1, s2⟩]; rfl
    · obtain ⟨a, b, rfl⟩ : ∃ x n, ns = [x, n] := by
        match ns, hl with
        | [x, n], _ => exact ⟨x, n, rfl⟩
      obtain ⟨b1, b2⟩ := num_b (o2 a (by simp)).1 (o2 a (by simp)).2
      obtain ⟨c1, c2⟩ := num_b (o2 b (by simp)).1 (o2 b (by simp)).2
      obtain ⟨r1, r2, r3, r4, r5⟩ := rest (Str.ofString "vote") (by simp)
      rw [if_neg (by decide +kernel), readD, if_neg r1, if_neg r2, if_neg r3, if_neg r4, if_neg r5, if_pos rfl]
      show readVote [num a, num b] = _
      rw [readVote, b2, c2, if_pos ⟨b1, c1⟩]
    · obtain ⟨n, rfl⟩ := List.length_eq_one_iff.mp hl
      obtain ⟨b1, b2⟩ := num_b (o2 n (by simp)).1 (o2 n (by simp)).2
      obtain ⟨r1, r2, r3, r4, r5⟩ := rest (Str.ofString "take") (by simp)
      rw [if_neg (by decide +kernel), readD, if_neg r1, if_neg r2, if_neg r3, if_neg r4, if_neg r5, if_neg (by decide +kernel), if_pos rfl]
      show readTake [num n] = _
      rw [readTake, b2, if_pos b1]
    all_goals
      obtain rfl := List.length_eq_zero_iff.mp hl
      rw [if_neg (by decide +kernel)]
      exact lone_read (by decide +kernel) (rest _ (by simp)) (by decide +kernel)
theorem row_read {d : Deed} (o : DOk d) (so : SitOk d) : readD (Txt.split (dRow d) bl1) = some (norm d) := by rw [split_row o, read_back o so]
theorem row_inj {d e : Deed} (o : DOk d) (so : SitOk d) (o' : DOk e) (so' : SitOk e) (h : dRow d = dRow e) : dD d = dD e := by
  have h1 := row_read o so
  rw [h, row_read o' so'] at h1
  rw [← dD_norm d, ← dD_norm e, Option.some.inj h1]
theorem dRow_asc {d : Deed} (o : DOk d) : Asc (dRow d) := by
  have e := split_row o
  have hne : ∀ w ∈ dKind d :: dBehind d, Asc w := by
    have lit : ∀ x ∈ ([Str.ofString "matter", sl1, Str.ofString "mend", Str.ofString "change", kn 0, kn 1, kn 2, Str.ofString "point", Str.ofString "put off", Str.ofString "vote", Str.ofString "take", Str.ofString "close", Str.ofString "lay", Str.ofString "rest", Str.ofString "drop"] : List Str), ∀ c ∈ x.cps.toList, c < 128 := by decide +kernel
    have nf : ∀ {i : Int}, 0 ≤ i → i < 10 ^ 10 → Asc (num i) := fun h0 h1 c hc => by
      have := (num_b h0 h1).1
      simp only [isNumB, Bool.and_eq_true] at this
      have := List.all_eq_true.mp this.2.2.1 c hc
      simp only [isDigB, Bool.and_eq_true, decide_eq_true_iff] at this
      omega
    cases d with
    | mat cs =>
      intro w hw
      rcases List.mem_cons.mp hw with rfl | hw'
      · exact lit _ (by simp [dKind])
      · obtain ⟨ws, h1, h2⟩ := List.mem_flatMap.mp hw'
        rcases List.mem_cons.mp h2 with rfl | h2
        · exact lit _ (by simp)
        · exact ((o.2 ws h1).wd w h2).asc
    | ed m k i ws =>
      obtain ⟨o1, ⟨i0, i1⟩, o3, _⟩ := o
      intro w hw
      have hw' : w ∈ kEd m :: kn k :: num i :: (if k = 1 then [] else ws) := hw
      rcases List.mem_cons.mp hw' with rfl | hw'
      · cases m <;> exact lit _ (by simp [kEd])
      rcases List.mem_cons.mp hw' with rfl | hw'
      · rcases o1 with rfl | rfl | rfl <;> exact lit _ (by simp)
      rcases List.mem_cons.mp hw' with rfl | hw'
      · exact nf i0 i1
      split at hw'
      · cases hw'
      · exact (o3.wd w hw').asc
    | pt ws =>
      intro w hw
      rcases List.mem_cons.mp hw with rfl | hw'
      · exact lit _ (by simp [dKind])
      · exact (o.wd w hw').asc
    | nums kd ns =>
      obtain ⟨o1, o2⟩ := o
      intro w hw
      rcases List.mem_cons.mp hw with hk | hw'
      · have o1' := o1
        simp only [numKinds, List.mem_cons, List.not_mem_nil, or_false, Prod.mk.injEq] at o1'
        rw [hk]
        show Asc kd
        rcases o1' with ⟨rfl, _⟩ | ⟨rfl, _⟩ | ⟨rfl, _⟩ | ⟨rfl, _⟩ | ⟨rfl, _⟩ | ⟨rfl, _⟩ | ⟨rfl, _⟩ <;> exact lit _ (by simp)
      · obtain ⟨i, hi, rfl⟩ := List.mem_map.mp hw'
        exact nf (o2 i hi).1 (o2 i hi).2
  exact asc_join (by rw [bl1_eq]; intro c hc; have : c = 32 := by simpa using hc
                     omega) _ hne

/-! ### LAW29 -/
/-! rows by their signs -/
def splitB : List Nat → List (List Nat)
  | [] => [[]]
  | c :: r => if c = 32 then [] :: splitB r else match splitB r with | [] => [[c]] | h :: t => (c :: h) :: t
theorem splitB_ne : ∀ l, splitB l ≠ []
  | [] => List.cons_ne_nil _ _
  | c :: r => by
    unfold splitB
    split
    · exact List.cons_ne_nil _ _
    · split <;> exact List.cons_ne_nil _ _
theorem splitB_free : ∀ l, ∀ w ∈ splitB l, 32 ∉ w
  | [], w, hw => by rw [List.mem_singleton.mp hw]; exact fun z => nomatch z
  | c :: r, w, hw => by
    have ih := splitB_free r
    unfold splitB at hw
    split at hw
    · rcases List.mem_cons.mp hw with rfl | hw
      · exact fun z => nomatch z
      · exact ih w hw
    · rename_i hc
      split at hw
      · rw [List.mem_singleton.mp hw]
        exact fun z => hc (List.mem_singleton.mp z).symm
      · rename_i h t e
        rcases List.mem_cons.mp hw with rfl | hw
        · intro z
          rcases List.mem_cons.mp z with z | z
          · exact hc z.symm
          · exact ih h (by rw [e]; exact List.mem_cons_self) z
        · exact ih w (by rw [e]; exact List.mem_cons_of_mem _ hw)
abbrev ofL (l : List Nat) : Str := ⟨l.toArray⟩
theorem ofL_toList (l : List Nat) : (ofL l).cps.toList = l := by simp
theorem splitB_join : ∀ l, (Str.join ⟨#[32]⟩ ((splitB l).map ofL)).cps.toList = l
  | [] => rfl
  | c :: r => by
    have ih := splitB_join r
    unfold splitB
    split
    · rename_i hc
      cases e : splitB r with
      | nil => exact absurd e (splitB_ne r)
      | cons h t =>
        rw [e] at ih
        rw [List.map_cons, List.map_cons, join_cons2, ofL_toList]
        rw [List.map_cons] at ih
        rw [ih, hc]
        rfl
    · cases e : splitB r with
      | nil => exact absurd e (splitB_ne r)
      | cons h t =>
        rw [e] at ih
        dsimp only
        cases t with
        | nil =>
          have ih' : (ofL h).cps.toList = r := ih
          show (ofL (c :: h)).cps.toList = c :: r
          rw [ofL_toList] at ih' ⊢
          rw [ih']
        | cons h2 t2 =>
          rw [List.map_cons, List.map_cons, join_cons2, ofL_toList] at ih ⊢
          rw [← ih]
          rfl
def wordsB (z : Str) : List Str := (splitB z.cps.toList).map ofL
theorem split_B (z : Str) : Txt.split z bl1 = wordsB z := by
  rw [bl1_eq]
  refine join_inj 32 _ _ (split_ne _ _) (by unfold wordsB; exact fun z => splitB_ne _ (List.map_eq_nil_iff.mp z)) (StrLaws.split_free _ 32) (fun w hw => ?_) ?_
  · obtain ⟨l, hl, rfl⟩ := List.mem_map.mp hw
    rw [ofL_toList]
    exact splitB_free _ l hl
  · rw [StrLaws.join_split]
    refine str_ext ?_
    unfold wordsB
    rw [splitB_join]
/-- a row that is none -/
structure Bad (z : Str) : Prop where
  len : z.length ≤ 100
  asc : Asc z
  no : readD (Txt.split z bl1) = none
theorem bad_of {z : Str} (h : (decide (z.length ≤ 100) && (z.cps.toList.all (fun c => decide (c < 128)) && (readD (wordsB z)).isNone)) = true) : Bad z := by
  simp only [Bool.and_eq_true, decide_eq_true_iff] at h
  obtain ⟨h1, h2, h3⟩ := h
  refine ⟨h1, fun c hc => of_decide_eq_true (List.all_eq_true.mp h2 c hc), ?_⟩
  rw [split_B]
  exact Option.isNone_iff_eq_none.mp h3
def badB (z : Str) : Bool := decide (z.length ≤ 100) && (z.cps.toList.all (fun c => decide (c < 128)) && (readD (wordsB z)).isNone)
def ofStrs (l : List String) : List Str := l.map Str.ofString
def bad0 : List Str := ofStrs ["", "matters / a", "Matter / a", "motion", "amend cut 0", "VOTE 1 0", "laid", "closed", "points a"]
def bad3 : List Str := ofStrs ["change put 0 /", "change turn 1 a / b", "mend put 0 /", "point /", "point a /", "change cut 0 /"]
def bad4 : List Str := ofStrs ["matter a", "matter a / b", "matter -", "matter //", "matter a /"]
def bad5 : List Str := ofStrs ["mend put 0", "mend turn 0", "mend put 0 a b", "mend turn 0 a b c", "mend", "mend put"]
def bad6 : List Str := ofStrs ["change cut 0 a", "mend cut 1 a", "change cut", "change", "change put", "change lay 0", "mend off 3"]
def bad7 : List Str := ofStrs ["put off 0", "put off 1000000000", "put off 9999999999", "put off", "put 3", "put off 3 4"]
def bad8 : List Str := ofStrs ["close 1", "lay a", "rest 2", "drop 1", "take", "take 1 2", "vote 1", "vote 1 2 3", "vote", "off 3"]
def bad9 : List Str := ofStrs [" close", "close ", "matter  / a", "matter / a  b", "vote 1  0", "point a ", "change put 0 a ", "put  off 3"]
def badN : List Str := ofStrs ["00", "01", "-1", "+1", "12345678901", "1_0", "1.0", "x", "0x1", "1e3", "007", "--"]
theorem bads : ∀ z ∈ bad0 ++ (bad3 ++ (bad4 ++ (bad5 ++ (bad6 ++ (bad8 ++ bad9))))), badB z = true := by decide +kernel
theorem bads7 : ∀ z ∈ bad7, badB z = true := by decide +kernel
/-- the rows with a number that is none -/
def numd (n : Str) : List Str := [Str.ofString "change cut " ++ n, (Str.ofString "change put " ++ n) ++ Str.ofString " a b", (Str.ofString "mend turn " ++ n) ++ Str.ofString " a", Str.ofString "take " ++ n,
  (Str.ofString "vote " ++ n) ++ Str.ofString " 0", Str.ofString "vote 0 " ++ n, Str.ofString "put off " ++ n, Str.ofString "mend cut " ++ n]
theorem badsN : ∀ n ∈ badN, ∀ z ∈ numd n, badB z = true := by decide +kernel
def aa : Str := Str.ofString "aaaaaaaaaaaaaaaaaaaaa"
def bad2 : List Str := [Str.ofString "matter / " ++ aa, Str.ofString "change put 0 a " ++ aa, Str.ofString "mend put 0 " ++ aa, (Str.ofString "point b " ++ aa) ++ Str.ofString " c"]
theorem bads2 : ∀ z ∈ bad2, badB z = true := by decide +kernel

/-! ### LAW29B -/
theorem pick {xs : List Str} {vs : List V} (e : vs = xs.map V.str) {i : Int} {n : Nat} (hn : xs.length = n) (h0 : 0 ≤ i) (h1 : i < n) : ∃ z ∈ xs, atI vs i = some (.str z) := by
  obtain ⟨c, hc, hm⟩ := at_ix (xs := vs) (i := i) (n := n) (by rw [e, List.length_map]; exact hn) h0 h1
  rw [e] at hm
  obtain ⟨z, hz, rfl⟩ := List.mem_map.mp hm
  exact ⟨z, hz, hc⟩
theorem badN_len : ∀ n ∈ badN, n.length ≤ 20 := by decide +kernel
theorem bad_in {z : Str} {l : List Str} (h : z ∈ l) (hb : ∀ z ∈ l, badB z = true) : Bad z := bad_of (hb z h)
def spBadN : Sp := fun vs H Q _ => ∃ d : Int, vs = [.int d] ∧ ∀ n H', n ∈ badN → Same H H' → Q (.str n) H'
def spNumd : Sp := fun vs H Q _ => ∃ (n : Str) (d : Int), vs = [.str n, .int d] ∧ n ∈ badN ∧ ∀ z H', z ∈ numd n → Same H H' → Q (.str z) H'
def spBad : Sp := fun vs H Q _ => ∃ (wy d : Int), vs = [.int wy, .int d] ∧ 0 ≤ wy ∧ wy < 10 ∧ ∀ z H', Bad z → Same H H' → Q (.str z) H'
def spAnother (A : Adr) : Sp := fun vs H Q _ => ∃ (ea d : Addr) (fs : List (Str × V)), vs = [.ref ea] ∧ H ea = some (xo ea (.ref A.C_NoRow) (some d)) ∧ H d = some (.xd fs) ∧ ∀ H', Same H H' → Q (.bl false) H'
def spRefused : Sp := fun vs H Q _ => ∃ z : Str, vs = [.str z] ∧ Bad z ∧ ∀ H', Same H H' → Q (.bl true) H'
def spWhole : Sp := fun vs H Q _ => ∃ n : Int, vs = [.int n] ∧ Q (.bl true) H
section
variable {P : Program} {w : World} {K : PySem.W.Frag} {mg : Str → Option Value} {base : Heap} {A : Adr}
theorem ok_l_whole (T : Txt K mg A) : FnOk P w K mg base CX0 1 A.l_whole A.fd_l_whole ["_law_found"] spWhole := by
  refine T.F_l_whole.ok sc_l_whole (fun vs H Q E h => ?_) (fun cdv A' outer s H vs Q E hr h => ?_)
  · obtain ⟨n, rfl, _⟩ := h
    rfl
  · obtain ⟨n, rfl, q⟩ := h
    refine ⟨_, (pss_one (ps_ret (pe_and (pe_callB call_isi (by rfl) T.n_isinstance bt_isinstance (pa_cons (pv 0) (pa_cons (pe_bltn (v := V.ty "int") rfl T.n_int bt_int rfl) pa_nil))) (pe_one (pe_not (pe_callB call_isi (by rfl) T.n_isinstance bt_isinstance (pa_cons (pv 0) (pa_cons (pe_bltn (v := V.ty "bool") rfl T.n_bool bt_bool rfl) pa_nil)))))))), ?_⟩
    exact ⟨_, rfl, _, _, _, true, rfl, rfl, .int _, rfl, _, rfl, iteT ⟨_, rfl, _, _, _, false, rfl, rfl, .int _, rfl, _, rfl, q⟩⟩
theorem ok_l_bad_number (T : Txt K mg A) : FnOk P w K mg base CX0 1 A.l_bad_number A.fd_l_bad_number ["_law_draw"] spBadN := by
  refine T.F_l_bad_number.ok sc_l_bad_number (fun vs H Q E h => ?_) (fun cdv A' outer s H vs Q E hr h => ?_)
  · obtain ⟨d, rfl, _⟩ := h
    rfl
  · obtain ⟨d, rfl, q⟩ := h
    refine ⟨_, (pss_cons (ps_set (i := 1) sc_l_bad_number.nd rfl (Or.inl rfl) (pe_lst (pa_cons pe_str (pa_cons pe_str (pa_cons pe_str (pa_cons pe_str (pa_cons pe_str (pa_cons pe_str (pa_cons pe_str (pa_cons pe_str (pa_cons pe_str (pa_cons pe_str (pa_cons pe_str (pa_cons pe_str pa_nil))))))))))))))
  (pss_one (ps_ret (pe_ix ix_list (pv 1) (pe_op op_mod (pv 0) pe_int) (fun _ _ => rfl))))), ?_⟩
    refine ⟨(by show 12 ≤ sizeLine; decide), fun p hp => ?_⟩
    obtain ⟨z, hz, hv⟩ := pick (xs := badN) (vs := badN.map V.str) rfl (i := d % 12) (n := 12) rfl (by omega) (by omega)
    exact ⟨_, rfl, _, rfl, _, _, rfl, rfl, (by show (0 : Int) < 12; decide), p, badN.map V.str, _, _, rfl, rfl, SqL.of upd_same, hv, q z _ hz (same_new hp)⟩
theorem ok_l_numbered (T : Txt K mg A) : FnOk P w K mg base CX0 1 A.l_numbered A.fd_l_numbered ["_law_number", "_law_draw"] spNumd := by
  refine T.F_l_numbered.ok sc_l_numbered (fun vs H Q E h => ?_) (fun cdv A' outer s H vs Q E hr h => ?_)
  · obtain ⟨n, d, rfl, _⟩ := h
    rfl
  · obtain ⟨n, d, rfl, hn, q⟩ := h
    refine ⟨_, (pss_cons (ps_set (i := 2) sc_l_numbered.nd rfl (Or.inl rfl) (pe_lst (pa_cons (pe_op op_add_str pe_str (pv 0)) (pa_cons (pe_op op_add_str (pe_op op_add_str pe_str (pv 0)) pe_str) (pa_cons (pe_op op_add_str (pe_op op_add_str pe_str (pv 0)) pe_str) (pa_cons (pe_op op_add_str pe_str (pv 0)) pa_nil))))))
  (pss_cons (ps_set (i := 2) sc_l_numbered.nd rfl (Or.inl rfl) (pe_op op_catQ (pv 2) (pe_lst (pa_cons (pe_op op_add_str (pe_op op_add_str pe_str (pv 0)) pe_str) (pa_cons (pe_op op_add_str pe_str (pv 0)) (pa_cons (pe_op op_add_str pe_str (pv 0)) (pa_cons (pe_op op_add_str pe_str (pv 0)) pa_nil)))))))
  (pss_one (ps_ret (pe_ix ix_list (pv 2) (pe_op op_mod (pv 1) pe_int) (fun _ _ => rfl)))))), ?_⟩
    have sz : sizeLine = 16777216 := by decide
    have nl := badN_len n hn
    have l1 : (Str.ofString "change cut ").length = 11 := by decide +kernel
    have l2 : (Str.ofString "change put ").length = 11 := by decide +kernel
    have l3 : (Str.ofString " a b").length = 4 := by decide +kernel
    have l4 : (Str.ofString "mend turn ").length = 10 := by decide +kernel
    have l5 : (Str.ofString " a").length = 2 := by decide +kernel
    have l6 : (Str.ofString "take ").length = 5 := by decide +kernel
    have l7 : (Str.ofString "vote ").length = 5 := by decide +kernel
    have l8 : (Str.ofString " 0").length = 2 := by decide +kernel
    have l9 : (Str.ofString "vote 0 ").length = 7 := by decide +kernel
    have la : (Str.ofString "put off ").length = 8 := by decide +kernel
    have lb : (Str.ofString "mend cut ").length = 9 := by decide +kernel
    refine ⟨_, rfl, _, _, rfl, rfl, by omega, _, rfl, _, _, rfl, rfl, by omega, _, _, rfl, rfl, by rw [len_app]; omega, _, rfl, _, _, rfl, rfl, by omega, _, _, rfl, rfl, by rw [len_app]; omega, _, rfl, _, _, rfl, rfl, by omega, (by show 4 ≤ sizeLine; decide), fun p hp => ?_⟩
    refine ⟨_, rfl, _, rfl, _, _, rfl, rfl, by omega, _, _, rfl, rfl, by rw [len_app]; omega, _, rfl, _, _, rfl, rfl, by omega, _, rfl, _, _, rfl, rfl, by omega, _, rfl, _, _, rfl, rfl, by omega, (by show 4 ≤ sizeLine; decide), fun p2 hp2 => ?_⟩
    have np : p ≠ p2 := ne_of_none upd_same hp2
    refine ⟨p, p2, _, _, rfl, rfl, (upd_ne np).trans upd_same, upd_same, (by show 8 ≤ sizeLine; decide), fun p3 hp3 => ?_⟩
    obtain ⟨z, hz, hv⟩ := pick (xs := numd n) (vs := (numd n).map V.str) rfl (i := d % 8) (n := 8) rfl (by omega) (by omega)
    exact ⟨_, rfl, _, rfl, _, _, rfl, rfl, (by show (0 : Int) < 8; decide), p3, (numd n).map V.str, _, _, rfl, rfl, SqL.of upd_same, hv, q z _ hz (((same_new hp).new hp2).new hp3)⟩
theorem ok_l_bad (T : Txt K mg A) : FnOk P w K mg base CX0 2 A.l_bad A.fd_l_bad ["_law_way", "_law_draw"] spBad := by
  have G_l_bad_number : FnOk P w K mg base CX0 1 A.l_bad_number A.fd_l_bad_number ["_law_draw"] spBadN := ok_l_bad_number T
  have G_l_numbered : FnOk P w K mg base CX0 1 A.l_numbered A.fd_l_numbered ["_law_number", "_law_draw"] spNumd := ok_l_numbered T
  refine T.F_l_bad.ok sc_l_bad (fun vs H Q E h => ?_) (fun cdv A' outer s H vs Q E hr h => ?_)
  · obtain ⟨wy, d, rfl, _⟩ := h
    rfl
  · obtain ⟨wy, d, rfl, w0, w1, q⟩ := h
    have hr_l_bad_number := hr
    have hr_l_numbered := hr
    refine ⟨_, (pss_cons (ps_if (pt_cmpR op_eq (pv 0) pe_int (nomark _))
  (pss_cons (ps_set (i := 2) sc_l_bad.nd rfl (Or.inl rfl) (pe_lst (pa_cons pe_str (pa_cons pe_str (pa_cons pe_str (pa_cons pe_str (pa_cons pe_str (pa_cons pe_str (pa_cons pe_str (pa_cons pe_str (pa_cons pe_str pa_nil)))))))))))
  (pss_one (ps_ret (pe_ix ix_list (pv 2) (pe_op op_mod (pv 1) pe_int) (fun _ _ => rfl)))))
  pss_nil)
  (pss_cons (ps_if (pt_cmpR op_eq (pv 0) pe_int (nomark _))
  (pss_one (ps_ret (pe_call G_l_numbered hr_l_numbered rfl T.g_l_numbered T.F_l_numbered.kp T.b_l_numbered .nil pass0 (pa_cons (pe_call G_l_bad_number hr_l_bad_number rfl T.g_l_bad_number T.F_l_bad_number.kp T.b_l_bad_number .nil pass0 (pa_cons (pv 1) pa_nil)) (pa_cons (pe_op op_fdiv (pv 1) pe_int) pa_nil)))))
  pss_nil)
  (pss_cons (ps_if (pt_cmpR op_eq (pv 0) pe_int (nomark _))
  (pss_cons (ps_set (i := 3) sc_l_bad.nd rfl (Or.inl rfl) (pe_op op_mul_str pe_str pe_int))
  (pss_cons (ps_set (i := 2) sc_l_bad.nd rfl (Or.inl rfl) (pe_lst (pa_cons (pe_op op_add_str pe_str (pv 3)) (pa_cons (pe_op op_add_str pe_str (pv 3)) (pa_cons (pe_op op_add_str pe_str (pv 3)) (pa_cons (pe_op op_add_str (pe_op op_add_str pe_str (pv 3)) pe_str) pa_nil))))))
  (pss_one (ps_ret (pe_ix ix_list (pv 2) (pe_op op_mod (pv 1) pe_int) (fun _ _ => rfl))))))
  pss_nil)
  (pss_cons (ps_if (pt_cmpR op_eq (pv 0) pe_int (nomark _))
  (pss_cons (ps_set (i := 2) sc_l_bad.nd rfl (Or.inl rfl) (pe_lst (pa_cons pe_str (pa_cons pe_str (pa_cons pe_str (pa_cons pe_str (pa_cons pe_str (pa_cons pe_str pa_nil))))))))
  (pss_one (ps_ret (pe_ix ix_list (pv 2) (pe_op op_mod (pv 1) pe_int) (fun _ _ => rfl)))))
  pss_nil)
  (pss_cons (ps_if (pt_cmpR op_eq (pv 0) pe_int (nomark _))
  (pss_one (ps_ret (pe_ix ix_list (pe_lst (pa_cons pe_str (pa_cons pe_str (pa_cons pe_str (pa_cons pe_str (pa_cons pe_str pa_nil)))))) (pe_op op_mod (pv 1) pe_int) (fun _ _ => rfl))))
  pss_nil)
  (pss_cons (ps_if (pt_cmpR op_eq (pv 0) pe_int (nomark _))
  (pss_one (ps_ret (pe_ix ix_list (pe_lst (pa_cons pe_str (pa_cons pe_str (pa_cons pe_str (pa_cons pe_str (pa_cons pe_str (pa_cons pe_str pa_nil))))))) (pe_op op_mod (pv 1) pe_int) (fun _ _ => rfl))))
  pss_nil)
  (pss_cons (ps_if (pt_cmpR op_eq (pv 0) pe_int (nomark _))
  (pss_cons (ps_set (i := 2) sc_l_bad.nd rfl (Or.inl rfl) (pe_lst (pa_cons pe_str (pa_cons pe_str (pa_cons pe_str (pa_cons pe_str (pa_cons pe_str (pa_cons pe_str (pa_cons pe_str pa_nil)))))))))
  (pss_one (ps_ret (pe_ix ix_list (pv 2) (pe_op op_mod (pv 1) pe_int) (fun _ _ => rfl)))))
  pss_nil)
  (pss_cons (ps_if (pt_cmpR op_eq (pv 0) pe_int (nomark _))
  (pss_one (ps_ret (pe_ix ix_list (pe_lst (pa_cons pe_str (pa_cons pe_str (pa_cons pe_str (pa_cons pe_str (pa_cons pe_str (pa_cons pe_str pa_nil))))))) (pe_op op_mod (pv 1) pe_int) (fun _ _ => rfl))))
  pss_nil)
  (pss_cons (ps_if (pt_cmpR op_eq (pv 0) pe_int (nomark _))
  (pss_cons (ps_set (i := 2) sc_l_bad.nd rfl (Or.inl rfl) (pe_lst (pa_cons pe_str (pa_cons pe_str (pa_cons pe_str (pa_cons pe_str (pa_cons pe_str (pa_cons pe_str (pa_cons pe_str (pa_cons pe_str (pa_cons pe_str (pa_cons pe_str pa_nil))))))))))))
  (pss_one (ps_ret (pe_ix ix_list (pv 2) (pe_op op_mod (pv 1) pe_int) (fun _ _ => rfl)))))
  pss_nil)
  (pss_cons (ps_set (i := 2) sc_l_bad.nd rfl (Or.inl rfl) (pe_lst (pa_cons pe_str (pa_cons pe_str (pa_cons pe_str (pa_cons pe_str (pa_cons pe_str (pa_cons pe_str (pa_cons pe_str pa_nil)))))))))
  (pss_one (ps_ret (pe_ix ix_list (pe_op op_catQ (pv 2) (pe_lst (pa_cons pe_str pa_nil))) (pe_op op_mod (pv 1) pe_int) (fun _ _ => rfl)))))))))))))), ?_⟩
    have sz : sizeLine = 16777216 := by decide
    have inb : ∀ {z : Str} {l : List Str}, z ∈ l → (∀ x ∈ l, x ∈ bad0 ++ (bad3 ++ (bad4 ++ (bad5 ++ (bad6 ++ (bad8 ++ bad9)))))) → Bad z := fun h hs => bad_of (bads _ (hs _ h))
    refine ⟨_, rfl, rfl, _, rfl, ite2 (fun _ => ?_) (fun e0 => ?_)⟩
    · refine ⟨(by show 9 ≤ sizeLine; decide), fun p hp => ?_⟩
      obtain ⟨z, hz, hv⟩ := pick (xs := bad0) (vs := bad0.map V.str) rfl (i := d % 9) (n := 9) rfl (by omega) (by omega)
      exact ⟨_, rfl, _, rfl, _, _, rfl, rfl, (by show (0 : Int) < 9; decide), p, bad0.map V.str, _, _, rfl, rfl, SqL.of upd_same, hv, q z _ (inb hz (fun x h => by simp [h])) (same_new hp)⟩
    refine ⟨_, rfl, rfl, _, rfl, ite2 (fun _ => ?_) (fun e1 => ?_)⟩
    · refine ⟨_, rfl, _, rfl, fun n H2 hn s2 => ⟨_, rfl, _, _, rfl, rfl, ⟨by decide, by decide⟩, n, _, rfl, hn, fun z H3 hz s3 => q z H3 (bad_of (badsN n hn z hz)) (s2.trans s3)⟩⟩
    refine ⟨_, rfl, rfl, _, rfl, ite2 (fun _ => ?_) (fun e2 => ?_)⟩
    · have mo : PySem.MulOk (Str.ofString "a") 21 := by
        refine ⟨by decide, fun _ _ => ?_, fun _ _ => ?_⟩
        · have : (Str.ofString "a").length = 1 := by decide +kernel
          rw [this]; decide
        · have : (Str.ofString "a").length = 1 := by decide +kernel
          rw [this]; decide +kernel
      have ea : Txt.mul (Str.ofString "a") 21 = aa := by decide +kernel
      have al : aa.length = 21 := by decide +kernel
      have l1 : (Str.ofString "matter / ").length = 9 := by decide +kernel
      have l2 : (Str.ofString "change put 0 a ").length = 15 := by decide +kernel
      have l3 : (Str.ofString "mend put 0 ").length = 11 := by decide +kernel
      have l4 : (Str.ofString "point b ").length = 8 := by decide +kernel
      have l5 : (Str.ofString " c").length = 2 := by decide +kernel
      refine ⟨_, _, rfl, rfl, mo, ?_⟩
      rw [ea]
      refine ⟨_, rfl, _, _, rfl, rfl, by omega, _, rfl, _, _, rfl, rfl, by omega, _, rfl, _, _, rfl, rfl, by omega, _, rfl, _, _, rfl, rfl, by omega, _, _, rfl, rfl, by rw [len_app]; omega, (by show 4 ≤ sizeLine; decide), fun p hp => ?_⟩
      obtain ⟨z, hz, hv⟩ := pick (xs := bad2) (vs := bad2.map V.str) rfl (i := d % 4) (n := 4) rfl (by omega) (by omega)
      exact ⟨_, rfl, _, rfl, _, _, rfl, rfl, (by show (0 : Int) < 4; decide), p, bad2.map V.str, _, _, rfl, rfl, SqL.of upd_same, hv, q z _ (bad_of (bads2 z hz)) (same_new hp)⟩
    refine ⟨_, rfl, rfl, _, rfl, ite2 (fun _ => ?_) (fun e3 => ?_)⟩
    · refine ⟨(by show 6 ≤ sizeLine; decide), fun p hp => ?_⟩
      obtain ⟨z, hz, hv⟩ := pick (xs := bad3) (vs := bad3.map V.str) rfl (i := d % 6) (n := 6) rfl (by omega) (by omega)
      exact ⟨_, rfl, _, rfl, _, _, rfl, rfl, (by show (0 : Int) < 6; decide), p, bad3.map V.str, _, _, rfl, rfl, SqL.of upd_same, hv, q z _ (inb hz (fun x h => by simp [h])) (same_new hp)⟩
    refine ⟨_, rfl, rfl, _, rfl, ite2 (fun _ => ?_) (fun e4 => ?_)⟩
    · refine ⟨(by show 5 ≤ sizeLine; decide), fun p hp => ?_⟩
      obtain ⟨z, hz, hv⟩ := pick (xs := bad4) (vs := bad4.map V.str) rfl (i := d % 5) (n := 5) rfl (by omega) (by omega)
      exact ⟨_, rfl, _, _, rfl, rfl, (by show (0 : Int) < 5; decide), p, bad4.map V.str, _, _, rfl, rfl, SqL.of upd_same, hv, q z _ (inb hz (fun x h => by simp [h])) (same_new hp)⟩
    refine ⟨_, rfl, rfl, _, rfl, ite2 (fun _ => ?_) (fun e5 => ?_)⟩
    · refine ⟨(by show 6 ≤ sizeLine; decide), fun p hp => ?_⟩
      obtain ⟨z, hz, hv⟩ := pick (xs := bad5) (vs := bad5.map V.str) rfl (i := d % 6) (n := 6) rfl (by omega) (by omega)
      exact ⟨_, rfl, _, _, rfl, rfl, (by show (0 : Int) < 6; decide), p, bad5.map V.str, _, _, rfl, rfl, SqL.of upd_same, hv, q z _ (inb hz (fun x h => by simp [h])) (same_new hp)⟩
    refine ⟨_, rfl, rfl, _, rfl, ite2 (fun _ => ?_) (fun e6 => ?_)⟩
    · refine ⟨(by show 7 ≤ sizeLine; decide), fun p hp => ?_⟩
      obtain ⟨z, hz, hv⟩ := pick (xs := bad6) (vs := bad6.map V.str) rfl (i := d % 7) (n := 7) rfl (by omega) (by omega)
      exact ⟨_, rfl, _, rfl, _, _, rfl, rfl, (by show (0 : Int) < 7; decide), p, bad6.map V.str, _, _, rfl, rfl, SqL.of upd_same, hv, q z _ (inb hz (fun x h => by simp [h])) (same_new hp)⟩
    refine ⟨_, rfl, rfl, _, rfl, ite2 (fun _ => ?_) (fun e7 => ?_)⟩
    · refine ⟨(by show 6 ≤ sizeLine; decide), fun p hp => ?_⟩
      obtain ⟨z, hz, hv⟩ := pick (xs := bad7) (vs := bad7.map V.str) rfl (i := d % 6) (n := 6) rfl (by omega) (by omega)
      exact ⟨_, rfl, _, _, rfl, rfl, (by show (0 : Int) < 6; decide), p, bad7.map V.str, _, _, rfl, rfl, SqL.of upd_same, hv, q z _ (bad_of (bads7 z hz)) (same_new hp)⟩
    refine ⟨_, rfl, rfl, _, rfl, ite2 (fun _ => ?_) (fun e8 => ?_)⟩
    · refine ⟨(by show 10 ≤ sizeLine; decide), fun p hp => ?_⟩
      obtain ⟨z, hz, hv⟩ := pick (xs := bad8) (vs := bad8.map V.str) rfl (i := d % 10) (n := 10) rfl (by omega) (by omega)
      exact ⟨_, rfl, _, rfl, _, _, rfl, rfl, (by show (0 : Int) < 10; decide), p, bad8.map V.str, _, _, rfl, rfl, SqL.of upd_same, hv, q z _ (inb hz (fun x h => by simp [h])) (same_new hp)⟩
    refine ⟨(by show 7 ≤ sizeLine; decide), fun p hp => ⟨_, rfl, (by show 1 ≤ sizeLine; decide), fun p2 hp2 => ?_⟩⟩
    have np : p ≠ p2 := ne_of_none upd_same hp2
    refine ⟨p, p2, _, _, rfl, rfl, (upd_ne np).trans upd_same, upd_same, (by show 8 ≤ sizeLine; decide), fun p3 hp3 => ?_⟩
    obtain ⟨z, hz, hv⟩ := pick (xs := bad9) (vs := bad9.map V.str) rfl (i := d % 8) (n := 8) rfl (by omega) (by omega)
    exact ⟨_, rfl, _, _, rfl, rfl, (by show (0 : Int) < 8; decide), p3, bad9.map V.str, _, _, rfl, rfl, SqL.of upd_same, hv, q z _ (inb hz (fun x h => by simp [h])) (((same_new hp).new hp2).new hp3)⟩
theorem ok_l_another (T : Txt K mg A) : FnOk P w K mg base CX0 1 A.l_another A.fd_l_another ["_law_caught"] (spAnother A) := by
  refine T.F_l_another.ok sc_l_another (fun vs H Q E h => ?_) (fun cdv A' outer s H vs Q E hr h => ?_)
  · obtain ⟨ea, d, fs, rfl, _⟩ := h
    rfl
  · obtain ⟨ea, d, fs, rfl, hx, hd, q⟩ := h
    refine ⟨_, (pss_cons (ps_set (i := 1) sc_l_another.nd rfl (Or.inl rfl) (pe_lst (pa_cons (pe_callB call_isiXD (by rfl) T.n_isinstance bt_isinstance (pa_cons (pv 0) (pa_cons (pe_glob (v := V.ref A.C_NoFit) rfl T.g_NoFit rfl) pa_nil))) (pa_cons (pe_callB call_isiXD (by rfl) T.n_isinstance bt_isinstance (pa_cons (pv 0) (pa_cons (pe_glob (v := V.ref A.C_Barred) rfl T.g_Barred rfl) pa_nil))) (pa_cons (pe_callB call_isiXD (by rfl) T.n_isinstance bt_isinstance (pa_cons (pv 0) (pa_cons (pe_glob (v := V.ref A.C_NoMatter) rfl T.g_NoMatter rfl) pa_nil))) pa_nil)))))
  (pss_cons (ps_set (i := 1) sc_l_another.nd rfl (Or.inl rfl) (pe_op op_catQ (pv 1) (pe_lst (pa_cons (pe_callB call_isiXD (by rfl) T.n_isinstance bt_isinstance (pa_cons (pv 0) (pa_cons (pe_glob (v := V.ref A.C_NoChange) rfl T.g_NoChange rfl) pa_nil))) (pa_cons (pe_callB call_isiXD (by rfl) T.n_isinstance bt_isinstance (pa_cons (pv 0) (pa_cons (pe_glob (v := V.ref A.C_NotLater) rfl T.g_NotLater rfl) pa_nil))) (pa_cons (pe_callB call_isiXD (by rfl) T.n_isinstance bt_isinstance (pa_cons (pv 0) (pa_cons (pe_glob (v := V.ref A.C_Nothing) rfl T.g_Nothing rfl) pa_nil))) pa_nil))))))
  (pss_cons (ps_set (i := 1) sc_l_another.nd rfl (Or.inl rfl) (pe_op op_catQ (pv 1) (pe_lst (pa_cons (pe_callB call_isiXD (by rfl) T.n_isinstance bt_isinstance (pa_cons (pv 0) (pa_cons (pe_glob (v := V.ref A.C_TooMany) rfl T.g_TooMany rfl) pa_nil))) (pa_cons (pe_callB call_isiXD (by rfl) T.n_isinstance bt_isinstance (pa_cons (pv 0) (pa_cons (pe_glob (v := V.ref A.C_NoAside) rfl T.g_NoAside rfl) pa_nil))) (pa_cons (pe_callB call_isiXD (by rfl) T.n_isinstance bt_isinstance (pa_cons (pv 0) (pa_cons (pe_glob (v := V.ref A.C_NotYet) rfl T.g_NotYet rfl) pa_nil))) pa_nil))))))
  (pss_one (ps_ret (pe_or (pe_callB (call_any rfl) (by rfl) T.n_any bt_any (pa_cons (pv 1) pa_nil)) (pe_or (pe_callB call_isiXD (by rfl) T.n_isinstance bt_isinstance (pa_cons (pv 0) (pa_cons (pe_glob (v := V.ref A.C_NoNumber) rfl T.g_NoNumber rfl) pa_nil))) (pe_one (pe_callB call_isiXD (by rfl) T.n_isinstance bt_isinstance (pa_cons (pv 0) (pa_cons (pe_glob (v := V.ref A.C_NoName) rfl T.g_NoName rfl) pa_nil))))))))))), ?_⟩
    have s0 := Same.refl H
    refine ⟨_, rfl, ea, .ref A.C_NoFit, A.C_NoRow, d, fs, false, rfl, rfl, s0 _ _ hx, s0 _ _ hd, T.xt_NoRow, T.xi_NoRow_NoFit, _, rfl, ea, .ref A.C_Barred, A.C_NoRow, d, fs, false, rfl, rfl, s0 _ _ hx, s0 _ _ hd, T.xt_NoRow, T.xi_NoRow_Barred, _, rfl, ea, .ref A.C_NoMatter, A.C_NoRow, d, fs, false, rfl, rfl, s0 _ _ hx, s0 _ _ hd, T.xt_NoRow, T.xi_NoRow_NoMatter, (by show 3 ≤ sizeLine; decide), fun p hp => ?_⟩
    have s1 : Same H (upd H p (.lst [V.bl false, V.bl false, V.bl false])) := same_new hp
    refine ⟨_, rfl, _, rfl, ea, .ref A.C_NoChange, A.C_NoRow, d, fs, false, rfl, rfl, s1 _ _ hx, s1 _ _ hd, T.xt_NoRow, T.xi_NoRow_NoChange, _, rfl, ea, .ref A.C_NotLater, A.C_NoRow, d, fs, false, rfl, rfl, s1 _ _ hx, s1 _ _ hd, T.xt_NoRow, T.xi_NoRow_NotLater, _, rfl, ea, .ref A.C_Nothing, A.C_NoRow, d, fs, false, rfl, rfl, s1 _ _ hx, s1 _ _ hd, T.xt_NoRow, T.xi_NoRow_Nothing, (by show 3 ≤ sizeLine; decide), fun p2 hp2 => ?_⟩
    have np : p ≠ p2 := ne_of_none upd_same hp2
    refine ⟨p, p2, _, _, rfl, rfl, (upd_ne np).trans upd_same, upd_same, (by show 6 ≤ sizeLine; decide), fun p3 hp3 => ?_⟩
    have s3 := (s1.new (o := .lst [V.bl false, V.bl false, V.bl false]) hp2).new (o := .lst ([V.bl false, V.bl false, V.bl false] ++ [V.bl false, V.bl false, V.bl false])) hp3
    refine ⟨_, rfl, _, rfl, ea, .ref A.C_TooMany, A.C_NoRow, d, fs, false, rfl, rfl, s3 _ _ hx, s3 _ _ hd, T.xt_NoRow, T.xi_NoRow_TooMany, _, rfl, ea, .ref A.C_NoAside, A.C_NoRow, d, fs, false, rfl, rfl, s3 _ _ hx, s3 _ _ hd, T.xt_NoRow, T.xi_NoRow_NoAside, _, rfl, ea, .ref A.C_NotYet, A.C_NoRow, d, fs, false, rfl, rfl, s3 _ _ hx, s3 _ _ hd, T.xt_NoRow, T.xi_NoRow_NotYet, (by show 3 ≤ sizeLine; decide), fun p4 hp4 => ?_⟩
    have np4 : p3 ≠ p4 := ne_of_none upd_same hp4
    refine ⟨p3, p4, _, _, rfl, rfl, (upd_ne np4).trans upd_same, upd_same, (by show 9 ≤ sizeLine; decide), fun p5 hp5 => ?_⟩
    have s5 := (s3.new (o := .lst [V.bl false, V.bl false, V.bl false]) hp4).new (o := .lst (([V.bl false, V.bl false, V.bl false] ++ [V.bl false, V.bl false, V.bl false]) ++ [V.bl false, V.bl false, V.bl false])) hp5
    refine ⟨_, rfl, p5, [false, false, false, false, false, false, false, false, false], rfl, SqL.of upd_same, _, rfl, iteF ?_⟩
    exact ⟨_, rfl, ea, .ref A.C_NoNumber, A.C_NoRow, d, fs, false, rfl, rfl, s5 _ _ hx, s5 _ _ hd, T.xt_NoRow, T.xi_NoRow_NoNumber, _, rfl, iteF ⟨_, rfl, ea, .ref A.C_NoName, A.C_NoRow, d, fs, false, rfl, rfl, s5 _ _ hx, s5 _ _ hd, T.xt_NoRow, T.xi_NoRow_NoName, q _ s5⟩⟩
theorem ok_l_refused0 (T : Txt K mg A) : FnOk P w K mg base (CXX P w) 8 A.l_refused A.fd_l_refused ["_law_row"] spRefused := by
  have G_read_deed : FnOk P w K mg base (CXX P w) 7 A.read_deed A.fd_read_deed ["row"] (spRDeed K A) := ok_read_deed T
  have G_l_another : FnOk P w K mg base CX0 1 A.l_another A.fd_l_another ["_law_caught"] (spAnother A) := ok_l_another T
  have G_l_whole : FnOk P w K mg base CX0 1 A.l_whole A.fd_l_whole ["_law_found"] spWhole := ok_l_whole T
  refine T.F_l_refused.okX sc_l_refused (fun vs H Q E h => ?_) (fun cdv A' outer s H vs Q E hr h => ?_)
  · obtain ⟨z, rfl, _⟩ := h
    rfl
  · obtain ⟨z, rfl, b, q⟩ := h
    have hr_read_deed := hr
    have hr_l_another : Room 1 _ := hr.mono (by decide)
    have hr_l_whole : Room 1 _ := hr.mono (by decide)
    refine ⟨_, (psxs_cons (psx (ps_set (i := 1) sc_l_refused.nd rfl (Or.inl rfl) pe_non))
  (psxs_cons (psx_try ⟨rfl, rfl⟩ (psxs_one (psx_expr (pe_callX G_read_deed hr_read_deed rfl T.g_read_deed T.F_read_deed.kp T.b_read_deed (pax (pa_cons (pv 0) pa_nil)))))
  (phx_as (i := 2) sc_l_refused.nd rfl rfl rfl T.g_ChamberError (fun _ => (pss_one (ps_set (i := 1) sc_l_refused.nd rfl (Or.inl rfl) (pv 2)))) (phx_nil ⟨rfl, rfl⟩)))
  (psxs_cons (psx (ps_if (PW.pt (pw_or (pt_not (pt_val (pe_callB call_isiXD (by rfl) T.n_isinstance bt_isinstance (pa_cons (pv 1) (pa_cons (pe_glob (v := V.ref A.C_NoRow) rfl T.g_NoRow rfl) pa_nil))))) (pw_or1 (pt_not (pt_val (pe_callB call_isiXD (by rfl) T.n_isinstance bt_isinstance (pa_cons (pv 1) (pa_cons (pe_bltn (v := V.ty "ValueError") rfl T.n_ValueError bt_ValueError rfl) pa_nil))))))))
  (pss_one (ps_ret pe_bl))
  pss_nil))
  (psxs_cons (psx (ps_if (pt_val (pe_call G_l_another hr_l_another rfl T.g_l_another T.F_l_another.kp T.b_l_another .nil pass0 (pa_cons (pv 1) pa_nil)))
  (pss_one (ps_ret pe_bl))
  pss_nil))
  (psxs_one (psx (ps_ret (pe_and (pe_call G_l_whole hr_l_whole rfl T.g_l_whole T.F_l_whole.kp T.b_l_whole .nil pass0 (pa_cons (pe_xfld (pv 1) rfl) pa_nil)) (pe_one (pe_cmpR op_eq (pe_xfld (pv 1) rfl) pe_int (nomark _))))))))))), ?_⟩
    have bl := b.len
    refine ⟨_, rfl, z, rfl, by omega, b.asc, fun d ed => absurd (b.no.symm.trans ed) (fun z => nomatch z), fun _ d H2 s2 hd => ?_⟩
    refine ⟨true, T.xm_NoRow_ChamberError, iteT fun ea hea => ?_⟩
    have nde : d ≠ ea := ne_of_none hd hea
    have s3 : Same H (upd H2 ea (xo ea (.ref A.C_NoRow) (some d))) := s2.new hea
    have hx : upd H2 ea (xo ea (.ref A.C_NoRow) (some d)) ea = some (xo ea (.ref A.C_NoRow) (some d)) := upd_same
    have hd3 : upd H2 ea (xo ea (.ref A.C_NoRow) (some d)) d = some (.xd [("row", .int 1)]) := (upd_ne nde).trans hd
    generalize upd H2 ea (xo ea (.ref A.C_NoRow) (some d)) = H3 at s3 hx hd3 ⊢
    refine ⟨_, rfl, ?_⟩
    refine ⟨_, rfl, ea, .ref A.C_NoRow, A.C_NoRow, d, _, true, rfl, rfl, hx, hd3, T.xt_NoRow, T.xi_NoRow_NoRow, _, rfl, iteF ?_⟩
    refine ⟨_, rfl, ea, .ty "ValueError", A.C_NoRow, d, _, true, rfl, rfl, hx, hd3, T.xt_NoRow, T.xi_NoRow_ValueError, _, rfl, iteF ?_⟩
    refine ⟨_, rfl, ea, d, _, rfl, hx, hd3, fun H4 s4 => ⟨_, rfl, iteF ?_⟩⟩
    have lk : ([(Str.ofString "row", V.int 1)] : List (Str × V)).lookup (Str.ofString "row") = some (V.int 1) := by
      rw [List.lookup_cons]
      rfl
    refine ⟨_, rfl, ea, A.C_NoRow, d, _, .int 1, rfl, s4 _ _ hx, s4 _ _ hd3, T.xr_NoRow, lk, ⟨_, .int (by decide)⟩, 1, rfl, _, rfl, iteT ?_⟩
    exact ⟨_, rfl, ea, A.C_NoRow, d, _, .int 1, rfl, s4 _ _ hx, s4 _ _ hd3, T.xr_NoRow, lk, ⟨_, .int (by decide)⟩, rfl, q H4 (s3.trans s4)⟩
theorem ok_l_refused (T : Txt K mg A) : FnOk P w K mg base CX0 8 A.l_refused A.fd_l_refused ["_law_row"] spRefused := (ok_l_refused0 T).calm fun _ _ _ _ h => h
/-- a good row and its deed -/
def GoodAt (K : PySem.W.Frag) (H : Hp) (p : Addr) : Prop := ∃ d t, H p = some (.tup [.str (dRow d), .ref t]) ∧ DeedAt K H d t ∧ DOk d ∧ SitOk d
theorem GoodAt.same {H H' : Hp} {p : Addr} (s : Same H H') (h : GoodAt K H p) : GoodAt K H' p := by
  obtain ⟨d, t, a, b, c⟩ := h
  exact ⟨d, t, s _ _ a, b.same s, c⟩
theorem GoodAt.new {H : Hp} {p r : Addr} {o : HO} (g : GoodAt K H p) (h : H r = none) : GoodAt K (upd H r o) p := g.same (same_new h)
theorem wsOk_nil : WsOk 12 [] := ⟨by decide, fun _ h => nomatch h⟩
theorem good1 : DOk (.nums (Str.ofString "vote") [0, 9999999999]) ∧ SitOk (.nums (Str.ofString "vote") [0, 9999999999]) :=
  ⟨⟨by show (Str.ofString "vote", 2) ∈ numKinds; decide +kernel, fun i hi => by simp at hi; rcases hi with rfl | rfl <;> decide⟩, fun e => absurd e (by decide +kernel)⟩
theorem good3 : DOk (.nums (Str.ofString "take") [0]) ∧ SitOk (.nums (Str.ofString "take") [0]) :=
  ⟨⟨by show (Str.ofString "take", 1) ∈ numKinds; decide +kernel, fun i hi => by simp at hi; rcases hi with rfl; decide⟩, fun e => absurd e (by decide +kernel)⟩
theorem good8 : DOk (.nums (Str.ofString "drop") []) ∧ SitOk (.nums (Str.ofString "drop") []) :=
  ⟨⟨by show (Str.ofString "drop", 0) ∈ numKinds; decide +kernel, fun i hi => nomatch hi⟩, fun e => absurd e (by decide +kernel)⟩
theorem good2 : DOk (.mat []) ∧ SitOk (.mat []) := ⟨⟨by decide, fun _ h => nomatch h⟩, trivial⟩
theorem good4 : DOk (.mat [[]]) ∧ SitOk (.mat [[]]) := ⟨⟨by decide, fun _ h => by rw [List.mem_singleton.mp h]; exact wsOk_nil⟩, trivial⟩
theorem good5 : DOk (.ed false 0 0 []) ∧ SitOk (.ed false 0 0 []) := ⟨⟨.inl rfl, by decide, wsOk_nil, fun z => nomatch z⟩, trivial⟩
theorem good6 : DOk (.pt []) ∧ SitOk (.pt []) := ⟨wsOk_nil, trivial⟩
theorem good7 : DOk (.mat [[Str.ofString "-"], []]) ∧ SitOk (.mat [[Str.ofString "-"], []]) := ⟨⟨by decide, fun ws h => by
  rcases List.mem_cons.mp h with rfl | h
  · exact ⟨by decide, fun w hw => by rw [List.mem_singleton.mp hw]; exact dash_word⟩
  · rw [List.mem_singleton.mp h]; exact wsOk_nil⟩, trivial⟩
theorem rows8 : dRow (.nums (Str.ofString "vote") [0, 9999999999]) = Str.ofString "vote 0 9999999999" ∧ dRow (.mat []) = Str.ofString "matter" ∧ dRow (.nums (Str.ofString "take") [0]) = Str.ofString "take 0" ∧
    dRow (.mat [[]]) = Str.ofString "matter /" ∧ dRow (.ed false 0 0 []) = Str.ofString "change put 0" ∧ dRow (.pt []) = Str.ofString "point" ∧ dRow (.mat [[Str.ofString "-"], []]) = Str.ofString "matter / - /" ∧ dRow (.nums (Str.ofString "drop") []) = Str.ofString "drop" := by decide +kernel
theorem joins : Str.join bl1 [] = Str.ofString "" ∧ Str.join bl1 [Str.ofString "-"] = Str.ofString "-" := by decide +kernel
def spLaw (K : PySem.W.Frag) : Sp := fun vs H Q _ => ∃ (a : Addr) (ns : List Int), vs = [.ref a] ∧ SqL K H a (ns.map V.int) ∧ ns.length ≤ 63 ∧ ∀ H', Q (.bl true) H'
theorem ok_law {f : Addr} {fd : FuncData} (F : Fun K "law" "law" s_law f fd) (T : Txt K mg A) : FnOk P w K mg base CX0 9 f fd ["_law_script"] (spLaw K) := by
  have G_l_cell_at : FnOk P w K mg base CX0 1 A.l_cell_at A.fd_l_cell_at ["_law_script", "_law_k"] (spCell K) := ok_l_cell_at T
  have G_l_bad : FnOk P w K mg base CX0 2 A.l_bad A.fd_l_bad ["_law_way", "_law_draw"] spBad := ok_l_bad T
  have G_l_refused : FnOk P w K mg base CX0 8 A.l_refused A.fd_l_refused ["_law_row"] spRefused := ok_l_refused T
  have G_read_deed : FnOk P w K mg base (CXX P w) 7 A.read_deed A.fd_read_deed ["row"] (spRDeed K A) := ok_read_deed T
  refine F.ok sc_law (fun vs H Q E h => ?_) (fun cdv A' outer s H vs Q E hr h => ?_)
  · obtain ⟨a, ns, rfl, _⟩ := h
    rfl
  · obtain ⟨a, ns, rfl, hS, hlen, q⟩ := h
    have hr_l_cell_at : Room 1 _ := hr.mono (by decide)
    have hr_l_bad : Room 2 _ := hr.mono (by decide)
    have hr_l_refused := hr
    have hr_read_deed : Room 7 _ := hr.mono (by decide)
    have hu64 := hr.units
    refine ⟨_, (pss_cons (ps_set (i := 1) sc_law.nd rfl (Or.inl rfl) (pe_lst (pa_cons (pe_tup (pa_cons pe_str (pa_cons (pe_tup (pa_cons pe_str (pa_cons pe_int (pa_cons pe_int pa_nil)))) pa_nil))) (pa_cons (pe_tup (pa_cons pe_str (pa_cons (pe_tup (pa_cons pe_str (pa_cons (pe_lst pa_nil) pa_nil))) pa_nil))) (pa_cons (pe_tup (pa_cons pe_str (pa_cons (pe_tup (pa_cons pe_str (pa_cons pe_int pa_nil))) pa_nil))) pa_nil)))))
  (pss_cons (ps_set (i := 1) sc_law.nd rfl (Or.inl rfl) (pe_op op_catQ (pv 1) (pe_lst (pa_cons (pe_tup (pa_cons pe_str (pa_cons (pe_tup (pa_cons pe_str (pa_cons (pe_lst (pa_cons pe_str pa_nil)) pa_nil))) pa_nil))) (pa_cons (pe_tup (pa_cons pe_str (pa_cons (pe_tup (pa_cons pe_str (pa_cons (pe_tup (pa_cons pe_str (pa_cons pe_int (pa_cons pe_str pa_nil)))) pa_nil))) pa_nil))) pa_nil)))))
  (pss_cons (ps_set (i := 1) sc_law.nd rfl (Or.inl rfl) (pe_op op_catQ (pv 1) (pe_lst (pa_cons (pe_tup (pa_cons pe_str (pa_cons (pe_tup (pa_cons pe_str (pa_cons pe_str pa_nil))) pa_nil))) (pa_cons (pe_tup (pa_cons pe_str (pa_cons (pe_tup (pa_cons pe_str (pa_cons (pe_lst (pa_cons pe_str (pa_cons pe_str pa_nil))) pa_nil))) pa_nil))) (pa_cons (pe_tup (pa_cons pe_str (pa_cons (pe_tup (pa_cons pe_str pa_nil)) pa_nil))) pa_nil))))))
  (pss_cons (ps_for PassesOwn.never rfl (pi_range3 rfl T.n_range (pa_cons pe_int (pa_cons (pe_callB (call_max2 rfl) (by rfl) T.n_max bt_max (pa_cons pe_int (pa_cons (pe_callB (call_min2 rfl) (by rfl) T.n_min bt_min (pa_cons (pe_callB call_len_seq (by rfl) T.n_len bt_len (pa_cons (pv 0) pa_nil)) (pa_cons pe_int pa_nil))) pa_nil))) (pa_cons pe_int pa_nil)))) (pg_name (i := 2) sc_law.nd rfl (Or.inl rfl))
  (pss_cons (ps_set (i := 3) sc_law.nd rfl (Or.inl rfl) (pe_call G_l_cell_at hr_l_cell_at rfl T.g_l_cell_at T.F_l_cell_at.kp T.b_l_cell_at .nil pass0 (pa_cons (pv 0) (pa_cons (pv 2) pa_nil))))
  (pss_cons (ps_if (pt_not (pt_val (pe_call G_l_refused hr_l_refused rfl T.g_l_refused T.F_l_refused.kp T.b_l_refused .nil pass0 (pa_cons (pe_call G_l_bad hr_l_bad rfl T.g_l_bad T.F_l_bad.kp T.b_l_bad .nil pass0 (pa_cons (pe_op op_mod (pv 3) pe_int) (pa_cons (pe_op op_fdiv (pv 3) pe_int) pa_nil))) pa_nil))))
  (pss_one (ps_ret pe_bl))
  pss_nil)
  (pss_cons (ps_asg (pe_ix ix_list (pv 1) (pe_op op_mod (pe_call G_l_cell_at hr_l_cell_at rfl T.g_l_cell_at T.F_l_cell_at.kp T.b_l_cell_at .nil pass0 (pa_cons (pv 0) (pa_cons (pe_op op_add (pv 2) pe_int) pa_nil))) pe_int) (fun _ _ => rfl)) (pg_tup rfl (pgs_cons (pg_name (i := 4) sc_law.nd rfl (Or.inl rfl)) (pgs_cons (pg_name (i := 5) sc_law.nd rfl (Or.inl rfl)) pgs_nil))))
  (pss_one (ps_if (pt_cmpR (op_neD hu64) (pe_call G_read_deed hr_read_deed rfl T.g_read_deed T.F_read_deed.kp T.b_read_deed .nil passX0 (pa_cons (pv 4) pa_nil)) (pv 5) (nomark _))
  (pss_one (ps_ret pe_bl))
  pss_nil))))))
  (pss_one (ps_ret pe_bl)))))), ?_⟩
    have sz : sizeLine = 16777216 := by decide
    obtain ⟨r1, r2, r3, r4, r5, r6, r7, r8⟩ := rows8
    obtain ⟨j1, j2⟩ := joins
    refine ⟨(by show 3 ≤ sizeLine; decide), fun t1 ht1 => ⟨(by show 2 ≤ sizeLine; decide), fun p1 hp1 => ?_⟩⟩
    have g1 : GoodAt K (upd (upd H t1 (.tup [.str (Str.ofString "vote"), .int 0, .int 9999999999])) p1 (.tup [.str (Str.ofString "vote 0 9999999999"), .ref t1])) p1 :=
      ⟨.nums (Str.ofString "vote") [0, 9999999999], t1, by rw [upd_same, r1], SqT.of ((upd_ne (ne_of_none upd_same hp1)).trans upd_same), good1⟩
    have s1 : Same H (upd (upd H t1 (.tup [.str (Str.ofString "vote"), .int 0, .int 9999999999])) p1 (.tup [.str (Str.ofString "vote 0 9999999999"), .ref t1])) := (same_new ht1).new hp1
    generalize upd (upd H t1 (.tup [.str (Str.ofString "vote"), .int 0, .int 9999999999])) p1 (.tup [.str (Str.ofString "vote 0 9999999999"), .ref t1]) = H1 at g1 s1 ⊢
    refine ⟨Nat.zero_le _, fun L2 hL2 => ⟨(by show 2 ≤ sizeLine; decide), fun t2 ht2 => ⟨(by show 2 ≤ sizeLine; decide), fun p2 hp2 => ?_⟩⟩⟩
    have n2 : L2 ≠ t2 := ne_of_none upd_same ht2
    have n2' : L2 ≠ p2 := ne_of_none ((upd_ne n2).trans upd_same) hp2
    have g2 : GoodAt K (upd (upd (upd H1 L2 (.lst [])) t2 (.tup [.str (Str.ofString "matter"), .ref L2])) p2 (.tup [.str (Str.ofString "matter"), .ref t2])) p2 :=
      ⟨.mat [], t2, by rw [upd_same, r2], ⟨L2, SqT.of ((upd_ne (ne_of_none upd_same hp2)).trans upd_same), SqL.of ((upd_ne n2').trans ((upd_ne n2).trans upd_same))⟩, good2⟩
    have k2 : Same H1 (upd (upd (upd H1 L2 (.lst [])) t2 (.tup [.str (Str.ofString "matter"), .ref L2])) p2 (.tup [.str (Str.ofString "matter"), .ref t2])) := ((same_new hL2).new ht2).new hp2
    have g1 := g1.same k2
    have s2 := s1.trans k2
    generalize upd (upd (upd H1 L2 (.lst [])) t2 (.tup [.str (Str.ofString "matter"), .ref L2])) p2 (.tup [.str (Str.ofString "matter"), .ref t2]) = H2 at g1 g2 s2 ⊢
    refine ⟨(by show 2 ≤ sizeLine; decide), fun t3 ht3 => ⟨(by show 2 ≤ sizeLine; decide), fun p3 hp3 => ⟨(by show 3 ≤ sizeLine; decide), fun l1 hl1 => ?_⟩⟩⟩
    have g3 : GoodAt K (upd (upd H2 t3 (.tup [.str (Str.ofString "take"), .int 0])) p3 (.tup [.str (Str.ofString "take 0"), .ref t3])) p3 :=
      ⟨.nums (Str.ofString "take") [0], t3, by rw [upd_same, r3], SqT.of ((upd_ne (ne_of_none upd_same hp3)).trans upd_same), good3⟩
    have k3 : Same H2 (upd (upd (upd H2 t3 (.tup [.str (Str.ofString "take"), .int 0])) p3 (.tup [.str (Str.ofString "take 0"), .ref t3])) l1 (.lst [.ref p1, .ref p2, .ref p3])) := ((same_new ht3).new hp3).new hl1
    have g1 := g1.same k3
    have g2 := g2.same k3
    have g3 := g3.new (o := .lst [.ref p1, .ref p2, .ref p3]) hl1
    have s3 := s2.trans k3
    have hl1' : upd (upd (upd H2 t3 (.tup [.str (Str.ofString "take"), .int 0])) p3 (.tup [.str (Str.ofString "take 0"), .ref t3])) l1 (.lst [.ref p1, .ref p2, .ref p3]) l1 = some (.lst [.ref p1, .ref p2, .ref p3]) := upd_same
    generalize upd (upd (upd H2 t3 (.tup [.str (Str.ofString "take"), .int 0])) p3 (.tup [.str (Str.ofString "take 0"), .ref t3])) l1 (.lst [.ref p1, .ref p2, .ref p3]) = H3 at g1 g2 g3 s3 hl1' ⊢
    -- the second part
    refine ⟨_, rfl, (by show 1 ≤ sizeLine; decide), fun L4 hL4 => ⟨(by show 2 ≤ sizeLine; decide), fun t4 ht4 => ⟨(by show 2 ≤ sizeLine; decide), fun p4 hp4 => ?_⟩⟩⟩
    have n4 : L4 ≠ t4 := ne_of_none upd_same ht4
    have n4' : L4 ≠ p4 := ne_of_none ((upd_ne n4).trans upd_same) hp4
    have g4 : GoodAt K (upd (upd (upd H3 L4 (.lst [.str (Str.ofString "")])) t4 (.tup [.str (Str.ofString "matter"), .ref L4])) p4 (.tup [.str (Str.ofString "matter /"), .ref t4])) p4 :=
      ⟨.mat [[]], t4, by rw [upd_same, r4], ⟨L4, SqT.of ((upd_ne (ne_of_none upd_same hp4)).trans upd_same), SqL.of ((upd_ne n4').trans ((upd_ne n4).trans (by rw [upd_same]; simp only [List.map_cons, List.map_nil, j1])))⟩, good4⟩
    have k4 : Same H3 (upd (upd (upd H3 L4 (.lst [.str (Str.ofString "")])) t4 (.tup [.str (Str.ofString "matter"), .ref L4])) p4 (.tup [.str (Str.ofString "matter /"), .ref t4])) := ((same_new hL4).new ht4).new hp4
    have g1 := g1.same k4
    have g2 := g2.same k4
    have g3 := g3.same k4
    have s4 := s3.trans k4
    have hl1' := k4 _ _ hl1'
    generalize upd (upd (upd H3 L4 (.lst [.str (Str.ofString "")])) t4 (.tup [.str (Str.ofString "matter"), .ref L4])) p4 (.tup [.str (Str.ofString "matter /"), .ref t4]) = H4 at g1 g2 g3 g4 s4 hl1' ⊢
    refine ⟨(by show 3 ≤ sizeLine; decide), fun e5 he5 => ⟨(by show 2 ≤ sizeLine; decide), fun t5 ht5 => ⟨(by show 2 ≤ sizeLine; decide), fun p5 hp5 => ⟨(by show 2 ≤ sizeLine; decide), fun l2 hl2 => ?_⟩⟩⟩⟩
    have n5 : e5 ≠ t5 := ne_of_none upd_same ht5
    have n5' : e5 ≠ p5 := ne_of_none ((upd_ne n5).trans upd_same) hp5
    have g5 : GoodAt K (upd (upd (upd H4 e5 (.tup [.str (Str.ofString "put"), .int 0, .str (Str.ofString "")])) t5 (.tup [.str (Str.ofString "change"), .ref e5])) p5 (.tup [.str (Str.ofString "change put 0"), .ref t5])) p5 :=
      ⟨.ed false 0 0 [], t5, by rw [upd_same, r5], ⟨e5, SqT.of ((upd_ne (ne_of_none upd_same hp5)).trans upd_same), SqT.of ((upd_ne n5').trans ((upd_ne n5).trans (by rw [upd_same, ← j1]; rfl)))⟩, good5⟩
    have k5 : Same H4 (upd (upd (upd (upd H4 e5 (.tup [.str (Str.ofString "put"), .int 0, .str (Str.ofString "")])) t5 (.tup [.str (Str.ofString "change"), .ref e5])) p5 (.tup [.str (Str.ofString "change put 0"), .ref t5])) l2 (.lst [.ref p4, .ref p5])) := (((same_new he5).new ht5).new hp5).new hl2
    have g1 := g1.same k5
    have g2 := g2.same k5
    have g3 := g3.same k5
    have g4 := g4.same k5
    have g5 := g5.new (o := .lst [.ref p4, .ref p5]) hl2
    have s5 := s4.trans k5
    have hl1' := k5 _ _ hl1'
    have hl2' : upd (upd (upd (upd H4 e5 (.tup [.str (Str.ofString "put"), .int 0, .str (Str.ofString "")])) t5 (.tup [.str (Str.ofString "change"), .ref e5])) p5 (.tup [.str (Str.ofString "change put 0"), .ref t5])) l2 (.lst [.ref p4, .ref p5]) l2 = some (.lst [.ref p4, .ref p5]) := upd_same
    generalize upd (upd (upd (upd H4 e5 (.tup [.str (Str.ofString "put"), .int 0, .str (Str.ofString "")])) t5 (.tup [.str (Str.ofString "change"), .ref e5])) p5 (.tup [.str (Str.ofString "change put 0"), .ref t5])) l2 (.lst [.ref p4, .ref p5]) = H5 at g1 g2 g3 g4 g5 s5 hl1' hl2' ⊢
    refine ⟨l1, l2, _, _, rfl, rfl, hl1', hl2', (by show 5 ≤ sizeLine; decide), fun l3 hl3 => ?_⟩
    have k6 : Same H5 (upd H5 l3 (.lst ([.ref p1, .ref p2, .ref p3] ++ [.ref p4, .ref p5]))) := same_new hl3
    have g1 := g1.same k6
    have g2 := g2.same k6
    have g3 := g3.same k6
    have g4 := g4.same k6
    have g5 := g5.same k6
    have s6 := s5.trans k6
    have hl3' : upd H5 l3 (.lst ([.ref p1, .ref p2, .ref p3] ++ [.ref p4, .ref p5])) l3 = some (.lst [.ref p1, .ref p2, .ref p3, .ref p4, .ref p5]) := upd_same
    generalize upd H5 l3 (.lst ([.ref p1, .ref p2, .ref p3] ++ [.ref p4, .ref p5])) = H6 at g1 g2 g3 g4 g5 s6 hl3' ⊢
    -- the third part
    refine ⟨_, rfl, (by show 2 ≤ sizeLine; decide), fun t6 ht6 => ⟨(by show 2 ≤ sizeLine; decide), fun p6 hp6 => ?_⟩⟩
    have g6 : GoodAt K (upd (upd H6 t6 (.tup [.str (Str.ofString "point"), .str (Str.ofString "")])) p6 (.tup [.str (Str.ofString "point"), .ref t6])) p6 :=
      ⟨.pt [], t6, by rw [upd_same, r6], SqT.of ((upd_ne (ne_of_none upd_same hp6)).trans (by rw [upd_same, j1])), good6⟩
    have k7 : Same H6 (upd (upd H6 t6 (.tup [.str (Str.ofString "point"), .str (Str.ofString "")])) p6 (.tup [.str (Str.ofString "point"), .ref t6])) := (same_new ht6).new hp6
    have g1 := g1.same k7
    have g2 := g2.same k7
    have g3 := g3.same k7
    have g4 := g4.same k7
    have g5 := g5.same k7
    have s7 := s6.trans k7
    have hl3' := k7 _ _ hl3'
    generalize upd (upd H6 t6 (.tup [.str (Str.ofString "point"), .str (Str.ofString "")])) p6 (.tup [.str (Str.ofString "point"), .ref t6]) = H7 at g1 g2 g3 g4 g5 g6 s7 hl3' ⊢
    refine ⟨(by show 2 ≤ sizeLine; decide), fun L7 hL7 => ⟨(by show 2 ≤ sizeLine; decide), fun t7 ht7 => ⟨(by show 2 ≤ sizeLine; decide), fun p7 hp7 => ?_⟩⟩⟩
    have n7 : L7 ≠ t7 := ne_of_none upd_same ht7
    have n7' : L7 ≠ p7 := ne_of_none ((upd_ne n7).trans upd_same) hp7
    have g7 : GoodAt K (upd (upd (upd H7 L7 (.lst [.str (Str.ofString "-"), .str (Str.ofString "")])) t7 (.tup [.str (Str.ofString "matter"), .ref L7])) p7 (.tup [.str (Str.ofString "matter / - /"), .ref t7])) p7 :=
      ⟨.mat [[Str.ofString "-"], []], t7, by rw [upd_same, r7], ⟨L7, SqT.of ((upd_ne (ne_of_none upd_same hp7)).trans upd_same), SqL.of ((upd_ne n7').trans ((upd_ne n7).trans (by rw [upd_same]; simp only [List.map_cons, List.map_nil, j1, j2])))⟩, good7⟩
    have k8 : Same H7 (upd (upd (upd H7 L7 (.lst [.str (Str.ofString "-"), .str (Str.ofString "")])) t7 (.tup [.str (Str.ofString "matter"), .ref L7])) p7 (.tup [.str (Str.ofString "matter / - /"), .ref t7])) := ((same_new hL7).new ht7).new hp7
    have g1 := g1.same k8
    have g2 := g2.same k8
    have g3 := g3.same k8
    have g4 := g4.same k8
    have g5 := g5.same k8
    have g6 := g6.same k8
    have s8 := s7.trans k8
    have hl3' := k8 _ _ hl3'
    generalize upd (upd (upd H7 L7 (.lst [.str (Str.ofString "-"), .str (Str.ofString "")])) t7 (.tup [.str (Str.ofString "matter"), .ref L7])) p7 (.tup [.str (Str.ofString "matter / - /"), .ref t7]) = H8 at g1 g2 g3 g4 g5 g6 g7 s8 hl3' ⊢
    refine ⟨(by show 1 ≤ sizeLine; decide), fun t8 ht8 => ⟨(by show 2 ≤ sizeLine; decide), fun p8 hp8 => ⟨(by show 3 ≤ sizeLine; decide), fun l4 hl4 => ?_⟩⟩⟩
    have g8 : GoodAt K (upd (upd H8 t8 (.tup [.str (Str.ofString "drop")])) p8 (.tup [.str (Str.ofString "drop"), .ref t8])) p8 :=
      ⟨.nums (Str.ofString "drop") [], t8, by rw [upd_same, r8], SqT.of ((upd_ne (ne_of_none upd_same hp8)).trans upd_same), good8⟩
    have k9 : Same H8 (upd (upd (upd H8 t8 (.tup [.str (Str.ofString "drop")])) p8 (.tup [.str (Str.ofString "drop"), .ref t8])) l4 (.lst [.ref p6, .ref p7, .ref p8])) := ((same_new ht8).new hp8).new hl4
    have hl3' := k9 _ _ hl3'
    have hl4' : upd (upd (upd H8 t8 (.tup [.str (Str.ofString "drop")])) p8 (.tup [.str (Str.ofString "drop"), .ref t8])) l4 (.lst [.ref p6, .ref p7, .ref p8]) l4 = some (.lst [.ref p6, .ref p7, .ref p8]) := upd_same
    refine ⟨l3, l4, _, _, rfl, rfl, hl3', hl4', (by show 8 ≤ sizeLine; decide), fun G hG => ?_⟩
    have g1 := (g1.same k9).new (o := .lst ([.ref p1, .ref p2, .ref p3, .ref p4, .ref p5] ++ [.ref p6, .ref p7, .ref p8])) hG
    have g2 := (g2.same k9).new (o := .lst ([.ref p1, .ref p2, .ref p3, .ref p4, .ref p5] ++ [.ref p6, .ref p7, .ref p8])) hG
    have g3 := (g3.same k9).new (o := .lst ([.ref p1, .ref p2, .ref p3, .ref p4, .ref p5] ++ [.ref p6, .ref p7, .ref p8])) hG
    have g4 := (g4.same k9).new (o := .lst ([.ref p1, .ref p2, .ref p3, .ref p4, .ref p5] ++ [.ref p6, .ref p7, .ref p8])) hG
    have g5 := (g5.same k9).new (o := .lst ([.ref p1, .ref p2, .ref p3, .ref p4, .ref p5] ++ [.ref p6, .ref p7, .ref p8])) hG
    have g6 := (g6.same k9).new (o := .lst ([.ref p1, .ref p2, .ref p3, .ref p4, .ref p5] ++ [.ref p6, .ref p7, .ref p8])) hG
    have g7 := (g7.same k9).new (o := .lst ([.ref p1, .ref p2, .ref p3, .ref p4, .ref p5] ++ [.ref p6, .ref p7, .ref p8])) hG
    have g8 := (g8.new (o := .lst [.ref p6, .ref p7, .ref p8]) hl4).new (o := .lst ([.ref p1, .ref p2, .ref p3, .ref p4, .ref p5] ++ [.ref p6, .ref p7, .ref p8])) hG
    have s9 := (s8.trans k9).new (o := .lst ([.ref p1, .ref p2, .ref p3, .ref p4, .ref p5] ++ [.ref p6, .ref p7, .ref p8])) hG
    have hGl : upd (upd (upd (upd H8 t8 (.tup [.str (Str.ofString "drop")])) p8 (.tup [.str (Str.ofString "drop"), .ref t8])) l4 (.lst [.ref p6, .ref p7, .ref p8])) G (.lst ([.ref p1, .ref p2, .ref p3, .ref p4, .ref p5] ++ [.ref p6, .ref p7, .ref p8])) G = some (.lst ([p1, p2, p3, p4, p5, p6, p7, p8].map V.ref)) := upd_same
    generalize upd (upd (upd (upd H8 t8 (.tup [.str (Str.ofString "drop")])) p8 (.tup [.str (Str.ofString "drop"), .ref t8])) l4 (.lst [.ref p6, .ref p7, .ref p8])) G (.lst ([.ref p1, .ref p2, .ref p3, .ref p4, .ref p5] ++ [.ref p6, .ref p7, .ref p8])) = H9 at g1 g2 g3 g4 g5 g6 g7 g8 s9 hGl ⊢
    have ga : ∀ p ∈ [p1, p2, p3, p4, p5, p6, p7, p8], GoodAt K H9 p := by
      intro p hp
      simp only [List.mem_cons, List.not_mem_nil, or_false] at hp
      rcases hp with rfl | rfl | rfl | rfl | rfl | rfl | rfl | rfl <;> assumption
    have psl : [p1, p2, p3, p4, p5, p6, p7, p8].length = 8 := rfl
    generalize [p1, p2, p3, p4, p5, p6, p7, p8] = ps at hGl ga psl
    -- the loop
    refine ⟨_, rfl, a, _, rfl, .inl (s9.seq hS), _, _, rfl, _, _, rfl, ?_⟩
    rw [List.length_map]
    generalize hJ : (if (if (60 : Int) < (ns.length : Int) then (60 : Int) else (ns.length : Int)) > 1 then (if (60 : Int) < (ns.length : Int) then (60 : Int) else (ns.length : Int)) else 1) = J
    have hJ1 : 0 ≤ J ∧ J ≤ 1000 := by
      rw [← hJ]
      split
      · split <;> omega
      · omega
    obtain ⟨b1, b2⟩ := small_step2 hJ1.1 hJ1.2
    refine ⟨0, J, 2, rfl, ⟨by decide, by decide⟩, b1, b2, ?_⟩
    refine for_range3 (lo := 0) (c := 2) (n := (Builtin.Range.rangeSize 0 J 2).toNat) (fun i σ HH => ∃ v2 v3 v4 v5 : Option V, σ = [some (.ref a), some (.ref G), v2, v3, v4, v5] ∧ Same H9 HH) ⟨_, _, _, _, rfl, Same.refl _⟩ ?_ (fun σ HH _ => q HH)
    rintro i σ HH hi ⟨v2, v3, v4, v5, rfl, sH⟩
    have hS2 := (s9.trans sH).seq hS
    refine ⟨_, rfl, _, rfl, a, ns, _, rfl, hS2, by omega, fun z1 => ?_⟩
    refine ⟨_, rfl, _, _, rfl, rfl, (by show (0 : Int) < 10; decide), _, rfl, _, _, rfl, rfl, ⟨by decide, by decide⟩, z1 % 10, z1 / 10, rfl, by omega, by omega, fun zb HA hb sA => ?_⟩
    refine ⟨zb, rfl, hb, fun HB sB => ⟨_, rfl, iteF ?_⟩⟩
    have sB9 := sH.trans (sA.trans sB)
    have hS3 := (s9.trans sB9).seq hS
    refine ⟨_, rfl, _, rfl, _, rfl, _, _, rfl, rfl, a, ns, _, rfl, hS3, by omega, fun z2 => ?_⟩
    obtain ⟨c, hc, hm⟩ := at_ix (xs := ps.map V.ref) (i := z2 % 8) (n := 8) (by rw [List.length_map]; exact psl) (by omega) (by omega)
    obtain ⟨p, hp, rfl⟩ := List.mem_map.mp hm
    obtain ⟨d, t, hpt, hd, o, so⟩ := (ga p hp).same sB9
    refine ⟨_, _, rfl, rfl, (by show (0 : Int) < 8; decide), G, _, _, _, rfl, rfl, SqL.of (sB9 _ _ hGl), hc, ?_⟩
    refine ⟨p, _, rfl, SqT.of hpt, rfl, _, _, rfl, _, _, rfl, rfl, ?_⟩
    have rr := row_read o so
    have dl := dRow_len o
    refine ⟨_, rfl, dRow d, rfl, by omega, dRow_asc o, fun d' ed' tR HR sR ntR hdR => ?_, fun en => absurd en (by rw [rr]; exact fun z => nomatch z)⟩
    obtain rfl : norm d = d' := Option.some.inj (rr.symm.trans ed')
    refine ⟨_, rfl, _, _, dD_dv hdR.norm.at, dD_dv (hd.same sR), (dD_lay o).2, (dD_lay o).2, _, rfl, ite_ne (eqv_self _ (dD_lay o).1) ?_⟩
    exact ⟨_, _, _, _, rfl, sB9.trans sR⟩
end


set_option maxHeartbeats 0 in
theorem all_mk {l : PySem.W.OpenLaw} {w : World} {K : PySem.W.Frag} {h : Heap} {mg : Str → Option Value} {fa f_1 f_2 f_3 f_4 f_5 f_6 f_7 f_8 f_9 f_10 f_11 f_12 f_13 f_14 f_15 f_16 f_17 f_18 f_19 f_20 o_LONE x_ChamberError x_NoFit x_Barred x_NoMatter x_NoChange x_NotLater x_Nothing x_TooMany x_NoAside x_NotYet x_NoNumber x_NoRow x_NoName f_x_NoRow : Addr} (X : K.In h) (G : h.Ns mainGlobals mg) (hfa : mg "law" = some (.ref fa))
    {od_1 an_1 od_2 an_2 od_3 an_3 od_4 an_4 od_5 an_5 od_6 an_6 od_7 an_7 od_8 an_8 od_9 an_9 od_10 an_10 od_11 an_11 od_12 an_12 od_13 an_13 od_14 an_14 od_15 an_15 od_16 an_16 od_17 an_17 od_18 an_18 od_19 an_19 od_20 an_20 od_x_NoRow an_x_NoRow : Option Addr} {sl_1 sl_2 sl_3 sl_4 sl_5 sl_6 sl_7 sl_8 sl_9 sl_10 sl_11 sl_12 sl_13 sl_14 sl_15 sl_16 sl_17 sl_18 sl_19 sl_20 sl_x_NoRow : Array (Option Value)} {oc_1 kV_1 dc_1 pm_1 cd_1 ct_1 oc_2 kV_2 dc_2 pm_2 cd_2 ct_2 oc_3 kV_3 dc_3 pm_3 cd_3 ct_3 oc_4 kV_4 dc_4 pm_4 cd_4 ct_4 oc_5 kV_5 dc_5 pm_5 cd_5 ct_5 oc_6 kV_6 dc_6 pm_6 cd_6 ct_6 oc_7 kV_7 dc_7 pm_7 cd_7 ct_7 oc_8 kV_8 dc_8 pm_8 cd_8 ct_8 oc_9 kV_9 dc_9 pm_9 cd_9 ct_9 oc_10 kV_10 dc_10 pm_10 cd_10 ct_10 oc_11 kV_11 dc_11 pm_11 cd_11 ct_11 oc_12 kV_12 dc_12 pm_12 cd_12 ct_12 oc_13 kV_13 dc_13 pm_13 cd_13 ct_13 oc_14 kV_14 dc_14 pm_14 cd_14 ct_14 oc_15 kV_15 dc_15 pm_15 cd_15 ct_15 oc_16 kV_16 dc_16 pm_16 cd_16 ct_16 oc_17 kV_17 dc_17 pm_17 cd_17 ct_17 oc_18 kV_18 dc_18 pm_18 cd_18 ct_18 oc_19 kV_19 dc_19 pm_19 cd_19 ct_19 oc_20 kV_20 dc_20 pm_20 cd_20 ct_20 oc_x_NoRow kV_x_NoRow dc_x_NoRow pm_x_NoRow cd_x_NoRow ct_x_NoRow : Value} {tk_FIGURES tk_MOST_FIGURES tk_MOST_SIGNS tk_LAST_SITTING tk_PERCENT t0_LONE t1_LONE t2_LONE t3_LONE : Tok} {d_LONE : Option Addr} {n_LONE : Nat} {s_LONE : Array (Option Value)} {N_NoRow : Addr} {cN_NoRow : Value} {dN_NoRow : Option Addr} {eN_NoRow : Array DictEntry} {nN_NoRow : Nat} {sN_NoRow : Array (Option Value)} {N_ChamberError : Addr} {cN_ChamberError : Value} {dN_ChamberError : Option Addr} {eN_ChamberError : Array DictEntry} {nN_ChamberError : Nat} {sN_ChamberError : Array (Option Value)} {nm_NoRow q_NoRow : Str} {bs_NoRow : List Value} {sn_NoRow : List Str} {su_NoRow : List Value} {ab_NoRow : Bool} {co_NoRow : Option Bool} {dd_NoRow : Option Addr} {k0_NoRow k1_NoRow k2_NoRow k3_NoRow k5_NoRow : Option Value} {cd_NoRow : ClassData} {o_ChamberError : Value} {od_ChamberError : Option Addr} {oc_ChamberError : ClassData} {os_ChamberError : Array (Option Value)}
    (a_1 : PySem.W.nsIn K mainGlobals "clause_of" = some (some (.ref f_1)))
    (l_1 : K.lookup f_1 = some ⟨oc_1, od_1, .func (PySem.W.fnOf "clause_of" "clause_of" (defArgs s_clause_of) (defBody s_clause_of) (defScope s_clause_of) .none kV_1 dc_1 pm_1 an_1 cd_1 ct_1), sl_1⟩)
    (cc_1 : PySem.W.codeIn K cd_1 "clause_of" = true)
    (kp_1 : PySem.W.keepIn K (.ref f_1) = true)
    (a_2 : PySem.W.nsIn K mainGlobals "require" = some (some (.ref f_2)))
    (l_2 : K.lookup f_2 = some ⟨oc_2, od_2, .func (PySem.W.fnOf "require" "require" (defArgs s_require) (defBody s_require) (defScope s_require) .none kV_2 dc_2 pm_2 an_2 cd_2 ct_2), sl_2⟩)
    (cc_2 : PySem.W.codeIn K cd_2 "require" = true)
    (kp_2 : PySem.W.keepIn K (.ref f_2) = true)
    (a_3 : PySem.W.nsIn K mainGlobals "is_sign" = some (some (.ref f_3)))
    (l_3 : K.lookup f_3 = some ⟨oc_3, od_3, .func (PySem.W.fnOf "is_sign" "is_sign" (defArgs s_is_sign) (defBody s_is_sign) (defScope s_is_sign) .none kV_3 dc_3 pm_3 an_3 cd_3 ct_3), sl_3⟩)
    (cc_3 : PySem.W.codeIn K cd_3 "is_sign" = true)
    (kp_3 : PySem.W.keepIn K (.ref f_3) = true)
    (a_4 : PySem.W.nsIn K mainGlobals "is_word" = some (some (.ref f_4)))
    (l_4 : K.lookup f_4 = some ⟨oc_4, od_4, .func (PySem.W.fnOf "is_word" "is_word" (defArgs s_is_word) (defBody s_is_word) (defScope s_is_word) .none kV_4 dc_4 pm_4 an_4 cd_4 ct_4), sl_4⟩)
    (cc_4 : PySem.W.codeIn K cd_4 "is_word" = true)
    (kp_4 : PySem.W.keepIn K (.ref f_4) = true)
    (a_5 : PySem.W.nsIn K mainGlobals "is_number" = some (some (.ref f_5)))
    (l_5 : K.lookup f_5 = some ⟨oc_5, od_5, .func (PySem.W.fnOf "is_number" "is_number" (defArgs s_is_number) (defBody s_is_number) (defScope s_is_number) .none kV_5 dc_5 pm_5 an_5 cd_5 ct_5), sl_5⟩)
    (cc_5 : PySem.W.codeIn K cd_5 "is_number" = true)
    (kp_5 : PySem.W.keepIn K (.ref f_5) = true)
    (a_6 : PySem.W.nsIn K mainGlobals "read_number" = some (some (.ref f_6)))
    (l_6 : K.lookup f_6 = some ⟨oc_6, od_6, .func (PySem.W.fnOf "read_number" "read_number" (defArgs s_read_number) (defBody s_read_number) (defScope s_read_number) .none kV_6 dc_6 pm_6 an_6 cd_6 ct_6), sl_6⟩)
    (cc_6 : PySem.W.codeIn K cd_6 "read_number" = true)
    (kp_6 : PySem.W.keepIn K (.ref f_6) = true)
    (a_7 : PySem.W.nsIn K mainGlobals "read_clause" = some (some (.ref f_7)))
    (l_7 : K.lookup f_7 = some ⟨oc_7, od_7, .func (PySem.W.fnOf "read_clause" "read_clause" (defArgs s_read_clause) (defBody s_read_clause) (defScope s_read_clause) .none kV_7 dc_7 pm_7 an_7 cd_7 ct_7), sl_7⟩)
    (cc_7 : PySem.W.codeIn K cd_7 "read_clause" = true)
    (kp_7 : PySem.W.keepIn K (.ref f_7) = true)
    (a_8 : PySem.W.nsIn K mainGlobals "read_text" = some (some (.ref f_8)))
    (l_8 : K.lookup f_8 = some ⟨oc_8, od_8, .func (PySem.W.fnOf "read_text" "read_text" (defArgs s_read_text) (defBody s_read_text) (defScope s_read_text) .none kV_8 dc_8 pm_8 an_8 cd_8 ct_8), sl_8⟩)
    (cc_8 : PySem.W.codeIn K cd_8 "read_text" = true)
    (kp_8 : PySem.W.keepIn K (.ref f_8) = true)
    (a_9 : PySem.W.nsIn K mainGlobals "read_edit" = some (some (.ref f_9)))
    (l_9 : K.lookup f_9 = some ⟨oc_9, od_9, .func (PySem.W.fnOf "read_edit" "read_edit" (defArgs s_read_edit) (defBody s_read_edit) (defScope s_read_edit) .none kV_9 dc_9 pm_9 an_9 cd_9 ct_9), sl_9⟩)
    (cc_9 : PySem.W.codeIn K cd_9 "read_edit" = true)
    (kp_9 : PySem.W.keepIn K (.ref f_9) = true)
    (a_10 : PySem.W.nsIn K mainGlobals "read_mend" = some (some (.ref f_10)))
    (l_10 : K.lookup f_10 = some ⟨oc_10, od_10, .func (PySem.W.fnOf "read_mend" "read_mend" (defArgs s_read_mend) (defBody s_read_mend) (defScope s_read_mend) .none kV_10 dc_10 pm_10 an_10 cd_10 ct_10), sl_10⟩)
    (cc_10 : PySem.W.codeIn K cd_10 "read_mend" = true)
    (kp_10 : PySem.W.keepIn K (.ref f_10) = true)
    (a_11 : PySem.W.nsIn K mainGlobals "read_sitting" = some (some (.ref f_11)))
    (l_11 : K.lookup f_11 = some ⟨oc_11, od_11, .func (PySem.W.fnOf "read_sitting" "read_sitting" (defArgs s_read_sitting) (defBody s_read_sitting) (defScope s_read_sitting) .none kV_11 dc_11 pm_11 an_11 cd_11 ct_11), sl_11⟩)
    (cc_11 : PySem.W.codeIn K cd_11 "read_sitting" = true)
    (kp_11 : PySem.W.keepIn K (.ref f_11) = true)
    (a_12 : PySem.W.nsIn K mainGlobals "read_deed" = some (some (.ref f_12)))
    (l_12 : K.lookup f_12 = some ⟨oc_12, od_12, .func (PySem.W.fnOf "read_deed" "read_deed" (defArgs s_read_deed) (defBody s_read_deed) (defScope s_read_deed) .none kV_12 dc_12 pm_12 an_12 cd_12 ct_12), sl_12⟩)
    (cc_12 : PySem.W.codeIn K cd_12 "read_deed" = true)
    (kp_12 : PySem.W.keepIn K (.ref f_12) = true)
    (a_13 : PySem.W.nsIn K mainGlobals "_law_cell_at" = some (some (.ref f_13)))
    (l_13 : K.lookup f_13 = some ⟨oc_13, od_13, .func (PySem.W.fnOf "_law_cell_at" "_law_cell_at" (defArgs s_l_cell_at) (defBody s_l_cell_at) (defScope s_l_cell_at) .none kV_13 dc_13 pm_13 an_13 cd_13 ct_13), sl_13⟩)
    (cc_13 : PySem.W.codeIn K cd_13 "_law_cell_at" = true)
    (kp_13 : PySem.W.keepIn K (.ref f_13) = true)
    (a_14 : PySem.W.nsIn K mainGlobals "_law_whole" = some (some (.ref f_14)))
    (l_14 : K.lookup f_14 = some ⟨oc_14, od_14, .func (PySem.W.fnOf "_law_whole" "_law_whole" (defArgs s_l_whole) (defBody s_l_whole) (defScope s_l_whole) .none kV_14 dc_14 pm_14 an_14 cd_14 ct_14), sl_14⟩)
    (cc_14 : PySem.W.codeIn K cd_14 "_law_whole" = true)
    (kp_14 : PySem.W.keepIn K (.ref f_14) = true)
    (a_15 : PySem.W.nsIn K mainGlobals "_law_bad_number" = some (some (.ref f_15)))
    (l_15 : K.lookup f_15 = some ⟨oc_15, od_15, .func (PySem.W.fnOf "_law_bad_number" "_law_bad_number" (defArgs s_l_bad_number) (defBody s_l_bad_number) (defScope s_l_bad_number) .none kV_15 dc_15 pm_15 an_15 cd_15 ct_15), sl_15⟩)
    (cc_15 : PySem.W.codeIn K cd_15 "_law_bad_number" = true)
    (kp_15 : PySem.W.keepIn K (.ref f_15) = true)
    (a_16 : PySem.W.nsIn K mainGlobals "_law_numbered" = some (some (.ref f_16)))
    (l_16 : K.lookup f_16 = some ⟨oc_16, od_16, .func (PySem.W.fnOf "_law_numbered" "_law_numbered" (defArgs s_l_numbered) (defBody s_l_numbered) (defScope s_l_numbered) .none kV_16 dc_16 pm_16 an_16 cd_16 ct_16), sl_16⟩)
    (cc_16 : PySem.W.codeIn K cd_16 "_law_numbered" = true)
    (kp_16 : PySem.W.keepIn K (.ref f_16) = true)
    (a_17 : PySem.W.nsIn K mainGlobals "_law_bad" = some (some (.ref f_17)))
    (l_17 : K.lookup f_17 = some ⟨oc_17, od_17, .func (PySem.W.fnOf "_law_bad" "_law_bad" (defArgs s_l_bad) (defBody s_l_bad) (defScope s_l_bad) .none kV_17 dc_17 pm_17 an_17 cd_17 ct_17), sl_17⟩)
    (cc_17 : PySem.W.codeIn K cd_17 "_law_bad" = true)
    (kp_17 : PySem.W.keepIn K (.ref f_17) = true)
    (a_18 : PySem.W.nsIn K mainGlobals "_law_another" = some (some (.ref f_18)))
    (l_18 : K.lookup f_18 = some ⟨oc_18, od_18, .func (PySem.W.fnOf "_law_another" "_law_another" (defArgs s_l_another) (defBody s_l_another) (defScope s_l_another) .none kV_18 dc_18 pm_18 an_18 cd_18 ct_18), sl_18⟩)
    (cc_18 : PySem.W.codeIn K cd_18 "_law_another" = true)
    (kp_18 : PySem.W.keepIn K (.ref f_18) = true)
    (a_19 : PySem.W.nsIn K mainGlobals "_law_refused" = some (some (.ref f_19)))
    (l_19 : K.lookup f_19 = some ⟨oc_19, od_19, .func (PySem.W.fnOf "_law_refused" "_law_refused" (defArgs s_l_refused) (defBody s_l_refused) (defScope s_l_refused) .none kV_19 dc_19 pm_19 an_19 cd_19 ct_19), sl_19⟩)
    (cc_19 : PySem.W.codeIn K cd_19 "_law_refused" = true)
    (kp_19 : PySem.W.keepIn K (.ref f_19) = true)
    (a_20 : PySem.W.nsIn K mainGlobals "law" = some (some (.ref f_20)))
    (l_20 : K.lookup f_20 = some ⟨oc_20, od_20, .func (PySem.W.fnOf "law" "law" (defArgs s_law) (defBody s_law) (defScope s_law) .none kV_20 dc_20 pm_20 an_20 cd_20 ct_20), sl_20⟩)
    (cc_20 : PySem.W.codeIn K cd_20 "law" = true)
    (kp_20 : PySem.W.keepIn K (.ref f_20) = true)
    (z1 : PySem.W.nsIn K mainGlobals "range" = some none)
    (z2 : PySem.W.nsIn K mainGlobals "list" = some none)
    (z3 : PySem.W.nsIn K mainGlobals "int" = some none)
    (z4 : PySem.W.nsIn K mainGlobals "bool" = some none)
    (z5 : PySem.W.nsIn K mainGlobals "isinstance" = some none)
    (z6 : PySem.W.nsIn K mainGlobals "max" = some none)
    (z7 : PySem.W.nsIn K mainGlobals "min" = some none)
    (z8 : PySem.W.nsIn K mainGlobals "len" = some none)
    (z9 : PySem.W.nsIn K mainGlobals "all" = some none)
    (z10 : PySem.W.nsIn K mainGlobals "any" = some none)
    (z11 : PySem.W.nsIn K mainGlobals "ord" = some none)
    (z12 : PySem.W.nsIn K mainGlobals "ValueError" = some none)
    (ak_FIGURES : PySem.W.nsIn K mainGlobals "FIGURES" = some (some (.str (Str.ofString "0123456789") tk_FIGURES)))
    (ak_MOST_FIGURES : PySem.W.nsIn K mainGlobals "MOST_FIGURES" = some (some (.int 10 tk_MOST_FIGURES)))
    (ak_MOST_SIGNS : PySem.W.nsIn K mainGlobals "MOST_SIGNS" = some (some (.int 20 tk_MOST_SIGNS)))
    (ak_LAST_SITTING : PySem.W.nsIn K mainGlobals "LAST_SITTING" = some (some (.int 999999999 tk_LAST_SITTING)))
    (ak_PERCENT : PySem.W.nsIn K mainGlobals "PERCENT" = some (some (.int 37 tk_PERCENT)))
    (ak_LONE : PySem.W.nsIn K mainGlobals "LONE" = some (some (.ref o_LONE)))
    (lk_LONE : K.lookup o_LONE = some ⟨.type "tuple", d_LONE, .seq #[.str (Str.ofString "close") t0_LONE, .str (Str.ofString "lay") t1_LONE, .str (Str.ofString "rest") t2_LONE, .str (Str.ofString "drop") t3_LONE] n_LONE, s_LONE⟩)
    (ax_ChamberError : PySem.W.nsIn K mainGlobals "ChamberError" = some (some (.ref x_ChamberError)))
    (ax_NoFit : PySem.W.nsIn K mainGlobals "NoFit" = some (some (.ref x_NoFit)))
    (ax_Barred : PySem.W.nsIn K mainGlobals "Barred" = some (some (.ref x_Barred)))
    (ax_NoMatter : PySem.W.nsIn K mainGlobals "NoMatter" = some (some (.ref x_NoMatter)))
    (ax_NoChange : PySem.W.nsIn K mainGlobals "NoChange" = some (some (.ref x_NoChange)))
    (ax_NotLater : PySem.W.nsIn K mainGlobals "NotLater" = some (some (.ref x_NotLater)))
    (ax_Nothing : PySem.W.nsIn K mainGlobals "Nothing" = some (some (.ref x_Nothing)))
    (ax_TooMany : PySem.W.nsIn K mainGlobals "TooMany" = some (some (.ref x_TooMany)))
    (ax_NoAside : PySem.W.nsIn K mainGlobals "NoAside" = some (some (.ref x_NoAside)))
    (ax_NotYet : PySem.W.nsIn K mainGlobals "NotYet" = some (some (.ref x_NotYet)))
    (ax_NoNumber : PySem.W.nsIn K mainGlobals "NoNumber" = some (some (.ref x_NoNumber)))
    (ax_NoRow : PySem.W.nsIn K mainGlobals "NoRow" = some (some (.ref x_NoRow)))
    (ax_NoName : PySem.W.nsIn K mainGlobals "NoName" = some (some (.ref x_NoName)))
    (lx_NoRow : K.lookup x_NoRow = some (excClassObj nm_NoRow q_NoRow x_NoRow N_NoRow bs_NoRow (.ref x_ChamberError :: veMro) true sn_NoRow su_NoRow ab_NoRow co_NoRow dd_NoRow k0_NoRow k1_NoRow k2_NoRow k3_NoRow k5_NoRow "ValueError.__new__"))
    (lx_ChamberError : K.lookup x_ChamberError = some ⟨o_ChamberError, od_ChamberError, .cls oc_ChamberError, os_ChamberError⟩)
    (en_ChamberError : oc_ChamberError.ns = N_ChamberError)
    (ln_NoRow : K.lookup N_NoRow = some ⟨cN_NoRow, dN_NoRow, .dict eN_NoRow nN_NoRow, sN_NoRow⟩)
    (sk_NoRow : strKeys eN_NoRow = true)
    (ni_NoRow : PySem.W.nsIn K N_NoRow "__init__" = some (some (.ref f_x_NoRow)))
    (ln_ChamberError : K.lookup N_ChamberError = some ⟨cN_ChamberError, dN_ChamberError, .dict eN_ChamberError nN_ChamberError, sN_ChamberError⟩)
    (sk_ChamberError : strKeys eN_ChamberError = true)
    (ni_ChamberError : PySem.W.nsIn K N_ChamberError "__init__" = some none)
    (xhn : PySem.W.specialIn K (.builtin "object.__class__") "__get__" = some (some (.builtin "getset_descriptor.__get__")))
    (xhtk : PySem.W.takesIn K (.builtin "object.__class__") = some true)
    (ird_ChamberError : PySem.W.readsIn K x_ChamberError (.type "type") = true)
    (isp_ChamberError : PySem.W.specialIn K (.ref x_ChamberError) "__getattribute__" = some (some (.builtin "type.__getattribute__")))
    (ifc_ChamberError : PySem.W.findCls K (.ref x_ChamberError) (.type "type") "__init__" = some (.val (.builtin "ValueError.__init__")))
    (xg_NoRow : PySem.W.findIn K (.ref x_NoRow) "__getattribute__" = some (some (.builtin "BaseException.__getattribute__")))
    (xk0_NoRow : PySem.W.findIn K (.ref x_NoRow) "__getattr__" = some none)
    (xb_NoRow : PySem.W.mroIn K x_NoRow (.type "BaseException") = some true)
    (xc_NoRow : PySem.W.clsIn K x_NoRow = some cd_NoRow)
    (xh_NoRow : PySem.W.findIn K (.ref x_NoRow) "__class__" = some (some (.builtin "object.__class__")))
    (xo_NoRow : PySem.W.mroIn K x_NoRow (.type "object") = some true)
    (l_x_NoRow : K.lookup f_x_NoRow = some ⟨oc_x_NoRow, od_x_NoRow, .func (PySem.W.fnOf "__init__" "NoRow.__init__" (defArgs s_NoRow_init) (defBody s_NoRow_init) (defScope s_NoRow_init) .none kV_x_NoRow dc_x_NoRow pm_x_NoRow an_x_NoRow cd_x_NoRow ct_x_NoRow), sl_x_NoRow⟩)
    (cc_x_NoRow : PySem.W.codeIn K cd_x_NoRow "NoRow.__init__" = true)
    (kp_x_NoRow : PySem.W.keepIn K (.ref f_x_NoRow) = true)
    (xf_NoRow : PySem.W.isFn K (.ref f_x_NoRow) = true)
    (xs_NoRow : PySem.W.findIn K (.ref x_NoRow) "__setattr__" = some (some (.builtin "object.__setattr__")))
    (xn_NoRow : PySem.W.findIn K (.ref x_NoRow) "row" = some none)
    (xd_NoRow : PySem.W.hasDictIn K x_NoRow = true)
    (xm_NoRow_ChamberError : PySem.W.exmOne K (.ref x_NoRow) (.ref x_ChamberError) = some true)
    (xi_NoRow_NoFit : PySem.W.kitOne K (.ref x_NoRow) (.ref x_NoFit) = some false)
    (xi_NoRow_Barred : PySem.W.kitOne K (.ref x_NoRow) (.ref x_Barred) = some false)
    (xi_NoRow_NoMatter : PySem.W.kitOne K (.ref x_NoRow) (.ref x_NoMatter) = some false)
    (xi_NoRow_NoChange : PySem.W.kitOne K (.ref x_NoRow) (.ref x_NoChange) = some false)
    (xi_NoRow_NotLater : PySem.W.kitOne K (.ref x_NoRow) (.ref x_NotLater) = some false)
    (xi_NoRow_Nothing : PySem.W.kitOne K (.ref x_NoRow) (.ref x_Nothing) = some false)
    (xi_NoRow_TooMany : PySem.W.kitOne K (.ref x_NoRow) (.ref x_TooMany) = some false)
    (xi_NoRow_NoAside : PySem.W.kitOne K (.ref x_NoRow) (.ref x_NoAside) = some false)
    (xi_NoRow_NotYet : PySem.W.kitOne K (.ref x_NoRow) (.ref x_NotYet) = some false)
    (xi_NoRow_NoNumber : PySem.W.kitOne K (.ref x_NoRow) (.ref x_NoNumber) = some false)
    (xi_NoRow_NoRow : PySem.W.kitOne K (.ref x_NoRow) (.ref x_NoRow) = some true)
    (xi_NoRow_NoName : PySem.W.kitOne K (.ref x_NoRow) (.ref x_NoName) = some false)
    (xi_NoRow_ValueError : PySem.W.kitOne K (.ref x_NoRow) (.type "ValueError") = some true) :
    ∃ fd : FuncData, (∀ (s : Shared) (v : Value), BindsTo s fd ⟨[v], []⟩ [("_law_script", v)]) ∧ ∀ base : Heap, K.In base → base.Ns mainGlobals mg → FnOk l.prog w K mg base CX0 9 fa fd ["_law_script"] (spLaw K) := by
  have e := hfa.symm.trans (PySem.W.mg_of X G a_20)
  cases e
  have F_1 := fun_mk (st := s_clause_of) l_1 cc_1 kp_1
  have b_1 := F_1.binds (ps := ["words"]) fun _ _ _ _ _ _ us hl => match us, hl with | [_], _ => rfl
  have F_2 := fun_mk (st := s_require) l_2 cc_2 kp_2
  have b_2 := F_2.binds (ps := ["holds"]) fun _ _ _ _ _ _ us hl => match us, hl with | [_], _ => rfl
  have F_3 := fun_mk (st := s_is_sign) l_3 cc_3 kp_3
  have b_3 := F_3.binds (ps := ["sign"]) fun _ _ _ _ _ _ us hl => match us, hl with | [_], _ => rfl
  have F_4 := fun_mk (st := s_is_word) l_4 cc_4 kp_4
  have b_4 := F_4.binds (ps := ["word"]) fun _ _ _ _ _ _ us hl => match us, hl with | [_], _ => rfl
  have F_5 := fun_mk (st := s_is_number) l_5 cc_5 kp_5
  have b_5 := F_5.binds (ps := ["word"]) fun _ _ _ _ _ _ us hl => match us, hl with | [_], _ => rfl
  have F_6 := fun_mk (st := s_read_number) l_6 cc_6 kp_6
  have b_6 := F_6.binds (ps := ["word"]) fun _ _ _ _ _ _ us hl => match us, hl with | [_], _ => rfl
  have F_7 := fun_mk (st := s_read_clause) l_7 cc_7 kp_7
  have b_7 := F_7.binds (ps := ["words"]) fun _ _ _ _ _ _ us hl => match us, hl with | [_], _ => rfl
  have F_8 := fun_mk (st := s_read_text) l_8 cc_8 kp_8
  have b_8 := F_8.binds (ps := ["words"]) fun _ _ _ _ _ _ us hl => match us, hl with | [_], _ => rfl
  have F_9 := fun_mk (st := s_read_edit) l_9 cc_9 kp_9
  have b_9 := F_9.binds (ps := ["words"]) fun _ _ _ _ _ _ us hl => match us, hl with | [_], _ => rfl
  have F_10 := fun_mk (st := s_read_mend) l_10 cc_10 kp_10
  have b_10 := F_10.binds (ps := ["words"]) fun _ _ _ _ _ _ us hl => match us, hl with | [_], _ => rfl
  have F_11 := fun_mk (st := s_read_sitting) l_11 cc_11 kp_11
  have b_11 := F_11.binds (ps := ["words"]) fun _ _ _ _ _ _ us hl => match us, hl with | [_], _ => rfl
  have F_12 := fun_mk (st := s_read_deed) l_12 cc_12 kp_12
  have b_12 := F_12.binds (ps := ["row"]) fun _ _ _ _ _ _ us hl => match us, hl with | [_], _ => rfl
  have F_13 := fun_mk (st := s_l_cell_at) l_13 cc_13 kp_13
  have b_13 := F_13.binds (ps := ["_law_script", "_law_k"]) fun _ _ _ _ _ _ us hl => match us, hl with | [_, _], _ => rfl
  have F_14 := fun_mk (st := s_l_whole) l_14 cc_14 kp_14
  have b_14 := F_14.binds (ps := ["_law_found"]) fun _ _ _ _ _ _ us hl => match us, hl with | [_], _ => rfl
  have F_15 := fun_mk (st := s_l_bad_number) l_15 cc_15 kp_15
  have b_15 := F_15.binds (ps := ["_law_draw"]) fun _ _ _ _ _ _ us hl => match us, hl with | [_], _ => rfl
  have F_16 := fun_mk (st := s_l_numbered) l_16 cc_16 kp_16
  have b_16 := F_16.binds (ps := ["_law_number", "_law_draw"]) fun _ _ _ _ _ _ us hl => match us, hl with | [_, _], _ => rfl
  have F_17 := fun_mk (st := s_l_bad) l_17 cc_17 kp_17
  have b_17 := F_17.binds (ps := ["_law_way", "_law_draw"]) fun _ _ _ _ _ _ us hl => match us, hl with | [_, _], _ => rfl
  have F_18 := fun_mk (st := s_l_another) l_18 cc_18 kp_18
  have b_18 := F_18.binds (ps := ["_law_caught"]) fun _ _ _ _ _ _ us hl => match us, hl with | [_], _ => rfl
  have F_19 := fun_mk (st := s_l_refused) l_19 cc_19 kp_19
  have b_19 := F_19.binds (ps := ["_law_row"]) fun _ _ _ _ _ _ us hl => match us, hl with | [_], _ => rfl
  have F_20 := fun_mk (st := s_law) l_20 cc_20 kp_20
  have F_x_NoRow := fun_mk (st := s_NoRow_init) l_x_NoRow cc_x_NoRow kp_x_NoRow
  have b_x_NoRow := F_x_NoRow.binds (ps := ["self", "row"]) fun _ _ _ _ _ _ us hl => match us, hl with | [_, _], _ => rfl
  have T : Txt K mg ⟨f_1, _, f_2, _, f_3, _, f_4, _, f_5, _, f_6, _, f_7, _, f_8, _, f_9, _, f_10, _, f_11, _, f_12, _, f_13, _, f_14, _, f_15, _, f_16, _, f_17, _, f_18, _, f_19, _, tk_FIGURES, tk_MOST_FIGURES, tk_MOST_SIGNS, tk_LAST_SITTING, tk_PERCENT, o_LONE, x_ChamberError, x_NoFit, x_Barred, x_NoMatter, x_NoChange, x_NotLater, x_Nothing, x_TooMany, x_NoAside, x_NotYet, x_NoNumber, x_NoRow, x_NoName, f_x_NoRow, _⟩ := {
    F_clause_of := F_1,
    b_clause_of := b_1,
    g_clause_of := PySem.W.mg_of X G a_1,
    F_require := F_2,
    b_require := b_2,
    g_require := PySem.W.mg_of X G a_2,
    F_is_sign := F_3,
    b_is_sign := b_3,
    g_is_sign := PySem.W.mg_of X G a_3,
    F_is_word := F_4,
    b_is_word := b_4,
    g_is_word := PySem.W.mg_of X G a_4,
    F_is_number := F_5,
    b_is_number := b_5,
    g_is_number := PySem.W.mg_of X G a_5,
    F_read_number := F_6,
    b_read_number := b_6,
    g_read_number := PySem.W.mg_of X G a_6,
    F_read_clause := F_7,
    b_read_clause := b_7,
    g_read_clause := PySem.W.mg_of X G a_7,
    F_read_text := F_8,
    b_read_text := b_8,
    g_read_text := PySem.W.mg_of X G a_8,
    F_read_edit := F_9,
    b_read_edit := b_9,
    g_read_edit := PySem.W.mg_of X G a_9,
    F_read_mend := F_10,
    b_read_mend := b_10,
    g_read_mend := PySem.W.mg_of X G a_10,
    F_read_sitting := F_11,
    b_read_sitting := b_11,
    g_read_sitting := PySem.W.mg_of X G a_11,
    F_read_deed := F_12,
    b_read_deed := b_12,
    g_read_deed := PySem.W.mg_of X G a_12,
    F_l_cell_at := F_13,
    b_l_cell_at := b_13,
    g_l_cell_at := PySem.W.mg_of X G a_13,
    F_l_whole := F_14,
    b_l_whole := b_14,
    g_l_whole := PySem.W.mg_of X G a_14,
    F_l_bad_number := F_15,
    b_l_bad_number := b_15,
    g_l_bad_number := PySem.W.mg_of X G a_15,
    F_l_numbered := F_16,
    b_l_numbered := b_16,
    g_l_numbered := PySem.W.mg_of X G a_16,
    F_l_bad := F_17,
    b_l_bad := b_17,
    g_l_bad := PySem.W.mg_of X G a_17,
    F_l_another := F_18,
    b_l_another := b_18,
    g_l_another := PySem.W.mg_of X G a_18,
    F_l_refused := F_19,
    b_l_refused := b_19,
    g_l_refused := PySem.W.mg_of X G a_19,
    n_range := PySem.W.mg_none_of X G z1,
    n_list := PySem.W.mg_none_of X G z2,
    n_int := PySem.W.mg_none_of X G z3,
    n_bool := PySem.W.mg_none_of X G z4,
    n_isinstance := PySem.W.mg_none_of X G z5,
    n_max := PySem.W.mg_none_of X G z6,
    n_min := PySem.W.mg_none_of X G z7,
    n_len := PySem.W.mg_none_of X G z8,
    n_all := PySem.W.mg_none_of X G z9,
    n_any := PySem.W.mg_none_of X G z10,
    n_ord := PySem.W.mg_none_of X G z11,
    n_ValueError := PySem.W.mg_none_of X G z12,
    g_FIGURES := PySem.W.mg_of X G ak_FIGURES,
    g_MOST_FIGURES := PySem.W.mg_of X G ak_MOST_FIGURES,
    g_MOST_SIGNS := PySem.W.mg_of X G ak_MOST_SIGNS,
    g_LAST_SITTING := PySem.W.mg_of X G ak_LAST_SITTING,
    g_PERCENT := PySem.W.mg_of X G ak_PERCENT,
    q_LONE := fun _ => .inr ⟨_, _, _, lk_LONE, rfl, rfl, (by show 4 ≤ sizeLine; decide), (.cons ⟨_, rfl⟩ (.cons ⟨_, rfl⟩ (.cons ⟨_, rfl⟩ (.cons ⟨_, rfl⟩ .nil))))⟩,
    g_LONE := PySem.W.mg_of X G ak_LONE,
    g_ChamberError := PySem.W.mg_of X G ax_ChamberError,
    g_NoFit := PySem.W.mg_of X G ax_NoFit,
    g_Barred := PySem.W.mg_of X G ax_Barred,
    g_NoMatter := PySem.W.mg_of X G ax_NoMatter,
    g_NoChange := PySem.W.mg_of X G ax_NoChange,
    g_NotLater := PySem.W.mg_of X G ax_NotLater,
    g_Nothing := PySem.W.mg_of X G ax_Nothing,
    g_TooMany := PySem.W.mg_of X G ax_TooMany,
    g_NoAside := PySem.W.mg_of X G ax_NoAside,
    g_NotYet := PySem.W.mg_of X G ax_NotYet,
    g_NoNumber := PySem.W.mg_of X G ax_NoNumber,
    g_NoRow := PySem.W.mg_of X G ax_NoRow,
    g_NoName := PySem.W.mg_of X G ax_NoName,
    ik_ChamberError := ⟨ird_ChamberError, isp_ChamberError, ifc_ChamberError⟩,
    xt_NoRow := ⟨⟨xg_NoRow, xk0_NoRow, xb_NoRow⟩, by rw [xc_NoRow]; rfl, xh_NoRow, xhn, xhtk, xo_NoRow⟩,
    F_x_NoRow := F_x_NoRow,
    b_x_NoRow := b_x_NoRow,
    xI_NoRow := ⟨⟨_, _, _, _, _, _, _, _, _, _, _, _, _, _, _, _, lx_NoRow, (OwnT.own lx_ChamberError (by rw [en_ChamberError]; exact ⟨⟨_, _, _, _, _, ln_ChamberError, sk_ChamberError⟩, ni_ChamberError⟩) OwnT.base), rfl, ⟨⟨_, _, _, _, _, ln_NoRow, sk_NoRow⟩, ni_NoRow⟩⟩, xf_NoRow, xs_NoRow, xn_NoRow⟩,
    xr_NoRow := ⟨⟨xg_NoRow, xk0_NoRow, xb_NoRow⟩, xn_NoRow, xd_NoRow⟩,
    xm_NoRow_ChamberError := xm_NoRow_ChamberError,
    xi_NoRow_NoFit := xi_NoRow_NoFit,
    xi_NoRow_Barred := xi_NoRow_Barred,
    xi_NoRow_NoMatter := xi_NoRow_NoMatter,
    xi_NoRow_NoChange := xi_NoRow_NoChange,
    xi_NoRow_NotLater := xi_NoRow_NotLater,
    xi_NoRow_Nothing := xi_NoRow_Nothing,
    xi_NoRow_TooMany := xi_NoRow_TooMany,
    xi_NoRow_NoAside := xi_NoRow_NoAside,
    xi_NoRow_NotYet := xi_NoRow_NotYet,
    xi_NoRow_NoNumber := xi_NoRow_NoNumber,
    xi_NoRow_NoRow := xi_NoRow_NoRow,
    xi_NoRow_NoName := xi_NoRow_NoName,
    xi_NoRow_ValueError := xi_NoRow_ValueError }
  exact ⟨PySem.W.fnOf "law" "law" (defArgs s_law) (defBody s_law) (defScope s_law) .none kV_20 dc_20 pm_20 an_20 cd_20 ct_20, fun s v => .of_eq rfl, fun base _ _ => ok_law F_20 T⟩
theorem walk {l : PySem.W.OpenLaw} {q : Program} {loose : List Str} {XP : (Str → Option Value) → Heap → Prop} {YP : World → Heap → Prop} {d : DefRec} {K : Params → PySem.W.Frag} (hn : l.most = some 63) (hdf : d.params.defaults = [])
    (hY : ∀ (w : World) (h : Heap), YP w h → (K w.params).In h)
    (F : ∀ (w : World) (mg : Str → Option Value) (fa : Addr) (h : Heap), (K w.params).In h → h.Ns mainGlobals mg → mg d.name = some (.ref fa) →
      ∃ fd : FuncData, (∀ (s : Shared) (u : Value), BindsTo s fd ⟨[u], []⟩ [("_law_script", u)]) ∧ ∀ base : Heap, (K w.params).In base → base.Ns mainGlobals mg → FnOk l.prog w (K w.params) mg base CX0 9 fa fd ["_law_script"] (spLaw (K w.params))) :
    PySem.W.WalkO q loose XP YP l.row.toRowW d [] (fun f vs => PySem.call f vs) :=
  L2.walk_of (n := 63) (k := 9) (x := "_law_script") (CX := fun _ => CX0) (sp := fun w => spLaw (K w.params)) hn (by decide) hdf ⟨rfl, by decide, by decide, rfl⟩ hY F (fun _ _ a ns hl _ hS => ⟨a, ns, rfl, hS, hl, fun _ => rfl⟩) fun _ _ _ _ _ z => z
end My
def PySem.W.Fast.tw4600099185564951519 : Unit := ()
def PySem.W.Fast.tw9435112613624701724 : Unit := ()
def PySem.W.Fast.tw3266285110181639875 : Unit := ()
def PySem.W.Fast.tw6930029267157614689 : Unit := ()
def PySem.W.Fast.tw6605516344700735382 : Unit := ()
def PySem.W.Fast.tw6444131144993219504 : Unit := ()
def PySem.W.Fast.tw16758353862467162318 : Unit := ()
def PySem.W.Fast.tw839173603154377034 : Unit := ()
def PySem.W.Fast.tw11913520916903189702 : Unit := ()
def PySem.W.Fast.tw8238056454066250109 : Unit := ()
def PySem.W.Fast.tw7670381251376080868 : Unit := ()
def PySem.W.Fast.tw4697933119244644670 : Unit := ()
def PySem.W.Fast.tw17353005571161979464 : Unit := ()
def PySem.W.Fast.tw16660329629830735080 : Unit := ()
def PySem.W.Fast.tw4494733054411237013 : Unit := ()
def PySem.W.Fast.tw16576960871980786353 : Unit := ()
def PySem.W.Fast.tw11533714895459827710 : Unit := ()
def PySem.W.Fast.tw13574542613761981161 : Unit := ()
def PySem.W.Fast.tw4587774868032487664 : Unit := ()
def PySem.W.Fast.tw8091960011756038481 : Unit := ()
def PySem.W.Fast.tw11362877806864859820 : Unit := ()
def PySem.W.Fast.tw10304035490832970447 : Unit := ()
def PySem.W.Fast.tw17218419000980999742 : Unit := ()
def PySem.W.Fast.tw13781378485846525024 : Unit := ()
def PySem.W.Fast.tw4466120517368886025 : Unit := ()
def PySem.W.Fast.tw13099663559530836933 : Unit := ()
def PySem.W.Fast.tw7777340533620204733 : Unit := ()
def PySem.W.Fast.tw937999209926502860 : Unit := ()
def PySem.W.Fast.tw2591267031240943790 : Unit := ()
def PySem.W.Fast.tw4996716282807015126 : Unit := ()
def PySem.W.Fast.tw17352466633436281912 : Unit := ()
def PySem.W.Fast.tw15366737303897539147 : Unit := ()
def PySem.W.Fast.tw13739650390323586789 : Unit := ()
def PySem.W.Fast.tw2909788799896217795 : Unit := ()
def PySem.W.Fast.tw8911991053248817491 : Unit := ()
def PySem.W.Fast.tw3778371157589191833 : Unit := ()
def PySem.W.Fast.tw9372347122203773487 : Unit := ()
def PySem.W.Fast.tw8446494366703947105 : Unit := ()
def PySem.W.Fast.tw12807945367820893170 : Unit := ()
def PySem.W.Fast.tw18344057604892505341 : Unit := ()
def PySem.W.Fast.tw13453536289910249229 : Unit := ()
def PySem.W.Fast.tw16131285426753351542 : Unit := ()
def PySem.W.Fast.tw16408993021657888517 : Unit := ()
def PySem.W.Fast.tw14636628407229908250 : Unit := ()
def PySem.W.Fast.tw4257882016804098415 : Unit := ()
def PySem.W.Fast.tw8144790646810689481 : Unit := ()
def PySem.W.Fast.tw6483485659179931837 : Unit := ()
def PySem.W.Fast.tw9173650639490009422 : Unit := ()
def PySem.W.Fast.tw14190038295936882353 : Unit := ()
def PySem.W.Fast.tw10899160268821077715 : Unit := ()
def PySem.W.Fast.tw16881960363092490832 : Unit := ()
def PySem.W.Fast.tw6192653582610614691 : Unit := ()
def PySem.W.Fast.tw17472920438786835869 : Unit := ()
def PySem.W.Fast.tw16233921723670183320 : Unit := ()
def PySem.W.Fast.tw9866283225425645194 : Unit := ()
def PySem.W.Fast.tw5418706962126739202 : Unit := ()
def PySem.W.Fast.tw13765543899384987223 : Unit := ()
def PySem.W.Fast.tw9675357061811942935 : Unit := ()
def PySem.W.Fast.tw71358945816637379 : Unit := ()
def PySem.W.Fast.tw12356261701839234583 : Unit := ()
def PySem.W.Fast.tw12589559236018294935 : Unit := ()
def PySem.W.Fast.tw12797776204237305730 : Unit := ()
def PySem.W.Fast.tw5138241341371593368 : Unit := ()
def PySem.W.Fast.tw11773376584441591972 : Unit := ()
def PySem.W.Fast.tw7639634611544797264 : Unit := ()
def PySem.W.Fast.tw18057261952877526567 : Unit := ()
def PySem.W.Fast.tw17432229707782617152 : Unit := ()
def PySem.W.Fast.tw11807602283561296599 : Unit := ()
def PySem.W.Fast.tw17335971613969318864 : Unit := ()
def PySem.W.Fast.tw4931934058846552409 : Unit := ()
def PySem.W.Fast.tw2059896354129273196 : Unit := ()
def PySem.W.Fast.tw5020026485590596529 : Unit := ()
def PySem.W.Fast.tw14450281201747498911 : Unit := ()
def PySem.W.Fast.tw3085034969072650896 : Unit := ()
def PySem.W.Fast.tw12516701321399602060 : Unit := ()
def PySem.W.Fast.tw1971107136495786828 : Unit := ()
def PySem.W.Fast.tw8943169787953629110 : Unit := ()
def PySem.W.Fast.tw5586441742531296389 : Unit := ()
def PySem.W.Fast.tw612285655375048188 : Unit := ()
def PySem.W.Fast.tw3042842193350274408 : Unit := ()
def PySem.W.Fast.tw14574522394201870740 : Unit := ()
def PySem.W.Fast.tw17637765799219766736 : Unit := ()
open PySem PySem.W PyProof.Rows
set_option maxRecDepth 100000 in
set_option maxHeartbeats 0 in
theorem PySem.Challenge.cw_moot_k29_rows_refused_holds : PySem.Challenge.rw_moot_k29_rows_refused.Holds := by
  w_on; o_law; k_head; (case hw => w_witness2)
  k_fill
  refine My.walk (l := PySem.Challenge.rw_moot_k29_rows_refused) rfl rfl (fun w h Y => PySem.W.kIn_of Y) ?F
  case F =>
    intro w mg fa h KX G hmg
    refine' My.all_mk KX G hmg ?a_1 ?l_1 ?cc_1 ?kp_1 ?a_2 ?l_2 ?cc_2 ?kp_2 ?a_3 ?l_3 ?cc_3 ?kp_3 ?a_4 ?l_4 ?cc_4 ?kp_4 ?a_5 ?l_5 ?cc_5 ?kp_5 ?a_6 ?l_6 ?cc_6 ?kp_6 ?a_7 ?l_7 ?cc_7 ?kp_7 ?a_8 ?l_8 ?cc_8 ?kp_8 ?a_9 ?l_9 ?cc_9 ?kp_9 ?a_10 ?l_10 ?cc_10 ?kp_10 ?a_11 ?l_11 ?cc_11 ?kp_11 ?a_12 ?l_12 ?cc_12 ?kp_12 ?a_13 ?l_13 ?cc_13 ?kp_13 ?a_14 ?l_14 ?cc_14 ?kp_14 ?a_15 ?l_15 ?cc_15 ?kp_15 ?a_16 ?l_16 ?cc_16 ?kp_16 ?a_17 ?l_17 ?cc_17 ?kp_17 ?a_18 ?l_18 ?cc_18 ?kp_18 ?a_19 ?l_19 ?cc_19 ?kp_19 ?a_20 ?l_20 ?cc_20 ?kp_20 ?z1 ?z2 ?z3 ?z4 ?z5 ?z6 ?z7 ?z8 ?z9 ?z10 ?z11 ?z12 ?ak_FIGURES ?ak_MOST_FIGURES ?ak_MOST_SIGNS ?ak_LAST_SITTING ?ak_PERCENT ?ak_LONE ?lk_LONE ?ax_ChamberError ?ax_NoFit ?ax_Barred ?ax_NoMatter ?ax_NoChange ?ax_NotLater ?ax_Nothing ?ax_TooMany ?ax_NoAside ?ax_NotYet ?ax_NoNumber ?ax_NoRow ?ax_NoName ?lx_NoRow ?lx_ChamberError ?en_ChamberError ?ln_NoRow ?sk_NoRow ?ni_NoRow ?ln_ChamberError ?sk_ChamberError ?ni_ChamberError ?xhn ?xhtk ?ird_ChamberError ?isp_ChamberError ?ifc_ChamberError ?xg_NoRow ?xk0_NoRow ?xb_NoRow ?xc_NoRow ?xh_NoRow ?xo_NoRow ?l_x_NoRow ?cc_x_NoRow ?kp_x_NoRow ?xf_NoRow ?xs_NoRow ?xn_NoRow ?xd_NoRow ?xm_NoRow_ChamberError ?xi_NoRow_NoFit ?xi_NoRow_Barred ?xi_NoRow_NoMatter ?xi_NoRow_NoChange ?xi_NoRow_NotLater ?xi_NoRow_Nothing ?xi_NoRow_TooMany ?xi_NoRow_NoAside ?xi_NoRow_NotYet ?xi_NoRow_NoNumber ?xi_NoRow_NoRow ?xi_NoRow_NoName ?xi_NoRow_ValueError
    (case a_1 => k_is)
    (case l_1 => k_is)
    (case cc_1 => k_is)
    (case kp_1 => k_is)
    (case a_2 => k_is)
    (case l_2 => k_is)
    (case cc_2 => k_is)
    (case kp_2 => k_is)
    (case a_3 => k_is)
    (case l_3 => k_is)
    (case cc_3 => k_is)
    (case kp_3 => k_is)
    (case a_4 => k_is)
    (case l_4 => k_is)
    (case cc_4 => k_is)
    (case kp_4 => k_is)
    (case a_5 => k_is)
    (case l_5 => k_is)
    (case cc_5 => k_is)
    (case kp_5 => k_is)
    (case a_6 => k_is)
    (case l_6 => k_is)
    (case cc_6 => k_is)
    (case kp_6 => k_is)
    (case a_7 => k_is)
    (case l_7 => k_is)
    (case cc_7 => k_is)
    (case kp_7 => k_is)
    (case a_8 => k_is)
    (case l_8 => k_is)
    (case cc_8 => k_is)
    (case kp_8 => k_is)
    (case a_9 => k_is)
    (case l_9 => k_is)
    (case cc_9 => k_is)
    (case kp_9 => k_is)
    (case a_10 => k_is)
    (case l_10 => k_is)
    (case cc_10 => k_is)
    (case kp_10 => k_is)
    (case a_11 => k_is)
    (case l_11 => k_is)
    (case cc_11 => k_is)
    (case kp_11 => k_is)
    (case a_12 => k_is)
    (case l_12 => k_is)
    (case cc_12 => k_is)
    (case kp_12 => k_is)
    (case a_13 => k_is)
    (case l_13 => k_is)
    (case cc_13 => k_is)
    (case kp_13 => k_is)
    (case a_14 => k_is)
    (case l_14 => k_is)
    (case cc_14 => k_is)
    (case kp_14 => k_is)
    (case a_15 => k_is)
    (case l_15 => k_is)
    (case cc_15 => k_is)
    (case kp_15 => k_is)
    (case a_16 => k_is)
    (case l_16 => k_is)
    (case cc_16 => k_is)
    (case kp_16 => k_is)
    (case a_17 => k_is)
    (case l_17 => k_is)
    (case cc_17 => k_is)
    (case kp_17 => k_is)
    (case a_18 => k_is)
    (case l_18 => k_is)
    (case cc_18 => k_is)
    (case kp_18 => k_is)
    (case a_19 => k_is)
    (case l_19 => k_is)
    (case cc_19 => k_is)
    (case kp_19 => k_is)
    (case a_20 => k_is)
    (case l_20 => k_is)
    (case cc_20 => k_is)
    (case kp_20 => k_is)
    (case z1 => k_is)
    (case z2 => k_is)
    (case z3 => k_is)
    (case z4 => k_is)
    (case z5 => k_is)
    (case z6 => k_is)
    (case z7 => k_is)
    (case z8 => k_is)
    (case z9 => k_is)
    (case z10 => k_is)
    (case z11 => k_is)
    (case z12 => k_is)
    (case ak_FIGURES => k_is)
    (case ak_MOST_FIGURES => k_is)
    (case ak_MOST_SIGNS => k_is)
    (case ak_LAST_SITTING => k_is)
    (case ak_PERCENT => k_is)
    (case ak_LONE => k_is)
    (case lk_LONE => k_is)
    (case ax_ChamberError => k_is)
    (case ax_NoFit => k_is)
    (case ax_Barred => k_is)
    (case ax_NoMatter => k_is)
    (case ax_NoChange => k_is)
    (case ax_NotLater => k_is)
    (case ax_Nothing => k_is)
    (case ax_TooMany => k_is)
    (case ax_NoAside => k_is)
    (case ax_NotYet => k_is)
    (case ax_NoNumber => k_is)
    (case ax_NoRow => k_is)
    (case ax_NoName => k_is)
    (case lx_NoRow => k_is)
    (case lx_ChamberError => k_is)
    (case en_ChamberError => rfl)
    (case ln_NoRow => k_is)
    (case sk_NoRow => with_unfolding_all rfl)
    (case ni_NoRow => k_is)
    (case ln_ChamberError => k_is)
    (case sk_ChamberError => with_unfolding_all rfl)
    (case ni_ChamberError => k_is)
    (case xhn => k_is)
    (case xhtk => k_is)
    (case ird_ChamberError => k_is)
    (case isp_ChamberError => k_is)
    (case ifc_ChamberError => k_is)
    (case xg_NoRow => k_is)
    (case xk0_NoRow => k_is)
    (case xb_NoRow => k_is)
    (case xc_NoRow => k_is)
    (case xh_NoRow => k_is)
    (case xo_NoRow => k_is)
    (case l_x_NoRow => k_is)
    (case cc_x_NoRow => k_is)
    (case kp_x_NoRow => k_is)
    (case xf_NoRow => k_is)
    (case xs_NoRow => k_is)
    (case xn_NoRow => k_is)
    (case xd_NoRow => k_is)
    (case xm_NoRow_ChamberError => kts_exm)
    (case xi_NoRow_NoFit => kit_is)
    (case xi_NoRow_Barred => kit_is)
    (case xi_NoRow_NoMatter => kit_is)
    (case xi_NoRow_NoChange => kit_is)
    (case xi_NoRow_NotLater => kit_is)
    (case xi_NoRow_Nothing => kit_is)
    (case xi_NoRow_TooMany => kit_is)
    (case xi_NoRow_NoAside => kit_is)
    (case xi_NoRow_NotYet => kit_is)
    (case xi_NoRow_NoNumber => kit_is)
    (case xi_NoRow_NoRow => kit_is)
    (case xi_NoRow_NoName => kit_is)
    (case xi_NoRow_ValueError => kit_is)

