import PyProof.Rows.All
import Wide.All
import OpenK.AllK
import Wide.FinOn
import Lean
import PyProof.EqAt
import PyProof.EqKinds
import PyProof.TupleCall
import PySem.Challenge.RW_moot_k30_deeds_done
set_option Elab.async false
set_option linter.all false
set_option maxRecDepth 100000
namespace L2
open PySem PySem.Spec PyProof.Rows
abbrev Key:=Sum Int Str
def yw : Key → Value → Bool
  | .inl k,v=>Value.isInt k v
  | .inr x,v=>Value.isStrOf x v
def aby (w : World) : Key → Int
  | .inl k=>hashInt k
  | .inr x=>hashStr w x
theorem dE : ∀ {k : Key} {v : Value},yw k v = true → (∃ i t,k = Sum.inl i ∧ v = Value.int i t) ∨ (∃ x t,k = Sum.inr x ∧ v = Value.str x t)
  | .inl i,v,h=>by
    obtain ⟨t,e⟩:=Value.isInt_shape (k:=i) (v:=v) h
    exact .inl ⟨i,t,rfl,e⟩
  | .inr x,v,h=>by
    obtain ⟨t,e⟩:=Value.isStrOf_shape (x:=x) (v:=v) h
    exact .inr ⟨x,t,rfl,e⟩
theorem JL (i : Int) (t : Tok) : yw (.inl i) (.int i t) = true:=by simp [yw,Value.isInt]
theorem JM (x : Str) (t : Tok) : yw (.inr x) (.str x t) = true:=by simp [yw,Value.isStrOf]
theorem Q7 (a b : Int) : decide ((Sum.inl a : Key) = Sum.inl b) = (a == b):=by
  by_cases e : a = b
  · subst e; simp
  · have h : ¬ (Sum.inl a : Key) = Sum.inl b:=fun q=>e (Sum.inl.inj q)
    rw [decide_eq_false h]
    exact (beq_eq_false_iff_ne.mpr e).symm
theorem Q8 (a b : Str) : decide ((Sum.inr a : Key) = Sum.inr b) = decide (a = b):=by
  by_cases e : a = b
  · subst e; simp
  · have h : ¬ (Sum.inr a : Key) = Sum.inr b:=fun q=>e (Sum.inr.inj q)
    rw [decide_eq_false h,decide_eq_false e]
theorem Q9 (a : Int) (b : Str) : decide ((Sum.inl a : Key) = Sum.inr b) = false:=decide_eq_false (fun q=>nomatch q)
theorem Ra (a : Str) (b : Int) : decide ((Sum.inr a : Key) = Sum.inl b) = false:=decide_eq_false (fun q=>nomatch q)
def dS (prog : Program) (w : World) : PySem.KeyKind prog w Key where
  is:=yw
  hash:=aby w
  inj:=fun v a b ha hb=>by
    rcases dE ha with ⟨i,t,rfl,rfl⟩ | ⟨x,t,rfl,rfl⟩
    · rcases dE hb with ⟨j,u,rfl,e⟩ | ⟨y,u,rfl,e⟩
      · injection e with e1 _; rw [e1]
      · exact nomatch e
    · rcases dE hb with ⟨j,u,rfl,e⟩ | ⟨y,u,rfl,e⟩
      · exact nomatch e
      · injection e with e1 _; rw [e1]
  byValue:=fun k v h=>by
    rcases dE h with ⟨i,t,rfl,rfl⟩ | ⟨x,t,rfl,rfl⟩ <;> rfl
  pyHash:=fun hv h=>by
    rcases dE hv with ⟨i,t,rfl,rfl⟩ | ⟨x,t,rfl,rfl⟩
    · exact wpAny_pyHash_int h
    · exact wpAny_pyHash_str h
  eqBool:=fun hu hv h=>by
    rcases dE hu with ⟨i,t,rfl,rfl⟩ | ⟨x,t,rfl,rfl⟩
    · rcases dE hv with ⟨j,u,rfl,rfl⟩ | ⟨y,u,rfl,rfl⟩
      · rw [Q7] at h; exact wpAny_eqBool_int h
      · rw [Q9] at h; exact SeqAt.EqAt.int_str i t y u _ _ _ _ h
    · rcases dE hv with ⟨j,u,rfl,rfl⟩ | ⟨y,u,rfl,rfl⟩
      · rw [Ra] at h; exact SeqAt.EqAt.str_int x t j u _ _ _ _ h
      · rw [Q8] at h; exact wpAny_eqBool_str h
  «strs»:=fun k x t v h=>by
    rcases dE h with ⟨i,u,rfl,e⟩ | ⟨y,u,rfl,e⟩
    · exact nomatch e
    · injection e with e1 _
      subst e1
      cases v <;> rfl
theorem CT (prog : Program) (w : World) (i : Int) (t : Tok) : (dS prog w).is (.inl i) (.int i t) = true:=JL i t
theorem CU (prog : Program) (w : World) (x : Str) (t : Tok) : (dS prog w).is (.inr x) (.str x t) = true:=JM x t
end L2
namespace L2
open PySem PySem.Spec PyProof.Rows
inductive V where
  | non | bl (b : Bool) | int (i : Int) | str (x : Str) | byt (b : Array UInt8) | flt (b : UInt64) | ref (a : Addr) | ty (n : String)
  deriving DecidableEq
def RelV : V → Value → Prop
  | .non,u=>u = Value.none
  | .bl b,u=>u = Value.bool b
  | .int i,u=>∃ t,u = Value.int i t
  | .str x,u=>∃ t,u = Value.str x t
  | .byt b,u=>∃ t,u = Value.bytes b t
  | .flt b,u=>∃ t,u = Value.float b t
  | .ref a,u=>u = Value.ref a
  | .ty n,u=>u = Value.type n
abbrev Vals : List V → List Value → Prop:=Paired RelV
theorem Vals.length {xs : List V} {us : List Value} (r : Vals xs us) : xs.length = us.length:=Paired.length r
theorem Vals.get : ∀ {xs : List V} {us : List Value} {i : Nat} {x : V},Vals xs us → xs[i]? = some x → ∃ u,us[i]? = some u ∧ RelV x u
  | _,_,_,_,.nil,e=>by simp at e
  | _,_,0,_,.cons r _,e=>by simp at e; subst e; exact ⟨_,rfl,r⟩
  | _,_,i + 1,x,.cons _ t,e=>by
    obtain ⟨u,h1,h2⟩:=Vals.get (i:=i) (x:=x) t (by simpa using e)
    exact ⟨u,by simpa using h1,h2⟩
theorem Vals.set {x : V} {u : Value} (r : RelV x u) : ∀ {xs : List V} {us : List Value} (i : Nat),Vals xs us → Vals (xs.set i x) (us.set i u)
  | _,_,_,.nil=>.nil
  | _,_,0,.cons _ t=>.cons r t
  | _,_,i + 1,.cons q t=>.cons q (Vals.set r i t)
theorem Vals.append : ∀ {xs ys : List V} {us ws : List Value},Vals xs us → Vals ys ws → Vals (xs ++ ys) (us ++ ws)
  | _,_,_,_,.nil,s=>s
  | _,_,_,_,.cons r t,s=>.cons r (Vals.append t s)
theorem Vals.take : ∀ {xs : List V} {us : List Value} (n : Nat),Vals xs us → Vals (xs.take n) (us.take n)
  | _,_,0,_=>.nil
  | _,_,_ + 1,.nil=>.nil
  | _,_,n + 1,.cons r t=>.cons r (Vals.take n t)
theorem Vals.drop : ∀ {xs : List V} {us : List Value} (n : Nat),Vals xs us → Vals (xs.drop n) (us.drop n)
  | _,_,0,r=>r
  | _,_,_ + 1,.nil=>.nil
  | _,_,n + 1,.cons _ t=>Vals.drop n t
theorem Vals.none_of : ∀ {xs : List V} {us : List Value} {i : Nat},Vals xs us → xs[i]? = none → us[i]? = none:=fun {xs us i} r e=>by
  have h1:=r.length
  have h2 : xs.length ≤ i:=List.getElem?_eq_none_iff.mp e
  exact List.getElem?_eq_none_iff.mpr (by omega)
def nW : Option V → Option Value → Prop
  | some v,some u=>RelV v u
  | none,none=>True
  | _,_=>False
def KV {κ : Type} : List (κ × V) → List (κ × Value) → Prop:=Paired fun (p : κ × V) (q : κ × Value)=>p.1 = q.1 ∧ RelV p.2 q.2
def kV : Key → V
  | .inl i=>.int i
  | .inr x=>.str x
inductive HO where
  | lst (xs : List V)
  | tup (xs : List V)
  | dK (kvs : List (Key × V)) | dT (kvs : List (List Key × V))
  | set (S : Int → Bool) (n : Nat)
  | ins (C dx : Addr) (fs : List (Str × V))
  | own (x : Addr)
  | xd (fs : List (Str × V))
  | met (f x : Addr)
  | rng (lo hi : Int)
  | frz (o : Obj) (u : HO)
  | tbl (ps : Array Value)
  | ext (φ : Heap → Prop)
abbrev Hp:=Addr → Option HO
def upd (H : Hp) (a : Addr) (o : HO) : Hp:=fun b=>if b = a then some o else H b
theorem ae {H : Hp} {a : Addr} {o : HO} : upd H a o a = some o:=by unfold upd; rw [if_pos rfl]
theorem aq {H : Hp} {a b : Addr} {o : HO} (h : b ≠ a) : upd H a o b = H b:=by unfold upd; rw [if_neg h]
theorem mQ {H : Hp} {a : Addr} {o u : HO} : upd (upd H a o) a u = upd H a u:=by
  funext b; unfold upd; split <;> rfl
theorem VP {H : Hp} {a b : Addr} {o u : HO} (h : H a = some o) (h' : H b = some u) (d : o ≠ u) : a ≠ b:=by
  intro e; subst e; rw [h] at h'; exact d (Option.some.inj h')
theorem aV {H : Hp} {a b : Addr} {o : HO} (h : H a = some o) (h' : H b = none) : a ≠ b:=by
  intro e; subst e; rw [h] at h'; cases h'
section
variable (P : Program) (w : World)
def dF (H : Hp) (h : Heap) (a : Addr) : HO → Prop
  | .lst xs=>xs.length ≤ sizeLine ∧ ∃ (its : List Value) (n : Nat),Vals xs its ∧ h.get? a = some { cls:=.type "list",data:=.seq its.toArray n }
  | .tup xs=>xs.length ≤ sizeLine ∧ ∃ its : List Value,Vals xs its ∧ IsTup h a its.toArray
  | .dK kvs=>kvs.length ≤ sizeLine ∧ (a == sysModules) = false ∧ ∃ vs,KV kvs vs ∧ h.DictOf (dS P w) a vs
  | .dT kvs=>kvs.length ≤ sizeLine ∧ (a == sysModules) = false ∧ ∃ xs : List (List Key × Addr × Value),
      Paired (fun (p : List Key × V) (q : List Key × Addr × Value)=>p.1 = q.1 ∧ H q.2.1 = some (.tup (p.1.map kV)) ∧ RelV p.2 q.2.2) kvs xs ∧
      ∃ o es ep,h.get? a = some o ∧ o.ExactDict ∧ o.data = .dict es ep ∧ es.toList = xs.map (entryOfKey (tupleKind (dS P w))) ∧ (xs.map (·.1)).Nodup
  | .set S n=>h.SetOf (intKind P w) a S n
  | .ins C dx fs=>H dx = some (.own a) ∧ fs.length ≤ 1000 ∧ dx ≠ a ∧ h.get? a = some (PySem.W.instObj C dx) ∧
      ∃ mA,h.Ns1 dx mA ∧ (∀ f,nW (fs.lookup f) (mA f)) ∧ PySem.Within mA (fs.map (·.1))
  | .own _=>∃ o,h.get? a = some o
  | .xd fs=>∃ mA,h.Ns1 a mA ∧ ∀ f,nW (fs.lookup f) (mA f)
  | .rng lo hi=>∃ t u v,h.get? a = some { cls:=.type "range",data:=.fields #[.int lo t,.int hi u,.int 1 v] }
  | .frz o u=>h.get? a = some o ∧ dF H h a u
  | .tbl ps=>h.get? a = some { cls:=.none,data:=.fields ps }
  | .met f x=>h.get? a = some (PySem.W.methodObj (.ref f) (.ref x))
  | .ext φ=>φ h ∧ (∃ o,h.get? a = some o) ∧ ∀ h1 h2 : Heap,φ h1 → (∀ o,h1.get? a = some o → h2.get? a = some o) → φ h2
def HOk (H : Hp) (h : Heap) : Prop:=∀ a o,H a = some o → dF P w H h a o
end
section
variable {P : Program} {w : World} {H H' : Hp} {h h' : Heap} {a : Addr} {o : HO}
theorem dF.lt (x : dF P w H h a o) : a < h.objs.size:=by
  cases o with
  | lst xs=>obtain ⟨_,_,_,_,e⟩:=x; exact Heap.lt_size e
  | tup xs=>obtain ⟨_,_,_,p⟩:=x; exact p.lt
  | dK kvs=>obtain ⟨_,_,_,_,o,_,_,e,_⟩:=x; exact Heap.lt_size e
  | dT kvs=>obtain ⟨_,_,_,_,o,_,_,e,_⟩:=x; exact Heap.lt_size e
  | set S n=>obtain ⟨o,_,_,_,e,_⟩:=x; exact Heap.lt_size e
  | ins C dx fs=>obtain ⟨_,_,_,e,_⟩:=x; exact Heap.lt_size e
  | own y=>obtain ⟨_,e⟩:=x; exact Heap.lt_size e
  | xd fs=>obtain ⟨_,⟨_,_,_,e,_⟩,_⟩:=x; exact Heap.lt_size e
  | rng lo hi=>obtain ⟨_,_,_,e⟩:=x; exact Heap.lt_size e
  | frz ob u=>obtain ⟨e,_⟩:=x; exact Heap.lt_size e
  | tbl ps=>exact Heap.lt_size (show h.get? a = some _ from x)
  | met f y=>exact Heap.lt_size (show h.get? a = some _ from x)
  | ext φ=>obtain ⟨_,⟨_,e⟩,_⟩:=x; exact Heap.lt_size e
theorem Paired.Rb {α β : Type} {F G : α → β → Prop} : ∀ {l₁ : List α} {l₂ : List β},Paired F l₁ l₂ → (∀ a b,F a b → G a b) → Paired G l₁ l₂
  | _,_,.nil,_=>.nil
  | _,_,.cons r t,f=>.cons (f _ _ r) (Paired.Rb t f)
theorem dF.Ab (x : dF P w H h a o) (k : ∀ b u,(b = a ∨ H b = some (.own a)) → h.get? b = some u → h'.get? b = some u)
    (ho : ∀ b,H b = some (.own a) → H' b = some (.own a)) (ht : ∀ b xs,H b = some (.tup xs) → H' b = some (.tup xs)) : dF P w H' h' a o:=by
  induction o with
  | lst xs=>obtain ⟨z,its,n,r,e⟩:=x; exact ⟨z,its,n,r,k _ _ (.inl rfl) e⟩
  | tup xs=>obtain ⟨z,its,r,ob,e,c⟩:=x; exact ⟨z,its,r,ob,k _ _ (.inl rfl) e,c⟩
  | dK kvs=>obtain ⟨z,y,vs,r,ob,es,ep,e,c⟩:=x; exact ⟨z,y,vs,r,ob,es,ep,k _ _ (.inl rfl) e,c⟩
  | dT kvs =>
    obtain ⟨z,y,xs,r,ob,es,ep,e,c⟩:=x
    exact ⟨z,y,xs,Paired.Rb r fun p q z=>⟨z.1,ht _ _ z.2.1,z.2.2⟩,ob,es,ep,k _ _ (.inl rfl) e,c⟩
  | set S n=>obtain ⟨ob,es,ep,t,e,c⟩:=x; exact ⟨ob,es,ep,t,k _ _ (.inl rfl) e,c⟩
  | ins C dx fs =>
    obtain ⟨d,z,ne,e,mA,⟨od,es,ep,e2,c⟩,r⟩:=x
    exact ⟨ho _ d,z,ne,k _ _ (.inl rfl) e,mA,⟨od,es,ep,k _ _ (.inr d) e2,c⟩,r⟩
  | own y=>obtain ⟨ob,e⟩:=x; exact ⟨ob,k _ _ (.inl rfl) e⟩
  | xd fs=>obtain ⟨mA,⟨od,es,ep,e,c⟩,r⟩:=x; exact ⟨mA,⟨od,es,ep,k _ _ (.inl rfl) e,c⟩,r⟩
  | rng lo hi=>obtain ⟨t,u,v,e⟩:=x; exact ⟨t,u,v,k _ _ (.inl rfl) e⟩
  | frz ob u ih=>obtain ⟨e,q⟩:=x; exact ⟨k _ _ (.inl rfl) e,ih q⟩
  | tbl ps =>
    have e : h.get? a = some { cls:=.none,data:=.fields ps }:=x
    show h'.get? a = some { cls:=.none,data:=.fields ps }
    exact k a _ (.inl rfl) e
  | met f y =>
    have e : h.get? a = some (PySem.W.methodObj (.ref f) (.ref y)):=x
    show h'.get? a = some (PySem.W.methodObj (.ref f) (.ref y))
    exact k a _ (.inl rfl) e
  | ext φ=>obtain ⟨p,⟨o,e⟩,st⟩:=x; exact ⟨st _ _ p fun o q=>k _ _ (.inl rfl) q,⟨o,k _ _ (.inl rfl) e⟩,st⟩
theorem HOk.lt (x : HOk P w H h) (e : H a = some o) : a < h.objs.size:=(x a o e).lt
theorem HOk.fresh (x : HOk P w H h) (e : h.objs.size ≤ a) : H a = none:=by
  cases q : H a with
  | none=>rfl
  | some u=>exact absurd (Nat.lt_of_lt_of_le (x.lt q) e) (Nat.lt_irrefl _)
theorem HOk.kept (x : HOk P w H h) (k : ∀ b u,h.get? b = some u → h'.get? b = some u) : HOk P w H h':=fun a o e =>
  (x a o e).Ab (fun b u _ q=>k b u q) (fun _ q=>q) fun _ _ q=>q
theorem HOk.laid (x : HOk P w H h) (k : ∀ b u,h.get? b = some u → h'.get? b = some u) (hp : h.objs.size ≤ a) (new : dF P w (upd H a o) h' a o) : HOk P w (upd H a o) h':=fun b u e=>by
  have hn:=x.fresh hp
  by_cases hb : b = a
  · subst hb; rw [ae] at e; cases e; exact new
  · rw [aq hb] at e
    exact (x b u e).Ab (fun c v _ q=>k c v q) (fun c q=>by rw [aq (aV q hn)]; exact q) fun c xs q=>by rw [aq (aV q hn)]; exact q
end
def Rd (H : Hp) (a : Addr) (u : HO) : Prop:=H a = some u ∨ ∃ o,H a = some (.frz o u)
theorem Rd.of {H : Hp} {a : Addr} {u : HO} (h : H a = some u) : Rd H a u:=.inl h
theorem Rd.ok {P : Program} {w : World} {H : Hp} {h : Heap} {a : Addr} {u : HO} (r : Rd H a u) (x : HOk P w H h) : dF P w H h a u:=by
  rcases r with r | ⟨o,r⟩
  · exact x a u r
  · obtain ⟨_,q⟩:=x a _ r
    exact q
def Mut : Option HO → Prop
  | some (.lst _)=>True
  | some (.dK _)=>True
  | some (.dT _)=>True
  | some (.set _ _)=>True
  | some (.ins _ _ _)=>True
  | some (.ext _)=>True
  | _=>False
section
variable {P : Program} {w : World} {H : Hp} {h h' : Heap} {x e : Addr} {o' : HO}
theorem HOk.write (ok : HOk P w H h) (mu : Mut (H x)) (he : e = x ∨ H e = some (.own x)) (k : ∀ b u,b ≠ e → h.get? b = some u → h'.get? b = some u) (heo : ∃ u,h'.get? e = some u)
    (new : dF P w (upd H x o') h' x o') : HOk P w (upd H x o') h':=fun b u q=>by
  have VQ : ∀ c y,H c = some (.own y) → c ≠ x:=fun c y r z=>by subst z; rw [r] at mu; exact mu
  have abz : ∀ c xs,H c = some (.tup xs) → c ≠ x:=fun c xs r z=>by subst z; rw [r] at mu; exact mu
  by_cases hb : b = x
  · subst hb; rw [ae] at q; cases q; exact new
  · rw [aq hb] at q
    by_cases hbe : b = e
    · have q' : H b = some (.own x):=by
        rcases he with z | z
        · exact absurd (hbe.trans z) hb
        · rw [hbe]; exact z
      rw [q] at q'; cases q'
      obtain ⟨v,hv⟩:=heo
      exact ⟨v,by rw [hbe]; exact hv⟩
    · refine (ok b u q).Ab (fun c v hc r=>k c v ?_ r) (fun c r=>by rw [aq (VQ c b r)]; exact r) fun c xs r=>by rw [aq (abz c xs r)]; exact r
      rcases hc with rfl | hc
      · exact hbe
      · rintro rfl
        rcases he with z | z
        · exact VQ c b hc z
        · rw [hc] at z; cases z; exact hb rfl
end
structure Un (fs ex : List Addr) (H H' : Hp) (h h' : Heap) : Prop where
  keep : ∀ b o,h.get? b = some o → H b = none → b ∉ fs → b ∉ ex → h'.get? b = some o
  slot : ∀ b o,h.get? b = some o → H b = none → b ∈ fs → b ∉ ex → ∃ sl,h'.get? b = some { o with slots:=sl }
  free : ∀ b o,h.get? b = some o → H b = none → b ∉ ex → H' b = none
  there : ∀ b o,h.get? b = some o → b ∉ ex → ∃ o',h'.get? b = some o'
  tU : ∀ b xs,H b = some (.tup xs) → H' b = some (.tup xs)
  sP : ∀ b o u,H b = some (.frz o u) → H' b = some (.frz o u)
  tV : ∀ b ps,H b = some (.tbl ps) → ∃ more,H' b = some (.tbl (ps ++ more))
section
variable {fs fs' ex ex' : List Addr} {H H1 H2 : Hp} {h h1 h2 h' : Heap} {a x e : Addr} {o : HO}
theorem Un.any (u : Un fs ex H H1 h h1) {b : Addr} {ob : Obj} (q : h.get? b = some ob) (n : H b = none) (hx : b ∉ ex) : ∃ sl,h1.get? b = some { ob with slots:=sl }:=by
  by_cases hb : b ∈ fs
  · exact u.slot b ob q n hb hx
  · exact ⟨ob.slots,u.keep b ob q n hb hx⟩
theorem Un.trans (a : Un fs ex H H1 h h1) (b : Un fs ex H1 H2 h1 h2) : Un fs ex H H2 h h2 where
  keep:=fun c ob q n hc hx=>b.keep c ob (a.keep c ob q n hc hx) (a.free c ob q n hx) hc hx
  slot:=fun c ob q n hc hx=>by
    obtain ⟨sl,e1⟩:=a.slot c ob q n hc hx
    obtain ⟨sl',e2⟩:=b.slot c _ e1 (a.free c ob q n hx) hc hx
    exact ⟨sl',e2⟩
  free:=fun c ob q n hx=>by
    obtain ⟨o',e1⟩:=a.there c ob q hx
    exact b.free c o' e1 (a.free c ob q n hx) hx
  there:=fun c ob q hx=>by
    obtain ⟨o',e1⟩:=a.there c ob q hx
    exact b.there c o' e1 hx
  tU:=fun c xs q=>b.tU c xs (a.tU c xs q)
  sP:=fun c ob xs q=>b.sP c ob xs (a.sP c ob xs q)
  tV:=fun c ps q=>by
    obtain ⟨m1,e1⟩:=a.tV c ps q
    obtain ⟨m2,e2⟩:=b.tV c _ e1
    exact ⟨m1 ++ m2,by rw [e2,Array.append_assoc]⟩
theorem Un.kept (k : ∀ b u,h.get? b = some u → h'.get? b = some u) : Un fs ex H H h h' :=
  ⟨fun b ob q _ _ _=>k b ob q,fun b ob q _ _ _=>⟨ob.slots,k b ob q⟩,fun _ _ _ n _=>n,fun b ob q _=>⟨ob,k b ob q⟩,fun _ _ q=>q,fun _ _ _ q=>q,fun _ ps q=>⟨#[],by rw [q]; simp⟩⟩
theorem Un.refl : Un fs ex H H h h:=Un.kept fun _ _ q=>q
theorem Un.laid (k : ∀ b u,h.get? b = some u → h'.get? b = some u) (hp : h.objs.size ≤ a) (hn : H a = none) : Un fs ex H (upd H a o) h h' where
  keep:=fun b u q _ _ _=>k b u q
  slot:=fun b u q _ _ _=>⟨u.slots,k b u q⟩
  free:=fun b u q n _=>by rw [aq (Nat.ne_of_lt (Nat.lt_of_lt_of_le (Heap.lt_size q) hp))]; exact n
  there:=fun b u q _=>⟨u,k b u q⟩
  tU:=fun b xs q=>by rw [aq (aV q hn)]; exact q
  sP:=fun b u xs q=>by rw [aq (aV q hn)]; exact q
  tV:=fun b ps q=>⟨#[],by rw [aq (aV q hn),q]; simp⟩
theorem Un.write (mu : Mut (H x)) (he : e = x ∨ H e = some (.own x)) (k : ∀ b u,b ≠ e → h.get? b = some u → h'.get? b = some u) (heo : ∃ u,h'.get? e = some u) : Un fs ex H (upd H x o) h h':=by
  have hx : ∀ b,H b = none → b ≠ x:=fun b n z=>by subst z; rw [n] at mu; exact mu
  have hb : ∀ b,H b = none → b ≠ e:=fun b n z=>by
    subst z
    rcases he with r | r
    · exact hx b n r
    · rw [n] at r; cases r
  have hm : ∀ b u,H b = some u → ¬ Mut (some u) → b ≠ x:=fun b u q nm z=>by subst z; rw [q] at mu; exact nm mu
  refine ⟨fun b u q n _ _=>k b u (hb b n) q,fun b u q n _ _=>⟨u.slots,k b u (hb b n) q⟩,fun b u q n _=>by rw [aq (hx b n)]; exact n,fun b u q _=>?_,
    fun b xs q=>by rw [aq (hm b _ q fun z=>z)]; exact q,fun b u xs q=>by rw [aq (hm b _ q fun z=>z)]; exact q,fun b ps q=>⟨#[],by rw [aq (hm b _ q fun z=>z),q]; simp⟩⟩
  by_cases hbe : b = e
  · subst hbe; exact heo
  · exact ⟨u,k b u hbe q⟩
theorem Un.mono (u : Un fs ex H H1 h h1) (hs : ∀ b ∈ fs,b ∈ fs') (hx : ∀ b ∈ ex,b ∈ ex') : Un fs' ex' H H1 h h1 :=
  ⟨fun b ob q n hb he=>u.keep b ob q n (fun z=>hb (hs b z)) fun z=>he (hx b z),fun _ _ q n _ he=>u.any q n fun z=>he (hx _ z),fun b ob q n he=>u.free b ob q n fun z=>he (hx b z),fun b ob q he=>u.there b ob q fun z=>he (hx b z),u.tU,u.sP,u.tV⟩
end
def trk (h : Heap) (H : Hp) : List Addr:=(List.range h.objs.size).filter fun a=>(H a).isSome
def Bu (h : Heap) (H : Hp) : Heap:=PySem.W.hideAll h (trk h H)
theorem JN (h : Heap) (H : Hp) : (Bu h H).objs.size = h.objs.size:=PySem.W.hideAll_size _ _
theorem Li {h : Heap} {H : Hp} {b : Addr} {o : Obj} (e : h.get? b = some o) (n : H b = none) : (Bu h H).get? b = some o :=
  PySem.W.hideAll_get _ e fun hm=>by
    have q : (H b).isSome = true:=(List.mem_filter.mp hm).2
    rw [n] at q; simp at q
theorem Od {h : Heap} {H : Hp} {b : Addr} {o : Obj} (e : (Bu h H).get? b = some o) : h.get? b = some o ∧ H b = none:=by
  have e' : h.get? b = some o:=PySem.W.of_hideAll (trk h H) e
  refine ⟨e',?_⟩
  cases q : H b with
  | none=>rfl
  | some x =>
    have hm : b ∈ trk h H:=List.mem_filter.mpr ⟨List.mem_range.mpr (Heap.lt_size e'),by simp [q]⟩
    have z : (Bu h H).get? b = none:=PySem.W.hideAll_none (trk h H) hm
    rw [z] at e; cases e
def Oe (g h : Heap) (L : Addr) : List (Addr × Obj):=(List.range h.objs.size).filterMap fun a=>if a = L ∨ (g.get? a).isSome = true then none else (h.get? a).map fun o=>(a,o)
def rest (g h : Heap) (L d : Addr) : List (Addr × Obj):=(Oe g h L).filter fun p=>decide (p.1 ≠ d)
end L2
namespace L2
open PySem PySem.Spec PyProof.Rows
structure Mod (K : PySem.W.Frag) (mg : Str → Option Value) (base : Heap) : Prop where
  kin : K.In base
  glob : base.Ns mainGlobals mg
  blt : ∃ mb,base.Ns builtinsNs mb ∧ ∀ x : Str,x ≠ "__name__" → mb x = bootBuiltins x
  nolimit : base.NoLimit
structure Cx where
  prog : Program
  w : World
  K : PySem.W.Frag
  mg : Str → Option Value
  base : Heap
  A : Around
  N : List Str
  s₀ : Shared
  H₀ : Hp
  env : Env
  outer : List Env
  stack : List Env
  ex : List Addr
  fn : Str → Bool
  calm : Bool
  pn : List (Addr × Obj)
  xe : Value → Shared → Prop
def frs (l : List Env) : List Addr:=l.filterMap (·.frame)
abbrev Cx.fs (X : Cx) : List Addr:=frs X.outer
def Vis (sc : Scope) (x : Str) : Prop:=sc.names.lookup x = some .local ∨ sc.names.lookup x = some .cell ∨ sc.names.lookup x = some .free
def Loc (sc : Scope) (x : Str) : Prop:=sc.names.lookup x = some .local ∨ sc.names.lookup x = some .cell
def Look (env : Env) (h : Heap) (m : Str → Option Value) (x : Str) (u : Value) : Prop :=
  (env.kindOf x = some .local ∧ m x = some u) ∨ ((env.kindOf x = some .cell ∨ env.kindOf x = some .free) ∧ ∃ c,env.cells.lookup x = some c ∧ h.IsCell c (some u))
structure Cx.Ok (X : Cx) : Prop where
  mod : Mod X.K X.mg X.base
  kind : X.env.scope.kind = .function
  glob : X.env.globals = mainGlobals
  blt : X.env.builtins = builtinsNs
  above : X.s₀.heap.objs.size ≤ X.env.locals
  inj : ∀ x y c,X.env.cells.lookup x = some c → X.env.cells.lookup y = some c → x = y
  has : ∀ x,(X.env.kindOf x = some .cell ∨ X.env.kindOf x = some .free) → ∃ c,X.env.cells.lookup x = some c
  cab : ∀ x c,X.fn x = true → X.env.cells.lookup x = some c → X.s₀.heap.objs.size ≤ c
  hd : X.calm = true → X.A.handled = none
  frames : X.A.frames = some X.stack
  stk : X.stack = X.outer ∨ (X.stack = X.env :: X.outer ∧ X.env.frame = some X.env.locals)
  exf : ∀ b ∈ X.ex,b ≠ X.env.locals ∧ ∀ x c,X.env.cells.lookup x = some c → c ≠ b
  bs : ∀ b o,X.base.get? b = some o → X.s₀.heap.get? b = some o ∧ X.H₀ b = none
  bsz : X.base.objs.size ≤ X.s₀.heap.objs.size
  F8 : ∀ b o,X.base.get? b = some o → b ∉ X.ex
  F9 : ∀ b ∈ X.ex,b ∉ X.fs
  sQ : X.s₀.heap.FunFrames X.base X.outer
  frf : ∀ b ∈ X.fs,X.H₀ b = none
structure Inv (X : Cx) (pins : List (Addr × Obj)) (σ : List (Option V)) (H : Hp) (s : Shared) : Prop where
  ok : X.Ok
  os : s.os = X.s₀.os
  bare : AllBare s.gens
  base : Un X.fs X.ex X.H₀ H X.s₀.heap s.heap
  loc : ∃ m,s.heap.Ns X.env.locals m ∧ ∀ (i : Nat) (x : Str) (v : V),X.N[i]? = some x → σ[i]? = some (some v) → Vis X.env.scope x → ∃ u,RelV v u ∧ Look X.env s.heap m x u
  cell : ∀ x c,X.env.cells.lookup x = some c → ∃ v,s.heap.IsCell c v
  free : H X.env.locals = none
  nX : ∀ x c,X.env.cells.lookup x = some c → H c = none
  pin : ∀ p ∈ X.pn ++ pins,s.heap.get? p.1 = some p.2 ∧ H p.1 = none ∧ p.1 ≠ X.env.locals ∧ p.1 ∉ X.fs ∧ ∀ v,p.2.data ≠ .cell v
  hok : HOk X.prog X.w H s.heap
  len : σ.length = X.N.length
section
variable {X : Cx} {pins : List (Addr × Obj)} {σ : List (Option V)} {H H' : Hp} {s : Shared} {h' : Heap}
theorem Cx.Ok.abA (ok : X.Ok) {b : Addr} {o : Obj} (e : X.base.get? b = some o) : b ∉ X.fs:=fun hb=>by
  have:=(ok.sQ.mem hb).1
  rw [e] at this; cases this
theorem Inv.bs (I : Inv X pins σ H s) : ∀ b o,X.base.get? b = some o → s.heap.get? b = some o ∧ H b = none:=fun b o e =>
  ⟨I.base.keep b o (I.ok.bs b o e).1 (I.ok.bs b o e).2 (I.ok.abA e) (I.ok.F8 b o e),I.base.free b o (I.ok.bs b o e).1 (I.ok.bs b o e).2 (I.ok.F8 b o e)⟩
theorem Inv.bk (I : Inv X pins σ H s) : ∀ b o,X.base.get? b = some o → s.heap.get? b = some o:=fun b o e=>(I.bs b o e).1
theorem Inv.mod (I : Inv X pins σ H s) : Mod X.K X.mg X.base:=I.ok.mod
theorem Inv.kIn (I : Inv X pins σ H s) : X.K.In s.heap:=I.ok.mod.kin.keeps I.bk
theorem Inv.nolimit (I : Inv X pins σ H s) : s.heap.NoLimit:=I.ok.mod.nolimit.keeps I.bk
theorem Inv.fr (I : Inv X pins σ H s) : ∃ m,Fr X.base X.env.locals s.heap m :=
  let ⟨m,hn,_⟩:=I.loc
  ⟨m,hn,I.bk,Nat.le_trans I.ok.bsz I.ok.above⟩
theorem Inv.lt (I : Inv X pins σ H s) : X.env.locals < s.heap.objs.size:=let ⟨_,hn,_⟩:=I.loc; hn.lt
theorem Inv.sz (I : Inv X pins σ H s) : X.s₀.heap.objs.size ≤ s.heap.objs.size:=Nat.le_trans I.ok.above (Nat.le_of_lt I.lt)
theorem Inv.abB (I : Inv X pins σ H s) {a : Addr} (h : s.heap.objs.size ≤ a) : a ∉ X.fs:=fun hb=>by
  obtain ⟨_,o,ho,_⟩:=I.ok.sQ.mem hb
  exact absurd (Nat.lt_of_lt_of_le (Heap.lt_size ho) (Nat.le_trans I.sz h)) (Nat.lt_irrefl _)
theorem Inv.cne (I : Inv X pins σ H s) : ∀ x c,X.env.cells.lookup x = some c → c ≠ X.env.locals:=fun x c e z=>by
  obtain ⟨v,o,ho,hd⟩:=I.cell x c e
  obtain ⟨m,⟨o',es,ep,ho',hd',_⟩,_⟩:=I.loc
  rw [z,ho'] at ho; cases ho; rw [hd'] at hd; cases hd
theorem Inv.sQ (I : Inv X pins σ H s) : s.heap.FunFrames X.base X.outer:=by
  have all : ∀ (l : List Env),(∀ b ∈ frs l,b ∈ X.fs) → X.s₀.heap.FunFrames X.base l → s.heap.FunFrames X.base l:=by
    intro l
    induction l with
    | nil=>intro _ _; trivial
    | cons env r ih =>
      intro hs hl
      obtain ⟨hk,⟨L,o,hf,hn,ho,hd⟩,hr⟩:=hl
      have hL : L ∈ X.fs:=hs L (by unfold frs; rw [List.filterMap_cons,hf]; exact List.mem_cons_self)
      obtain ⟨sl,e⟩:=I.base.slot L o ho (I.ok.frf L hL) hL fun z=>I.ok.F9 L z hL
      exact ⟨hk,⟨L,_,hf,hn,e,hd⟩,ih (fun b hb=>hs b (by unfold frs; rw [List.filterMap_cons,hf]; exact List.mem_cons_of_mem _ hb)) hr⟩
  exact all X.outer (fun _ hb=>hb) I.ok.sQ
theorem Inv.stack (I : Inv X pins σ H s) : s.heap.FunFrames X.base X.stack:=by
  rcases I.ok.stk with e | ⟨e,hf⟩
  · rw [e]; exact I.sQ
  · rw [e]
    obtain ⟨m,hn,_⟩:=I.loc
    refine .cons (by rw [I.ok.kind]; decide) hf hn ?_ I.sQ
    exact Heap.get?_none_of_le (Nat.le_trans I.ok.bsz I.ok.above)
theorem Inv.Bv (I : Inv X pins σ H s) : ∀ b ∈ frs X.stack,b ∈ X.env.locals :: X.fs:=fun b hb=>by
  rcases I.ok.stk with e | ⟨e,hf⟩
  · rw [e] at hb; exact List.mem_cons_of_mem _ hb
  · rw [e] at hb
    unfold frs at hb
    rw [List.filterMap_cons,hf] at hb
    exact hb
theorem Inv.Bw (I : Inv X pins σ H s) : ∀ b ∈ frs X.stack,H b = none:=fun b hb=>by
  rcases List.mem_cons.mp (I.Bv b hb) with e | hb
  · rw [e]; exact I.free
  · obtain ⟨_,o,ho,_⟩:=I.ok.sQ.mem hb
    exact I.base.free b o ho (I.ok.frf b hb) fun z=>I.ok.F9 b z hb
theorem Inv.step {g' : Array GenState} {t' : Nat} {d' : Drawn} {ch : List Addr} (I : Inv X pins σ H s)
    (hch : ∀ b ∈ ch,(b ∈ X.ex ∨ X.s₀.heap.objs.size ≤ b) ∧ b ≠ X.env.locals ∧ (∀ x c,X.env.cells.lookup x = some c → c ≠ b) ∧ ∀ p ∈ X.pn ++ pins,p.1 ≠ b)
    (keep : ∀ b o,b ≠ X.env.locals → b ∉ X.fs → b ∉ ch → s.heap.get? b = some o → H b = none → h'.get? b = some o)
    (slot : ∀ b o,b ≠ X.env.locals → b ∈ X.fs → b ∉ ch → s.heap.get? b = some o → H b = none → ∃ sl,h'.get? b = some { o with slots:=sl }) (free : ∀ b o,b ∉ ch → s.heap.get? b = some o → H b = none → H' b = none)
    (there : ∀ b o,b ∉ ch → s.heap.get? b = some o → ∃ o',h'.get? b = some o')
    (tU : ∀ b xs,H b = some (.tup xs) → H' b = some (.tup xs)) (sP : ∀ b o u,H b = some (.frz o u) → H' b = some (.frz o u)) (tV : ∀ b ps,H b = some (.tbl ps) → ∃ more,H' b = some (.tbl (ps ++ more)))
    (ns : ∀ m,s.heap.Ns X.env.locals m → h'.Ns X.env.locals m) (hok : HOk X.prog X.w H' h') (hg : AllBare g') :
    Inv X pins σ H' { s with heap:=h',gens:=g',drawn:=d',toks:=t' }:=by
  have neL : ∀ b o,X.s₀.heap.get? b = some o → b ≠ X.env.locals:=fun b o e=>Nat.ne_of_lt (Nat.lt_of_lt_of_le (Heap.lt_size e) I.ok.above)
  have neC : ∀ b o,X.s₀.heap.get? b = some o → b ∉ X.ex → b ∉ ch:=fun b o e hx hb=>by
    rcases (hch b hb).1 with z | z
    · exact hx z
    · exact absurd (Nat.lt_of_lt_of_le (Heap.lt_size e) z) (Nat.lt_irrefl _)
  have cellK : ∀ x c,X.env.cells.lookup x = some c → ∀ v,s.heap.IsCell c v → h'.IsCell c v:=fun x c e v ⟨o,ho,hd⟩=>by
    have nch : c ∉ ch:=fun z=>(hch c z).2.2.1 x c e rfl
    by_cases hc : c ∈ X.fs
    · obtain ⟨sl,q⟩:=slot c o (I.cne x c e) hc nch ho (I.nX x c e)
      exact ⟨_,q,hd⟩
    · exact ⟨o,keep c o (I.cne x c e) hc nch ho (I.nX x c e),hd⟩
  refine ⟨I.ok,I.os,hg,⟨fun b o e n hb hx=>?_,fun b o e n hb hx=>?_,fun b o e n hx=>?_,fun b o e hx=>?_,fun b xs e=>tU b xs (I.base.tU b xs e),fun b o xs e=>sP b o xs (I.base.sP b o xs e),fun b ps e=>?_⟩,?_,fun x c e=>?_,?_,fun x c e=>?_,fun p hp=>?_,hok,I.len⟩
  · exact keep b o (neL b o e) hb (neC b o e hx) (I.base.keep b o e n hb hx) (I.base.free b o e n hx)
  · obtain ⟨sl,e1⟩:=I.base.slot b o e n hb hx
    obtain ⟨sl',e2⟩:=slot b _ (neL b o e) hb (neC b o e hx) e1 (I.base.free b o e n hx)
    exact ⟨sl',e2⟩
  · obtain ⟨o',e1⟩:=I.base.there b o e hx
    exact free b o' (neC b o e hx) e1 (I.base.free b o e n hx)
  · obtain ⟨o',e1⟩:=I.base.there b o e hx
    exact there b o' (neC b o e hx) e1
  · obtain ⟨m1,e1⟩:=I.base.tV b ps e
    obtain ⟨m2,e2⟩:=tV b _ e1
    exact ⟨m1 ++ m2,by rw [e2,Array.append_assoc]⟩
  · obtain ⟨m,hn,hl⟩:=I.loc
    refine ⟨m,ns m hn,fun i x v e1 e2 e3=>?_⟩
    obtain ⟨u,r,l⟩:=hl i x v e1 e2 e3
    refine ⟨u,r,?_⟩
    rcases l with l | ⟨k,c,e,z⟩
    · exact .inl l
    · exact .inr ⟨k,c,e,cellK x c e _ z⟩
  · obtain ⟨v,z⟩:=I.cell x c e
    exact ⟨v,cellK x c e v z⟩
  · obtain ⟨m,⟨o,_,_,ho,_⟩,_⟩:=I.loc
    exact free _ o (fun z=>(hch _ z).2.1 rfl) ho I.free
  · obtain ⟨v,o,ho,hd⟩:=I.cell x c e
    exact free c o (fun z=>(hch c z).2.2.1 x c e rfl) ho (I.nX x c e)
  · obtain ⟨e,n,ne,nf,d⟩:=I.pin p hp
    have nch : p.1 ∉ ch:=fun z=>(hch p.1 z).2.2.2 p hp rfl
    exact ⟨keep p.1 p.2 ne nf nch e n,free p.1 p.2 nch e n,ne,nf,d⟩
theorem Inv.un {t' : Nat} (I : Inv X pins σ H s) (u : Un X.fs [] H H' s.heap h') (hok : HOk X.prog X.w H' h') : Inv X pins σ H' { s with heap:=h',toks:=t' }:=by
  obtain ⟨m,⟨o,es,ep,ho,r⟩,_⟩:=id I.loc
  obtain ⟨sl,hL⟩:=u.any ho I.free (by simp)
  exact I.step (g':=s.gens) (d':=s.drawn) (ch:=[]) (fun _ z=>nomatch z) (fun b o _ hb _ e n=>u.keep b o e n hb (by simp)) (fun b o _ hb _ e n=>u.slot b o e n hb (by simp)) (fun b o _ e n=>u.free b o e n (by simp)) (fun b o _ e=>u.there b o e (by simp)) u.tU u.sP u.tV (fun m' hm=>by
    obtain ⟨o',es',ep',ho',r'⟩:=hm
    rw [ho] at ho'; cases ho'
    exact ⟨_,es',ep',hL,r'⟩) hok I.bare
theorem Inv.call {g' : Array GenState} {t' : Nat} {d' : Drawn} {ch : List Addr} (I : Inv X pins σ H s) (u : Un (frs X.stack) ch H H' s.heap h') (hok : HOk X.prog X.w H' h') (hg : AllBare g')
    (hch : ∀ b ∈ ch,(b ∈ X.ex ∨ X.s₀.heap.objs.size ≤ b) ∧ b ≠ X.env.locals ∧ (∀ x c,X.env.cells.lookup x = some c → c ≠ b) ∧ ∀ p ∈ X.pn ++ pins,p.1 ≠ b) :
    Inv X pins σ H' { s with heap:=h',gens:=g',drawn:=d',toks:=t' }:=by
  obtain ⟨m,⟨o,es,ep,ho,r⟩,_⟩:=id I.loc
  obtain ⟨sl,hL⟩:=u.any ho I.free fun z=>(hch _ z).2.1 rfl
  exact I.step (ch:=ch) hch (fun b o hL hb hc e n=>u.keep b o e n (fun z=>(List.mem_cons.mp (I.Bv b z)).elim hL hb) hc) (fun b o _ _ hc e n=>u.any e n hc) (fun b o hc e n=>u.free b o e n hc) (fun b o hc e=>u.there b o e hc) u.tU u.sP u.tV (fun m' hm=>by
    obtain ⟨o',es',ep',ho',r'⟩:=hm
    rw [ho] at ho'; cases ho'
    exact ⟨_,es',ep',hL,r'⟩) hok hg
theorem Inv.turned {t' : Nat} {it : Addr} (I : Inv X pins σ H s) (k : ∀ b o,b ≠ it → s.heap.get? b = some o → h'.get? b = some o) (hn : H it = none) (hL : it ≠ X.env.locals)
    (h1 : it ∈ X.ex ∨ X.s₀.heap.objs.size ≤ it) (h2 : ∀ x c,X.env.cells.lookup x = some c → c ≠ it) (h3 : ∀ p ∈ X.pn ++ pins,p.1 ≠ it) : Inv X pins σ H { s with heap:=h',toks:=t' }:=by
  have nit : ∀ b u,H b = some u → b ≠ it:=fun b u e z=>by rw [z,hn] at e; cases e
  refine I.step (g':=s.gens) (d':=s.drawn) (ch:=[it]) (fun b hb=>?_) (fun b o _ _ hc e _=>k b o (fun z=>hc (by simp [z])) e) (fun b o _ _ hc e _=>⟨o.slots,k b o (fun z=>hc (by simp [z])) e⟩) (fun _ _ _ _ n=>n)
    (fun b o hc e=>⟨o,k b o (fun z=>hc (by simp [z])) e⟩) (fun _ _ e=>e) (fun _ _ _ e=>e) (fun b ps e=>⟨#[],by rw [e]; simp⟩) (fun m hm=>?_) (fun b u e=>?_) I.bare
  · have e : b = it:=by simpa using hb
    subst e
    exact ⟨h1,hL,h2,h3⟩
  · obtain ⟨o,es,ep,ho,r⟩:=hm
    exact ⟨o,es,ep,k _ o (Ne.symm hL) ho,r⟩
  · refine (I.hok b u e).Ab (fun c v hc q=>k c v ?_ q) (fun _ q=>q) fun _ _ q=>q
    rcases hc with z | z
    · rw [z]; exact nit b u e
    · exact nit c _ z
theorem Inv.tok (I : Inv X pins σ H s) (t : Nat) : Inv X pins σ H { s with toks:=t }:=I.un (h':=s.heap) (t':=t) Un.refl I.hok
theorem Inv.kept {t' : Nat} (I : Inv X pins σ H s) (k : ∀ b u,s.heap.get? b = some u → h'.get? b = some u) : Inv X pins σ H { s with heap:=h',toks:=t' }:=I.un (Un.kept k) (I.hok.kept k)
theorem Inv.laid {a : Addr} {o : HO} {t' : Nat} (I : Inv X pins σ H s) (k : ∀ b u,s.heap.get? b = some u → h'.get? b = some u) (hp : s.heap.objs.size ≤ a) (new : dF X.prog X.w (upd H a o) h' a o) :
    Inv X pins σ (upd H a o) { s with heap:=h',toks:=t' }:=I.un (Un.laid k hp (I.hok.fresh hp)) (I.hok.laid k hp new)
theorem Inv.write {x e : Addr} {o : HO} {t' : Nat} (I : Inv X pins σ H s) (mu : Mut (H x)) (he : e = x ∨ H e = some (.own x)) (k : ∀ b u,b ≠ e → s.heap.get? b = some u → h'.get? b = some u) (heo : ∃ u,h'.get? e = some u)
    (new : dF X.prog X.w (upd H x o) h' x o) : Inv X pins σ (upd H x o) { s with heap:=h',toks:=t' }:=I.un (Un.write mu he k heo) (I.hok.write mu he k heo new)
theorem Inv.Bx {PN : List (Addr × Obj)} (I : Inv X pins σ H s) (h : ∀ p ∈ PN,s.heap.get? p.1 = some p.2 ∧ H p.1 = none ∧ p.1 ≠ X.env.locals ∧ p.1 ∉ X.fs ∧ ∀ v,p.2.data ≠ .cell v) : Inv X PN σ H s :=
  ⟨I.ok,I.os,I.bare,I.base,I.loc,I.cell,I.free,I.nX,fun p hp=>(List.mem_append.mp hp).elim (fun z=>I.pin p (List.mem_append_left _ z)) (h p),I.hok,I.len⟩
theorem yx {N : List Str} (hN : N.Nodup) {i j : Nat} {x : Str} (a : N[i]? = some x) (b : N[j]? = some x) : i = j:=by
  obtain ⟨h1,e1⟩:=List.getElem?_eq_some_iff.mp a
  obtain ⟨h2,e2⟩:=List.getElem?_eq_some_iff.mp b
  exact (List.getElem_inj hN).mp (e1.trans e2.symm)
theorem JO {M : Model} {A : Around} {E : Value → Shared → Prop} {i : Nat} {x : Str} {v : V} {u : Value} {Q : Unit → Shared → Prop} (I : Inv X pins σ H s) (hN : X.N.Nodup) (hi : X.N[i]? = some x) (hx : Loc X.env.scope x) (r : RelV v u)
    (h : ∀ s',Inv X pins (σ.set i (some v)) H s' → (∃ a,Heap.SameBut a s.heap s'.heap ∧ (a = X.env.locals ∨ X.env.cells.lookup x = some a)) → Q () s') (hf : X.fn x = true ∨ X.env.scope.names.lookup x = some .local:=by first | exact .inl rfl | exact .inr rfl | assumption) : wpAny M A (storeName X.env x u) Q E s:=by
  obtain ⟨m,hn,hl⟩:=id I.loc
  have abC : (X.env.scope.kind == .class || (X.env.scope.kind == .module && X.env.locals != X.env.globals)) = false:=by rw [I.ok.kind]; rfl
  have hiσ : i < σ.length:=by rw [I.len]; exact (List.getElem?_eq_some_iff.mp hi).1
  have cne:=I.cne
  have tracked : ∀ {a : Addr} {h' : Heap},(∃ o,s.heap.get? a = some o ∧ H a = none) → Heap.SameBut a s.heap h' → HOk X.prog X.w H h':=fun {a h'} ha hs b ob e=>by
    obtain ⟨_,_,PQ⟩:=ha
    refine (I.hok b ob e).Ab (fun c w' hc q=>(hs.2 c ?_).trans q) (fun _ q=>q) fun _ _ q=>q
    rintro rfl
    rcases hc with rfl | hc
    · rw [PQ] at e; cases e
    · rw [PQ] at hc; cases hc
  rcases hx with hk | hk
  · refine wpAny_storeName_local hk hn (fun h' hn' hs=>?_) abC
    obtain ⟨oL,_,_,hoL,_⟩:=id hn
    refine h _ ⟨I.ok,I.os,I.bare,⟨fun b o e n hb hx=>?_,fun b o e n hb hx=>?_,I.base.free,fun b o e hx=>?_,I.base.tU,I.base.sP,I.base.tV⟩,⟨_,hn',fun j y v' e1 e2 e3=>?_⟩,fun y c e=>?_,I.free,I.nX,fun p hp=>?_,tracked ⟨oL,hoL,I.free⟩ hs,by simpa using I.len⟩ ⟨_,hs,.inl rfl⟩
    · exact (hs.2 b (Nat.ne_of_lt (Nat.lt_of_lt_of_le (Heap.lt_size e) I.ok.above))).trans (I.base.keep b o e n hb hx)
    · obtain ⟨sl,e1⟩:=I.base.slot b o e n hb hx
      exact ⟨sl,(hs.2 b (Nat.ne_of_lt (Nat.lt_of_lt_of_le (Heap.lt_size e) I.ok.above))).trans e1⟩
    · obtain ⟨o',e1⟩:=I.base.there b o e hx
      exact ⟨o',(hs.2 b (Nat.ne_of_lt (Nat.lt_of_lt_of_le (Heap.lt_size e) I.ok.above))).trans e1⟩
    · by_cases hj : j = i
      · subst hj
        rw [hi] at e1; cases e1
        rw [List.getElem?_set_self hiσ] at e2
        cases e2
        exact ⟨u,r,.inl ⟨hk,by simp⟩⟩
      · rw [List.getElem?_set_ne (Ne.symm hj)] at e2
        obtain ⟨u',r',q⟩:=hl j y v' e1 e2 e3
        refine ⟨u',r',?_⟩
        rcases q with ⟨k,e⟩ | ⟨k,c,e,z⟩
        · refine .inl ⟨k,?_⟩
          have : y ≠ x:=fun e=>hj (yx hN e1 (e ▸ hi))
          simp [this,e]
        · exact .inr ⟨k,c,e,z.sameBut hs (cne y c e)⟩
    · obtain ⟨w',z⟩:=I.cell y c e
      exact ⟨w',z.sameBut hs (cne y c e)⟩
    · obtain ⟨e,n,ne,nf,d⟩:=I.pin p hp
      exact ⟨(hs.2 p.1 ne).trans e,n,ne,nf,d⟩
  · have hfn : X.fn x = true:=by
      rcases hf with z | z
      · exact z
      · rw [z] at hk; cases hk
    obtain ⟨c,hc⟩:=I.ok.has x (.inl hk)
    obtain ⟨w',z⟩:=I.cell x c hc
    refine wpAny_storeName_cell I.ok.kind hk hc z (fun h' hc' hs=>?_)
    obtain ⟨oc,hoc,abD⟩:=id z
    refine h { s with heap:=h' } ⟨I.ok,I.os,I.bare,⟨fun b o e n hb hx=>?_,fun b o e n hb hx=>?_,I.base.free,fun b o e hx=>?_,I.base.tU,I.base.sP,I.base.tV⟩,⟨m,hn.sameBut hs (Ne.symm (cne x c hc)),fun j y v' e1 e2 e3=>?_⟩,fun y c' e=>?_,I.free,I.nX,fun p hp=>?_,tracked ⟨oc,hoc,I.nX x c hc⟩ hs,by simpa using I.len⟩ ⟨c,hs,.inr hc⟩
    · exact (hs.2 b (Nat.ne_of_lt (Nat.lt_of_lt_of_le (Heap.lt_size e) (I.ok.cab x c hfn hc)))).trans (I.base.keep b o e n hb hx)
    · obtain ⟨sl,e1⟩:=I.base.slot b o e n hb hx
      exact ⟨sl,(hs.2 b (Nat.ne_of_lt (Nat.lt_of_lt_of_le (Heap.lt_size e) (I.ok.cab x c hfn hc)))).trans e1⟩
    · obtain ⟨o',e1⟩:=I.base.there b o e hx
      exact ⟨o',(hs.2 b (Nat.ne_of_lt (Nat.lt_of_lt_of_le (Heap.lt_size e) (I.ok.cab x c hfn hc)))).trans e1⟩
    · by_cases hj : j = i
      · subst hj
        rw [hi] at e1; cases e1
        rw [List.getElem?_set_self hiσ] at e2
        cases e2
        exact ⟨u,r,.inr ⟨.inl hk,c,hc,hc'⟩⟩
      · rw [List.getElem?_set_ne (Ne.symm hj)] at e2
        obtain ⟨u',r',q⟩:=hl j y v' e1 e2 e3
        refine ⟨u',r',?_⟩
        rcases q with q | ⟨k,c',e,z'⟩
        · exact .inl q
        · refine .inr ⟨k,c',e,z'.sameBut hs ?_⟩
          rintro rfl
          exact hj (yx hN e1 (I.ok.inj _ _ _ e hc ▸ hi))
    · by_cases hcc : c' = c
      · subst hcc; exact ⟨_,hc'⟩
      · obtain ⟨w2,z2⟩:=I.cell y c' e
        exact ⟨w2,z2.sameBut hs hcc⟩
    · obtain ⟨e,n,ne,nf,d⟩:=I.pin p hp
      refine ⟨(hs.2 p.1 ?_).trans e,n,ne,nf,d⟩
      intro q
      rw [q,hoc] at e
      have q' : oc = p.2:=Option.some.inj e
      exact d w' (by rw [← q']; exact abD)
theorem nY {M : Model} {A : Around} {E : Value → Shared → Prop} {i : Nat} {x : Str} {v : V} {u : Value} {Q : Unit → Shared → Prop} (I : Inv X pins σ H s) (hN : X.N.Nodup) (hi : X.N[i]? = some x) (hx : Loc X.env.scope x) (r : RelV v u)
    (h : ∀ s',Inv X pins (σ.set i (some v)) H s' → Q () s') (hf : X.fn x = true ∨ X.env.scope.names.lookup x = some .local:=by first | exact .inl rfl | exact .inr rfl | assumption) : wpAny M A (storeName X.env x u) Q E s :=
  JO I hN hi hx r (fun s' I' _=>h s' I') hf
theorem Inv.Lj {s' : Shared} {ch : List Addr} (I : Inv X pins σ H s) (ho : s'.os = s.os) (u : Un (frs X.stack) ch H H' s.heap s'.heap) (hok : HOk X.prog X.w H' s'.heap) (hg : AllBare s'.gens)
    (hch : ∀ b ∈ ch,(b ∈ X.ex ∨ X.s₀.heap.objs.size ≤ b) ∧ b ≠ X.env.locals ∧ (∀ x c,X.env.cells.lookup x = some c → c ≠ b) ∧ ∀ p ∈ X.pn ++ pins,p.1 ≠ b) : Inv X pins σ H' s':=by
  obtain ⟨h',g',d',t',o'⟩:=s'
  have e : o' = s.os:=ho
  subst e
  exact I.call (g':=g') (t':=t') (d':=d') u hok hg hch
end
abbrev XK:=Value → Option Addr → Hp → Prop
abbrev St:=List (Option V)
abbrev VK:=V → Hp → Prop
abbrev TE:=St → Hp → VK → Prop
abbrev TT:=St → Hp → (Bool → Hp → Prop) → Prop
abbrev TA:=St → Hp → (List V → Hp → Prop) → Prop
structure Ends where
  nx : St → Hp → Prop
  rt : VK
  bk : St → Hp → Prop:=fun _ _=>False
  ct : St → Hp → Prop:=fun _ _=>False
abbrev TS:=Ends → St → Hp → Prop
def EP (X : Cx) (pins : List (Addr × Obj)) (σ : St) (Q : VK) (u : Value) (s' : Shared) : Prop:=∃ v H',Inv X pins σ H' s' ∧ RelV v u ∧ Q v H'
def TP (X : Cx) (pins : List (Addr × Obj)) (σ : St) (Q : Bool → Hp → Prop) (b : Bool) (s' : Shared) : Prop:=∃ H',Inv X pins σ H' s' ∧ Q b H'
def AP (X : Cx) (pins : List (Addr × Obj)) (σ : St) (Q : List V → Hp → Prop) (us : List Value) (s' : Shared) : Prop:=∃ vs H',Inv X pins σ H' s' ∧ Vals vs us ∧ Q vs H'
def SP (X : Cx) (pins : List (Addr × Obj)) (D : Ends) (f : Flow) (s' : Shared) : Prop :=
  match f with
  | .next=>∃ σ' H',Inv X pins σ' H' s' ∧ D.nx σ' H'
  | .brk=>∃ σ' H',Inv X pins σ' H' s' ∧ D.bk σ' H'
  | .cont=>∃ σ' H',Inv X pins σ' H' s' ∧ D.ct σ' H'
  | .ret u=>∃ v σ' H',Inv X pins σ' H' s' ∧ RelV v u ∧ D.rt v H'
def PE (X : Cx) (e : Expr) (t : TE) : Prop :=
  ∀ (pins : List (Addr × Obj)) (s : Shared) (σ : St) (H : Hp) (Q : VK),Inv X pins σ H s → t σ H Q → wpAny (model X.prog X.w) X.A (eval e X.env) (EP X pins σ Q) X.xe s
def PT (X : Cx) (e : Expr) (t : TT) : Prop :=
  ∀ (pins : List (Addr × Obj)) (s : Shared) (σ : St) (H : Hp) (Q : Bool → Hp → Prop),Inv X pins σ H s → t σ H Q → wpAny (model X.prog X.w) X.A (isTrue e X.env (eval e X.env)) (TP X pins σ Q) X.xe s
def PW (X : Cx) (e : Expr) (t : TT) : Prop :=
  ∀ (whole : Sem Value) (pins : List (Addr × Obj)) (s : Shared) (σ : St) (H : Hp) (Q : Bool → Hp → Prop),Inv X pins σ H s → t σ H Q → wpAny (model X.prog X.w) X.A (isTrue e X.env whole) (TP X pins σ Q) X.xe s
theorem PW.pt {X : Cx} {e : Expr} {t : TT} (h : PW X e t) : PT X e t:=h _
def PA (X : Cx) (es : List Expr) (t : TA) : Prop :=
  ∀ (pos : Pos) (pins : List (Addr × Obj)) (s : Shared) (σ : St) (H : Hp) (Q : List V → Hp → Prop),Inv X pins σ H s → t σ H Q → wpAny (model X.prog X.w) X.A (spliced (backTo pos (starEach es X.env))) (AP X pins σ Q) X.xe s
def PS (X : Cx) (st : Stmt) (t : TS) : Prop :=
  ∀ (pins : List (Addr × Obj)) (s : Shared) (σ : St) (H : Hp) (D : Ends),Inv X pins σ H s → t D σ H → wpAny (model X.prog X.w) X.A (exec st X.env) (SP X pins D) X.xe s
def PSs (X : Cx) (st : List Stmt) (t : TS) : Prop :=
  ∀ (pins : List (Addr × Obj)) (s : Shared) (σ : St) (H : Hp) (D : Ends),Inv X pins σ H s → t D σ H → wpAny (model X.prog X.w) X.A (execs st X.env) (SP X pins D) X.xe s
theorem thn {α : Type} {t : Sem α} {Q Q' : α → Shared → Prop} {M : Model} {A : Around} {E : Value → Shared → Prop} {s : Shared} (h : wpAny M A t Q E s) (hQ : ∀ a s,Q a s → Q' a s) : wpAny M A t Q' E s:=wpAny_mono h hQ fun _ _ x=>x
end L2
namespace L2
open PySem PySem.Spec PyProof.Rows
section
variable {X : Cx}
theorem bin {a b : Expr} {ta tb : TE} (ha : PE X a ta) (hb : PE X b tb) {pins : List (Addr × Obj)} {s : Shared} {σ : St} {H : Hp} {R : V → V → Hp → Prop} (I : Inv X pins σ H s) (h : ta σ H fun x H1=>tb σ H1 fun y H2=>R x y H2)
    {α : Type} {Q : α → Shared → Prop} {f : Value → Value → Sem α}
    (hf : ∀ v u s2 x y H2,Inv X pins σ H2 s2 → RelV x v → RelV y u → R x y H2 → wpAny (model X.prog X.w) X.A (f v u) Q X.xe s2) :
    wpAny (model X.prog X.w) X.A (eval a X.env) (fun v s₁=>wpAny (model X.prog X.w) X.A (eval b X.env) (fun u s₂=>wpAny (model X.prog X.w) X.A (f v u) Q X.xe s₂) X.xe s₁) X.xe s:=by
  refine thn (ha pins s σ H _ I h) fun v s1 ⟨x,H1,I1,r1,q1⟩=>?_
  refine thn (hb pins s1 σ H1 _ I1 q1) fun u s2 ⟨y,H2,I2,r2,q2⟩=>?_
  exact hf v u s2 x y H2 I2 r1 r2 q2
def VR (i : Nat) : TE:=fun σ H Q=>∃ v,σ[i]? = some (some v) ∧ Q v H
def tC (v : V) : TE:=fun _ H Q=>Q v H
theorem Rc {i : Nat} {x : Str} {pos : Pos} (hN : X.N[i]? = some x) (hv : Vis X.env.scope x) (hd : (x == ("__debug__" : Str)) = false:=by decide) (hcd : (x == ("__classdict__" : Str)) = false:=by decide) : PE X (.Name x pos) (VR i):=by
  intro pins s σ H Q I h
  obtain ⟨v,e,h⟩:=h
  obtain ⟨m,hn,hl⟩:=I.loc
  obtain ⟨u,r,l⟩:=hl i x v hN e hv
  have fin : EP X pins σ Q u s:=⟨v,H,I,r,h⟩
  rcases l with ⟨hk,hm⟩ | ⟨hk,c,hc,tW⟩
  · exact wpAny_Name (wpAny_loadName_local I.ok.kind hk hn hm fin) hd
  · rcases hk with hk | hk
    · exact wpAny_Name (wpAny_loadName_cell I.ok.kind hk hc tW fin) hd
    · exact wpAny_Name (wpAny_loadName_free I.ok.kind hk hc tW fin hcd) hd
theorem ak {i j pos} : PE X (.Constant (.int i) j pos) (tC (.int i)):=fun _ _ _ H _ I h=>wpAny_Constant_int ⟨.int i,H,I.tok _,⟨_,rfl⟩,h⟩
theorem qt {b j pos} : PE X (.Constant (.bool b) j pos) (tC (.bl b)):=fun _ _ _ H _ I h=>Constant_bool ⟨.bl b,H,I,rfl,h⟩
theorem By {j pos} : PE X (.Constant .none j pos) (tC .non):=fun _ _ _ H _ I h=>Constant_none ⟨.non,H,I,rfl,h⟩
theorem au {x j pos} : PE X (.Constant (.str x) j pos) (tC (.str x)):=fun _ _ _ H _ I h=>Calls.Constant_str ⟨.str x,H,I.tok _,⟨_,rfl⟩,h⟩
def Gl (X : Cx) (x : Str) : Prop:=X.env.kindOf x = some .globalImplicit
theorem kT {E : Value → Shared → Prop} {pins : List (Addr × Obj)} {s : Shared} {σ : St} {H : Hp} {x : Str} {u : Value} {pos : Pos} {Q : Value → Shared → Prop} (I : Inv X pins σ H s) (hg : Gl X x) (hm : X.mg x = some u) (h : Q u s)
    (hd : (x == ("__debug__" : Str)) = false:=by decide) : wpAny (model X.prog X.w) X.A (eval (.Name x pos) X.env) Q E s :=
  Calls.Name_function_global I.ok.kind hg (Calls.loadGlobal_global (by rw [I.ok.glob]; exact I.mod.glob.keeps I.bk) hm h) hd
theorem Bz {E : Value → Shared → Prop} {pins : List (Addr × Obj)} {s : Shared} {σ : St} {H : Hp} {x : Str} {u : Value} {pos : Pos} {Q : Value → Shared → Prop} (I : Inv X pins σ H s) (hg : Gl X x) (hm : X.mg x = none) (hv : bootBuiltins x = some u) (h : Q u s)
    (hn : x ≠ "__name__":=by decide) (hd : (x == ("__debug__" : Str)) = false:=by decide) : wpAny (model X.prog X.w) X.A (eval (.Name x pos) X.env) Q E s:=by
  obtain ⟨mb,h1,h2⟩:=I.mod.blt
  exact Calls.Name_function_global I.ok.kind hg (Calls.loadGlobal_builtin (by rw [I.ok.glob]; exact I.mod.glob.keeps I.bk) hm (by rw [I.ok.blt]; exact h1.keeps I.bk) ((h2 x hn).trans hv) h) hd
theorem fh {x : Str} {v : V} {u : Value} {pos : Pos} (hg : Gl X x) (hm : X.mg x = some u) (r : RelV v u) (hd : (x == ("__debug__" : Str)) = false:=by decide) : PE X (.Name x pos) (tC v) :=
  fun _ _ _ H _ I h=>kT I hg hm ⟨v,H,I,r,h⟩ hd
theorem IH {x : Str} {v : V} {u : Value} {pos : Pos} (hg : Gl X x) (hm : X.mg x = none) (hv : bootBuiltins x = some u) (r : RelV v u) (hn : x ≠ "__name__":=by decide) (hd : (x == ("__debug__" : Str)) = false:=by decide) : PE X (.Name x pos) (tC v) :=
  fun _ _ _ H _ I h=>Bz I hg hm hv ⟨v,H,I,r,h⟩ hn hd
variable {a b : Expr} {ta tb : TE} {pos : Pos}
def PC (X : Cx) (op : CmpOp) (a b : Expr) (t : TE) : Prop :=
  ∀ (pins : List (Addr × Obj)) (s : Shared) (σ : St) (H : Hp) (Q : VK),Inv X pins σ H s → t σ H Q →
    wpAny (model X.prog X.w) X.A (eval a X.env) (fun v s₁=>wpAny (model X.prog X.w) X.A (eval b X.env) (fun u s₂=>wpAny (model X.prog X.w) X.A (compareOp op v u) (EP X pins σ Q) X.xe s₂) X.xe s₁) X.xe s
theorem Ll (b : Expr) {op : CmpOp} (h : op ≠ .In) (h2 : op ≠ .NotIn) : behindInMarks op b = false:=by
  have e1 : (op == CmpOp.In) = false:=by cases op <;> first | rfl | exact absurd rfl h
  have e2 : (op == CmpOp.NotIn) = false:=by cases op <;> first | rfl | exact absurd rfl h2
  cases b <;> simp [behindInMarks,e1,e2]
def tB (t : TE) : TT:=fun σ H Q=>t σ H fun x H1=>∃ c,x = .bl c ∧ Q c H1
theorem Lm {op : CmpOp} {t : TE} (h : PC X op a b t) (h1 : behindInMarks op b = false:=by first | exact Ll _ (by decide) (by decide) | rfl) : PT X (.Compare a [op] [b] pos) (tB t):=by
  intro pins s σ H Q I hw
  refine wpAny_isTrue_Compare1 (thn (h pins s σ H _ I hw) fun v s1 h1=>thn h1 fun u s2 h2=>thn h2 fun c s3 ⟨x,H1,I1,r1,q1⟩=>?_) h1
  obtain ⟨d,rfl,q⟩:=q1
  cases r1
  exact wpAny_truthy_bool ⟨H1,I1,q⟩
theorem nk {e : Expr} {t : TE} (h : PE X e t) (he : ∀ whole,isTrue e X.env whole = (do let v ← whole; standAt e.pos; holding [v] (truthy v)):=by intro _; rfl) : PT X e (tB t):=by
  intro pins s σ H Q I hw
  refine isTrue_plain (thn (h pins s σ H _ I hw) fun v s1 ⟨x,H1,I1,r1,q1⟩=>?_) (he _)
  obtain ⟨d,rfl,q⟩:=q1
  cases r1
  exact wpAny_truthy_bool ⟨H1,I1,q⟩
variable {tA tB' : TT} {rest : List Expr}
def abE (t u : TT) : TT:=fun σ H Q=>t σ H fun c H1=>if c = true then u σ H1 Q else Q false H1
def tOr (t u : TT) : TT:=fun σ H Q=>t σ H fun c H1=>if c = true then Q true H1 else u σ H1 Q
def abF (t : TT) : TT:=fun σ H Q=>t σ H fun c H1=>Q (!c) H1
theorem pw_and1 (ha : PT X a tA) : PW X (.BoolOp .And [a] pos) tA:=by
  intro wh pins s σ H Q I h
  refine isTrue_and (thn (ha pins s σ H Q I h) fun c s1 e=>?_)
  cases c with
  | true=>exact isTrue_and_nil e
  | false=>exact e
theorem pw_or1 (ha : PT X a tA) : PW X (.BoolOp .Or [a] pos) tA:=by
  intro wh pins s σ H Q I h
  refine isTrue_or (thn (ha pins s σ H Q I h) fun c s1 e=>?_)
  cases c with
  | false=>exact isTrue_or_nil e
  | true=>exact e
theorem pw_and (ha : PT X a tA) (hb : PW X (.BoolOp .And (b :: rest) pos) tB') : PW X (.BoolOp .And (a :: b :: rest) pos) (abE tA tB'):=by
  intro wh pins s σ H Q I h
  refine isTrue_and (thn (ha pins s σ H _ I h) fun c s1 ⟨H1,I1,q1⟩=>?_)
  cases c with
  | true=>exact hb wh pins s1 σ H1 Q I1 q1
  | false=>exact ⟨H1,I1,q1⟩
theorem pw_or (ha : PT X a tA) (hb : PW X (.BoolOp .Or (b :: rest) pos) tB') : PW X (.BoolOp .Or (a :: b :: rest) pos) (tOr tA tB'):=by
  intro wh pins s σ H Q I h
  refine isTrue_or (thn (ha pins s σ H _ I h) fun c s1 ⟨H1,I1,q1⟩=>?_)
  cases c with
  | true=>exact ⟨H1,I1,q1⟩
  | false=>exact hb wh pins s1 σ H1 Q I1 q1
theorem u0 (ha : PT X a tA) : PT X (.UnaryOp .Not a pos) (abF tA):=by
  intro pins s σ H Q I h
  exact isTrue_not (ha pins s σ H (fun c H1=>Q (!c) H1) I h)
def VS (ta tb : TE) : TE:=fun σ H Q=>ta σ H fun x H1=>∃ c,x = .bl c ∧ if c = true then tb σ H1 Q else Q (.bl false) H1
def abG (ta tb : TE) : TE:=fun σ H Q=>ta σ H fun x H1=>∃ c,x = .bl c ∧ if c = true then Q (.bl true) H1 else tb σ H1 Q
theorem Ga {op} {t : TE} (h : PE X a t) : PE X (.BoolOp op [a] pos) t:=fun pins s σ H Q I hw=>BoolOp_one (h pins s σ H Q I hw)
theorem Ln (ha : PE X a ta) (hb : PE X (.BoolOp .And (b :: rest) pos) tb) : PE X (.BoolOp .And (a :: b :: rest) pos) (VS ta tb):=by
  intro pins s σ H Q I h
  refine BoolOp_and (thn (ha pins s σ H _ I h) fun v s1 ⟨x,H1,I1,r1,q1⟩=>?_)
  obtain ⟨c,rfl,q1⟩:=q1
  cases r1
  refine wpAny_truthy_bool ?_
  cases c with
  | true=>exact hb pins s1 σ H1 Q I1 q1
  | false=>exact ⟨.bl false,H1,I1,rfl,q1⟩
theorem VT (ha : PE X a ta) (hb : PE X (.BoolOp .Or (b :: rest) pos) tb) : PE X (.BoolOp .Or (a :: b :: rest) pos) (abG ta tb):=by
  intro pins s σ H Q I h
  refine BoolOp_or (thn (ha pins s σ H _ I h) fun v s1 ⟨x,H1,I1,r1,q1⟩=>?_)
  obtain ⟨c,rfl,q1⟩:=q1
  cases r1
  refine wpAny_truthy_bool ?_
  cases c with
  | false=>exact hb pins s1 σ H1 Q I1 q1
  | true=>exact ⟨.bl true,H1,I1,rfl,q1⟩
def tIf (t : TT) (ta tb : TE) : TE:=fun σ H Q=>t σ H fun c H1=>if c = true then ta σ H1 Q else tb σ H1 Q
theorem CV {c : Expr} (hc : PT X c tA) (ha : PE X a ta) (hb : PE X b tb) : PE X (.IfExp c a b pos) (tIf tA ta tb):=by
  intro pins s σ H Q I h
  refine wpAny_IfExp (thn (hc pins s σ H _ I h) fun d s1 ⟨H1,I1,q1⟩=>?_)
  cases d with
  | true=>exact ha pins s1 σ H1 Q I1 q1
  | false=>exact hb pins s1 σ H1 Q I1 q1
end
end L2
namespace L2
open PySem PySem.Spec PyProof.Rows
def SqL (K : PySem.W.Frag) (H : Hp) (a : Addr) (xs : List V) : Prop :=
  Rd H a (.lst xs) ∨
    ∃ (o : Obj) (its : Array Value) (n : Nat),K.lookup a = some o ∧ o.cls = .type "list" ∧ o.dict = none ∧ o.data = .seq its n ∧ its.size ≤ sizeLine ∧ Vals xs its.toList
def SqT (K : PySem.W.Frag) (H : Hp) (a : Addr) (xs : List V) : Prop :=
  Rd H a (.tup xs) ∨
    ∃ (o : Obj) (its : Array Value) (n : Nat),K.lookup a = some o ∧ o.cls = .type "tuple" ∧ o.data = .seq its n ∧ its.size ≤ sizeLine ∧ Vals xs its.toList
def abH : Value → Option V
  | .none=>some .non
  | .bool b=>some (.bl b)
  | .int i _=>some (.int i)
  | .str x _=>some (.str x)
  | .bytes b _=>some (.byt b)
  | .float b _=>some (.flt b)
  | .ref a=>some (.ref a)
  | .type n=>some (.ty n)
  | _=>none
theorem RelV.abs {x : V} {u : Value} (r : RelV x u) : abH u = some x:=by
  cases x with
  | non=>cases r; rfl
  | bl _=>cases r; rfl
  | int _=>obtain ⟨t,rfl⟩:=r; rfl
  | str _=>obtain ⟨t,rfl⟩:=r; rfl
  | byt _=>obtain ⟨t,rfl⟩:=r; rfl
  | flt _=>obtain ⟨t,rfl⟩:=r; rfl
  | ref _=>cases r; rfl
  | ty _=>cases r; rfl
theorem RelV.inj {x y : V} {u : Value} (r : RelV x u) (q : RelV y u) : x = y:=Option.some.inj (r.abs.symm.trans q.abs)
theorem Vals.inj : ∀ {xs ys : List V} {us : List Value},Vals xs us → Vals ys us → xs = ys
  | _,_,_,.nil,.nil=>rfl
  | _,_,_,.cons r t,.cons r' t'=>by rw [r.inj r',Vals.inj t t']
section
variable {X : Cx} {pins : List (Addr × Obj)} {σ : St} {H : Hp} {s : Shared} {a : Addr} {xs ys : List V}
theorem SqL.of {K : PySem.W.Frag} (h : H a = some (.lst xs)) : SqL K H a xs:=.inl (.inl h)
theorem SqT.of {K : PySem.W.Frag} (h : H a = some (.tup xs)) : SqT K H a xs:=.inl (.inl h)
theorem Inv.list (I : Inv X pins σ H s) (h : SqL X.K H a xs) : ∃ its : List Value,Vals xs its ∧ PlainL s.heap a its.toArray ∧ xs.length ≤ sizeLine:=by
  rcases h with h | ⟨o,its,n,hk,hc,hd,hs,hz,r⟩
  · obtain ⟨z,its,n,r,e⟩:=h.ok I.hok
    exact ⟨its,r,⟨_,n,e,rfl,rfl,rfl⟩,z⟩
  · refine ⟨its.toList,r,⟨o,n,I.kIn a o hk,hc,hd,by simpa using hs⟩,?_⟩
    have e:=r.length
    simp only [Array.length_toList] at e
    omega
theorem Inv.tuple (I : Inv X pins σ H s) (h : SqT X.K H a xs) : ∃ its : List Value,Vals xs its ∧ IsTup s.heap a its.toArray ∧ xs.length ≤ sizeLine:=by
  rcases h with h | ⟨o,its,n,hk,hc,hs,hz,r⟩
  · obtain ⟨z,its,r,p⟩:=h.ok I.hok
    exact ⟨its,r,p,z⟩
  · refine ⟨its.toList,r,⟨o,I.kIn a o hk,hc,n,by simpa using hs⟩,?_⟩
    have e:=r.length
    simp only [Array.length_toList] at e
    omega
theorem Inv.Lo (I : Inv X pins σ H s) (h : SqL X.K H a xs) (h' : SqL X.K H a ys) : xs = ys:=by
  obtain ⟨its,r,⟨o,n,e,_,_,d⟩,_⟩:=I.list h
  obtain ⟨its',r',⟨o',n',e',_,_,d'⟩,_⟩:=I.list h'
  rw [e] at e'; cases e'
  rw [d] at d'
  injection d' with d1 _
  have : its = its':=by simpa using congrArg Array.toList d1
  subst this
  exact r.inj r'
theorem Inv.JP (I : Inv X pins σ H s) (h : SqT X.K H a xs) (h' : SqT X.K H a ys) : xs = ys:=by
  obtain ⟨its,r,⟨o,e,_,n,d⟩,_⟩:=I.tuple h
  obtain ⟨its',r',⟨o',e',_,n',d'⟩,_⟩:=I.tuple h'
  rw [e] at e'; cases e'
  rw [d] at d'
  injection d' with d1 _
  have : its = its':=by simpa using congrArg Array.toList d1
  subst this
  exact r.inj r'
end
abbrev Cx.nZ (X : Cx) (E : Value → Shared → Prop) : Cx:={ X with xe:=E }
abbrev Cx.nox (X : Cx) : Cx:=X.nZ fun _ _=>False
theorem Cx.Ok.nZ {X : Cx} (ok : X.Ok) (E : Value → Shared → Prop) : (X.nZ E).Ok :=
  ⟨ok.mod,ok.kind,ok.glob,ok.blt,ok.above,ok.inj,ok.has,ok.cab,ok.hd,ok.frames,ok.stk,ok.exf,ok.bs,ok.bsz,ok.F8,ok.F9,ok.sQ,ok.frf⟩
theorem Cx.Ok.eK {X : Cx} {E : Value → Shared → Prop} (ok : (X.nZ E).Ok) : X.Ok :=
  ⟨ok.mod,ok.kind,ok.glob,ok.blt,ok.above,ok.inj,ok.has,ok.cab,ok.hd,ok.frames,ok.stk,ok.exf,ok.bs,ok.bsz,ok.F8,ok.F9,ok.sQ,ok.frf⟩
section
variable {X : Cx} {pins : List (Addr × Obj)} {σ : St} {H : Hp} {s : Shared} {E : Value → Shared → Prop}
theorem Inv.nZ (I : Inv X pins σ H s) (E : Value → Shared → Prop) : Inv (X.nZ E) pins σ H s:=⟨I.ok.nZ E,I.os,I.bare,I.base,I.loc,I.cell,I.free,I.nX,I.pin,I.hok,I.len⟩
theorem Inv.eK (I : Inv (X.nZ E) pins σ H s) : Inv X pins σ H s:=⟨I.ok.eK,I.os,I.bare,I.base,I.loc,I.cell,I.free,I.nX,I.pin,I.hok,I.len⟩
theorem SP.eK {D : Ends} {f : Flow} {s' : Shared} (h : SP (X.nZ E) pins D f s') : SP X pins D f s':=by
  cases f with
  | next=>obtain ⟨σ',H',I,q⟩:=h; exact ⟨σ',H',I.eK,q⟩
  | brk=>obtain ⟨σ',H',I,q⟩:=h; exact ⟨σ',H',I.eK,q⟩
  | cont=>obtain ⟨σ',H',I,q⟩:=h; exact ⟨σ',H',I.eK,q⟩
  | ret u=>obtain ⟨v,σ',H',I,r,q⟩:=h; exact ⟨v,σ',H',I.eK,r,q⟩
theorem PE.nox {e : Expr} {t : TE} (h : PE X.nox e t) : PE X e t:=fun pins s σ H Q I hw =>
  wpAny_mono (h pins s σ H Q (I.nZ _) hw) (fun _ _ ⟨v,H',I',r,q⟩=>⟨v,H',I'.eK,r,q⟩) fun _ _ z=>False.elim z
theorem PT.nox {e : Expr} {t : TT} (h : PT X.nox e t) : PT X e t:=fun pins s σ H Q I hw =>
  wpAny_mono (h pins s σ H Q (I.nZ _) hw) (fun _ _ ⟨H',I',q⟩=>⟨H',I'.eK,q⟩) fun _ _ z=>False.elim z
theorem PSs.nox {st : List Stmt} {t : TS} (h : PSs X.nox st t) : PSs X st t:=fun pins s σ H D I hw =>
  wpAny_mono (h pins s σ H D (I.nZ _) hw) (fun _ _ q=>q.eK) fun _ _ z=>False.elim z
end
section
variable {X : Cx} {st : Stmt} {rest : List Stmt} {t u : TS} {e : Expr} {te : TE} {pos : Pos}
def PR : TS:=fun D σ H=>D.nx σ H
def VU (t u : TS) : TS:=fun D σ H=>t { D with nx:=u D } σ H
theorem aJ : PSs X [] PR:=fun _ _ σ H _ I h=>wpAny_execs_nil ⟨σ,H,I,h⟩
theorem ao (h1 : PS X st t) (h2 : PSs X rest u) : PSs X (st :: rest) (VU t u):=by
  intro pins s σ H D I h
  refine wpAny_execs_cons (thn (h1 pins s σ H { D with nx:=u D } I h) fun f s1 q=>?_)
  cases f with
  | next =>
    obtain ⟨σ',H',I',q⟩:=q
    exact h2 pins s1 σ' H' D I' q
  | ret v=>exact q
  | brk=>exact q
  | cont=>exact q
theorem aj (h1 : PS X st t) : PSs X [st] t:=by
  intro pins s σ H D I h
  refine wpAny_execs_cons (thn (h1 pins s σ H D I h) fun f s1 q=>?_)
  cases f with
  | next=>exact wpAny_execs_nil q
  | ret v=>exact q
  | brk=>exact q
  | cont=>exact q
theorem Inv.quiet {pins : List (Addr × Obj)} {σ : St} {H : Hp} {s : Shared} (I : Inv X pins σ H s) : interactive X.env = false:=by simp [interactive,I.ok.kind]
def VV (te : TE) : TS:=fun D σ H=>te σ H fun _ H1=>D.nx σ H1
theorem cI (he : PE X e te) (hs : swapsWith e none pos.line X.env = pure false:=by rfl) : PS X (.Expr e pos) (VV te):=by
  intro pins s σ H D I h
  exact wpAny_Expr_any (thn (he pins s σ H _ I h) fun v s1 ⟨x,H1,I1,r1,q1⟩=>⟨σ,H1,I1,q1⟩) I.quiet hs
def abI (te : TE) : TS:=fun D σ H=>te σ H D.rt
theorem aG (he : PE X e te) : PS X (.Return (some e) pos) (abI te):=by
  intro pins s σ H D I h
  exact wpAny_Return_some (thn (he pins s σ H _ I h) fun v s1 ⟨x,H1,I1,r1,q1⟩=>⟨x,σ,H1,I1,r1,q1⟩)
def abJ (c : TT) (t u : TS) : TS:=fun D σ H=>c σ H fun b H1=>if b = true then t D σ H1 else u D σ H1
theorem bU {c : Expr} {a b : List Stmt} {tc : TT} (hc : PT X c tc) (ha : PSs X a t) (hb : PSs X b u) : PS X (.If c a b pos) (abJ tc t u):=by
  intro pins s σ H D I h
  refine wpAny_If (thn (hc pins s σ H _ I h) fun d s1 ⟨H1,I1,q1⟩=>?_)
  cases d with
  | true=>exact ha pins s1 σ H1 D I1 q1
  | false=>exact hb pins s1 σ H1 D I1 q1
end
abbrev TG:=V → St → Hp → (St → Hp → Prop) → Prop
def PG (X : Cx) (target : Expr) (t : TG) : Prop :=
  ∀ (pins : List (Addr × Obj)) (s : Shared) (σ : St) (H : Hp) (v : V) (u : Value) (Q : St → Hp → Prop),Inv X pins σ H s → RelV v u → t v σ H Q →
    wpAny (model X.prog X.w) X.A (assign target X.env u) (fun _ s'=>∃ σ' H',Inv X pins σ' H' s' ∧ Q σ' H') X.xe s
abbrev Rf:=V → V → V → Hp → (Hp → Prop) → Prop
def VW (X : Cx) (t : Rf) : Prop :=
  ∀ (pins : List (Addr × Obj)) (s : Shared) (σ : St) (H : Hp) (o i v : V) (ov iv u : Value) (Q : Hp → Prop),Inv X pins σ H s → RelV o ov → RelV i iv → RelV v u → t o i v H Q →
    wpAny (model X.prog X.w) X.A (setItem ov iv u) (fun _ s'=>∃ H',Inv X pins σ H' s' ∧ Q H') X.xe s
section
variable {X : Cx} {pos : Pos}
def qu (i : Nat) : TG:=fun v σ H Q=>Q (σ.set i (some v)) H
theorem BA {i : Nat} {x : Str} (hN : X.N.Nodup) (hi : X.N[i]? = some x) (hx : Loc X.env.scope x) (hf : X.fn x = true ∨ X.env.scope.names.lookup x = some .local:=by first | exact .inl rfl | exact .inr rfl | assumption) : PG X (.Name x pos) (qu i):=by
  intro pins s σ H v u Q I r h
  exact wpAny_assign_Name (nY I hN hi hx r (fun s' I'=>⟨_,H,I',h⟩) hf)
def abK (to ti : TE) (t : Rf) : TG:=fun v σ H Q=>to σ H fun o H1=>ti σ H1 fun i H2=>t o i v H2 fun H3=>Q σ H3
theorem Rg {o i : Expr} {to ti : TE} {t : Rf} (ho : PE X o to) (hi : PE X i ti) (hs : VW X t)
    (ha : ∀ v,assign (.Subscript o i pos) X.env v = (do
      let ov ← holding [v] (eval o X.env)
      let iv ← holding [v,ov] (eval i X.env)
      standAt pos
      holding [v,ov,iv] (setItem ov iv v)
      release [v,ov,iv] []):=by intro _; rfl) : PG X (.Subscript o i pos) (abK to ti t):=by
  intro pins s σ H v u Q I r h
  rw [ha]
  refine wpAny_bind (wpAny_holding (thn (ho pins s σ H _ I h) fun ov s1 ⟨x,H1,I1,r1,q1⟩=>?_))
  refine wpAny_bind (wpAny_holding (thn (hi pins s1 σ H1 _ I1 q1) fun iv s2 ⟨y,H2,I2,r2,q2⟩=>?_))
  refine wpAny_bind (wpAny_standAt (wpAny_bind (wpAny_holding (thn (hs pins s2 σ H2 x y v ov iv u _ I2 r1 r2 r q2) fun _ s3 ⟨H3,I3,q3⟩=>?_))))
  exact wpAny_release ⟨σ,H3,I3,q3⟩
def Rh (te : TE) (g : TG) : TS:=fun D σ H=>te σ H fun x H1=>g x σ H1 D.nx
theorem Ri {tg e : Expr} {te : TE} {g : TG} (he : PE X e te) (hg : PG X tg g) (hs : swapsWithSole [tg] e pos.line X.env = pure false:=by rfl) (hw : swappedStores [tg] e X.env = pure none:=by rfl)
    (h1 : (assignEach [tg] X.env).map (·.2) = [assign tg X.env]:=by rfl) : PS X (.Assign [tg] e pos) (Rh te g):=by
  intro pins s σ H D I h
  refine wpAny_Assign_stores (thn (he pins s σ H _ I h) fun v s1 ⟨x,H1,I1,r1,q1⟩=>?_) hs hw
  rw [h1]
  exact thn (hg pins s1 σ H1 x v _ I1 r1 q1) fun _ s2 q=>q
theorem bA {i : Nat} {x : Str} {e : Expr} {te : TE} {pos' : Pos} (hN : X.N.Nodup) (hi : X.N[i]? = some x) (hx : Loc X.env.scope x) (he : PE X e te) (hs : swapsWith e (some (.Name x pos')) pos.line X.env = pure false:=by rfl) (hf : X.fn x = true ∨ X.env.scope.names.lookup x = some .local:=by first | exact .inl rfl | exact .inr rfl | assumption) :
    PS X (.Assign [.Name x pos'] e pos) (Rh te (qu i)):=by
  intro pins s σ H D I h
  refine wpAny_Assign_Name (thn (he pins s σ H _ I h) fun v s1 ⟨y,H1,I1,r1,q1⟩=>?_) hs
  exact nY I1 hN hi hx r1 (fun s2 I2=>⟨_,H1,I2,q1⟩) hf
end
structure It where
  go : Nat → Hp → Prop
  yld : Nat → Hp → V → Hp → Prop
  stop : Nat → Hp → Prop
def j7 (X : Cx) (pins : List (Addr × Obj)) (H : Hp) (b : Addr) : Prop :=
  H b = none ∧ b ≠ X.env.locals ∧ b ∉ X.fs ∧ (b ∈ X.ex ∨ X.s₀.heap.objs.size ≤ b) ∧ (∀ x c,X.env.cells.lookup x = some c → c ≠ b) ∧ ∀ p ∈ X.pn ++ pins,p.1 ≠ b
theorem Inv.BB {X : Cx} {pins : List (Addr × Obj)} {σ : St} {H H' : Hp} {s : Shared} {b : Addr} (I : Inv X pins σ H s) (hb : s.heap.objs.size ≤ b) (hn : H' b = none) : j7 X pins H' b:=by
  refine ⟨hn,Nat.ne_of_gt (Nat.lt_of_lt_of_le I.lt hb),I.abB hb,.inr (Nat.le_trans I.sz hb),fun x c e z=>?_,fun p hp z=>?_⟩
  · obtain ⟨v,q⟩:=I.cell x c e
    exact absurd (Nat.lt_of_lt_of_le q.lt (by rw [z]; exact hb)) (Nat.lt_irrefl _)
  · exact absurd (Nat.lt_of_lt_of_le (Heap.lt_size (I.pin p hp).1) (by rw [z]; exact hb)) (Nat.lt_irrefl _)
structure Turn (P : Program) (w : World) (K : PySem.W.Frag) (tg : Expr) (J : It) (fp : List Addr) (it : Addr) (tn : Nat → Heap → Prop) : Prop where
  mem : it ∈ fp
  obj : ∀ i h,tn i h → ∀ b ∈ fp,∃ o,h.get? b = some o ∧ ∀ v,o.data ≠ .cell v
  keep : ∀ i h h',tn i h → (∀ b ∈ fp,∀ o,h.get? b = some o → h'.get? b = some o) → tn i h'
  item : ∀ (X : Cx),X.prog = P → X.w = w → X.K = K → X.calm = true → ∀ (i : Nat) (pins : List (Addr × Obj)) (s : Shared) (σ : St) (H : Hp) (E : Value → Shared → Prop),Inv X pins σ H s → (∀ b ∈ fp,j7 X pins H b) → tn i s.heap → J.go i H →
    wpAny (model P w) X.A (pyNext (.ref it)) (fun r s1=>∃ u,r = some u ∧
      wpAny (model P w) X.A (letOwnedTupleGo tg (.ref it) u) (fun _ s2=>∃ x H',Inv X pins σ H' s2 ∧ RelV x u ∧ J.yld i H x H' ∧ tn (i + 1) s2.heap ∧ ∀ b ∈ fp,H' b = none) E s1) E s
  done : ∀ (X : Cx),X.prog = P → X.w = w → X.K = K → X.calm = true → ∀ (i : Nat) (pins : List (Addr × Obj)) (s : Shared) (σ : St) (H : Hp) (E : Value → Shared → Prop),Inv X pins σ H s → (∀ b ∈ fp,j7 X pins H b) → tn i s.heap → J.stop i H →
    wpAny (model P w) X.A (pyNext (.ref it)) (fun r s1=>r = none ∧ Inv X pins σ H s1) E s
  self : ∀ (A : Around) (i : Nat) (s : Shared) (Q : Value → Shared → Prop) (E : Value → Shared → Prop),tn i s.heap → Q (.ref it) s → wpAny (model P w) A (pyIter (.ref it)) Q E s
abbrev TI:=St → Hp → (It → Hp → Prop) → Prop
def PIE (X : Cx) (pins : List (Addr × Obj)) (σ : St) (tg : Expr) (R : It → Hp → Prop) (itv : Value) (s2 : Shared) : Prop :=
  ∃ (it : Addr) (fp : List Addr) (tn : Nat → Heap → Prop) (J : It) (H' : Hp),itv = .ref it ∧ Inv X pins σ H' s2 ∧ Turn X.prog X.w X.K tg J fp it tn ∧ tn 0 s2.heap ∧ (∀ b ∈ fp,j7 X pins H' b) ∧ R J H'
def PI (X : Cx) (tg iter : Expr) (wi : TI) : Prop :=
  ∀ (pins : List (Addr × Obj)) (s : Shared) (σ : St) (H : Hp) (R : It → Hp → Prop),Inv X pins σ H s → wi σ H R →
    wpAny (model X.prog X.w) X.A (eval iter X.env) (fun v s1=>wpAny (model X.prog X.w) X.A (pyIter v) (PIE X pins σ tg R) X.xe s1) X.xe s
theorem Lp {M : Model} {A : Around} {E : Value → Shared → Prop} {s : Shared} {tg : Expr} {it : Addr} {u : Value} {o : Obj} {n : String} {vs : Array Value} {Q : Unit → Shared → Prop} (ho : s.heap.get? it = some o) (hc : o.cls = .type n) (hd : o.data = .fields vs)
    (hn : ["enumerate","zip","dict_itemiterator","dict_reverseitemiterator","odict_iterator","itertools.zip_longest","itertools.pairwise"].contains n = false) (hQ : Q () s) : wpAny M A (letOwnedTupleGo tg (.ref it) u) Q E s:=by
  unfold letOwnedTupleGo
  cases tg <;> first
    | exact wpAny_pure hQ
    | (cases u <;> first
        | exact wpAny_pure hQ
        | (refine wpAny_bind (wpAny_load ho ?_)
           rw [hc,hd]
           show wpAny M A (if (["enumerate","zip","dict_itemiterator","dict_reverseitemiterator","odict_iterator","itertools.zip_longest","itertools.pairwise"].contains n && vs[0]? == some (rawInt _)) = true then _ else _) Q E s
           rw [if_neg (by intro h; rw [hn,Bool.false_and] at h; cases h)]
           exact wpAny_pure hQ))
def Itl (K : PySem.W.Frag) (a : Addr) : It :=
  ⟨fun i H=>∃ xs x,SqL K H a xs ∧ xs[i]? = some x,fun i H x H'=>H' = H ∧ ∀ xs,SqL K H a xs → xs[i]? = some x,fun i H=>∃ xs,SqL K H a xs ∧ xs.length ≤ i⟩
def Itt (K : PySem.W.Frag) (a : Addr) : It :=
  ⟨fun i H=>∃ xs x,SqT K H a xs ∧ xs[i]? = some x,fun i H x H'=>H' = H ∧ ∀ xs,SqT K H a xs → xs[i]? = some x,fun i H=>∃ xs,SqT K H a xs ∧ xs.length ≤ i⟩
def Itr (lo : Int) (n : Nat) : It:=⟨fun i _=>i < n,fun i H x H'=>H' = H ∧ x = .int (lo + i),fun i _=>n ≤ i⟩
theorem JQ {P : Program} {w : World} {K : PySem.W.Frag} {tg : Expr} (a it : Addr) : Turn P w K tg (Itl K a) [it] it (fun i h=>h.IsListIter it a i) where
  mem:=by simp
  obj:=fun i h st b hb=>by
    have e : b = it:=by simpa using hb
    subst e
    obtain ⟨o,e,c,d⟩:=st
    exact ⟨o,e,fun v z=>by rw [d] at z; cases z⟩
  keep:=fun i h h' st k=>st.at fun o e=>k it (by simp) o e
  item:=by
    intro X hP hw hK hc i pins s σ H E I hf st hg
    subst hP hw hK
    obtain ⟨xs,x,hq,hx⟩:=hg
    obtain ⟨its,rv,p,hz⟩:=I.list hq
    obtain ⟨u,hu,ru⟩:=rv.get hx
    obtain ⟨f0,f1,f2,f3,f4,f5⟩:=hf it (by simp)
    refine wpAny_pyNext_list_item st p.isList (x:=u) (by simpa using hu) fun h' st' sb=>?_
    have I1 : Inv X pins σ H { s with heap:=h' }:=I.turned (t':=s.toks) (fun b o hb e=>(sb.2 b hb).trans e) f0 f1 f3 f4 f5
    obtain ⟨o,e,c,d⟩:=id st'
    exact ⟨u,rfl,Lp (s:={ s with heap:=h' }) e c d (by decide) ⟨x,H,I1,ru,⟨rfl,fun ys hy=>by rw [I.Lo hy hq]; exact hx⟩,st',fun b hb=>(hf b hb).1⟩⟩
  done:=by
    intro X hP hw hK hc i pins s σ H E I hf st hg
    subst hP hw hK
    obtain ⟨xs,hq,hx⟩:=hg
    obtain ⟨its,rv,p,hz⟩:=I.list hq
    obtain ⟨f0,f1,f2,f3,f4,f5⟩:=hf it (by simp)
    have hl:=rv.length
    exact wpAny_pyNext_list_end (I.ok.hd hc) st p.isList (by simp; omega) fun h' eb=>⟨rfl,I.turned (t':=s.toks) (fun b o hb e=>eb b o hb e) f0 f1 f3 f4 f5⟩
  self:=fun _ _ _ _ _ st h=>wpAny_pyIter_listiter st h
theorem Gb {P : Program} {w : World} {K : PySem.W.Frag} {tg : Expr} (a it : Addr) : Turn P w K tg (Itt K a) [it] it (fun i h=>h.IsTupleIter it a i) where
  mem:=by simp
  obj:=fun i h st b hb=>by
    have e : b = it:=by simpa using hb
    subst e
    obtain ⟨o,e,c,d⟩:=st
    exact ⟨o,e,fun v z=>by rw [d] at z; cases z⟩
  keep:=fun i h h' st k=>st.at fun o e=>k it (by simp) o e
  item:=by
    intro X hP hw hK hc i pins s σ H E I hf st hg
    subst hP hw hK
    obtain ⟨xs,x,hq,hx⟩:=hg
    obtain ⟨its,rv,p,hz⟩:=I.tuple hq
    obtain ⟨u,hu,ru⟩:=rv.get hx
    obtain ⟨f0,f1,f2,f3,f4,f5⟩:=hf it (by simp)
    refine wpAny_pyNext_tuple_item st (show s.heap.IsTuple a its.toArray from p) (x:=u) (by simpa using hu) fun h' st' sb=>?_
    have I1 : Inv X pins σ H { s with heap:=h' }:=I.turned (t':=s.toks) (fun b o hb e=>(sb.2 b hb).trans e) f0 f1 f3 f4 f5
    obtain ⟨o,e,c,d⟩:=id st'
    exact ⟨u,rfl,Lp (s:={ s with heap:=h' }) e c d (by decide) ⟨x,H,I1,ru,⟨rfl,fun ys hy=>by rw [I.JP hy hq]; exact hx⟩,st',fun b hb=>(hf b hb).1⟩⟩
  done:=by
    intro X hP hw hK hc i pins s σ H E I hf st hg
    subst hP hw hK
    obtain ⟨xs,hq,hx⟩:=hg
    obtain ⟨its,rv,p,hz⟩:=I.tuple hq
    obtain ⟨f0,f1,f2,f3,f4,f5⟩:=hf it (by simp)
    have hl:=rv.length
    exact wpAny_pyNext_tuple_end (I.ok.hd hc) st (show s.heap.IsTuple a its.toArray from p) (by simp; omega) fun h' eb=>⟨rfl,I.turned (t':=s.toks) (fun b o hb e=>eb b o hb e) f0 f1 f3 f4 f5⟩
  self:=fun _ _ _ _ _ st h=>wpAny_pyIter_tupleiter st h
theorem Gd {P : Program} {w : World} {K : PySem.W.Frag} {tg : Expr} (it : Addr) (lo : Int) (n : Nat) : Turn P w K tg (Itr lo n) [it] it (fun i h=>IsRangeIter h it (lo + (i : Nat) * 1) ((n : Int) - (i : Nat)) 1) where
  mem:=by simp
  obj:=fun i h st b hb=>by
    have e : b = it:=by simpa using hb
    subst e
    exact ⟨_,st,fun v z=>by
      have z' : Data.fields _ = Data.cell v:=z
      cases z'⟩
  keep:=fun i h h' st k=>k it (by simp) _ st
  item:=by
    intro X hP hw hK hc i pins s σ H E I hf st hg
    subst hP hw hK
    obtain ⟨f0,f1,f2,f3,f4,f5⟩:=hf it (by simp)
    have W:=Walks.range (prog:=X.prog) (w:=X.w) (I.ok.hd hc) it lo 1 n
    refine W.item i s _ _ hg st fun v h' tk hv st' kk=>?_
    obtain ⟨t,rfl⟩:=hv
    have I1 : Inv X pins σ H { s with heap:=h',toks:=tk }:=I.turned (fun b o hb e=>kk b o (by simpa using hb) e) f0 f1 f3 f4 f5
    refine ⟨_,rfl,Lp (s:={ s with heap:=h',toks:=tk }) (n:="range_iterator") st' rfl rfl (by decide) ⟨.int (lo + i),H,I1,⟨t,?_⟩,⟨rfl,rfl⟩,st',fun b hb=>(hf b hb).1⟩⟩
    rw [Int.mul_one]
  done:=by
    intro X hP hw hK hc i pins s σ H E I hf st hg
    subst hP hw hK
    obtain ⟨f0,f1,f2,f3,f4,f5⟩:=hf it (by simp)
    exact wpAny_pyNext_range_end (I.ok.hd hc) st (by have : n ≤ i:=hg; omega) fun h' eb=>⟨rfl,I.turned (t':=s.toks) (fun b o hb e=>eb b o hb e) f0 f1 f3 f4 f5⟩
  self:=fun _ _ _ _ _ st h=>wpAny_pyIter_rangeiter st h
end L2
namespace L2
open PySem PySem.Spec PyProof.Rows
section
variable {X : Cx} {tg : Expr}
def VX (K : PySem.W.Frag) (tl : TE) : TI:=fun σ H R=>tl σ H fun x H1=>∃ a,x = .ref a ∧ (∃ xs,SqL K H1 a xs) ∧ R (Itl K a) H1
def abL (K : PySem.W.Frag) (tl : TE) : TI:=fun σ H R=>tl σ H fun x H1=>∃ a,x = .ref a ∧ (∃ xs,SqT K H1 a xs) ∧ R (Itt K a) H1
theorem rL {l : Expr} {tl : TE} (hl : PE X l tl) : PI X tg l (VX X.K tl):=by
  intro pins s σ H R I h
  refine thn (hl pins s σ H _ I h) fun v s1 ⟨x,H1,I1,r1,q1⟩=>?_
  obtain ⟨a,e,⟨xs,hq⟩,q⟩:=q1
  subst e
  cases r1
  obtain ⟨its,rv,p,hz⟩:=I1.list hq
  refine wpAny_pyIter_list p.isList ?_
  refine ⟨s1.heap.objs.size,[s1.heap.objs.size],_,_,H1,rfl,I1.kept (t':=s1.toks) fun b o e=>Heap.get?_push_of_some _ e,JQ a _,⟨_,Heap.get?_push_size _ rfl,rfl,rfl⟩,fun b hb=>?_,q⟩
  have e : b = s1.heap.objs.size:=by simpa using hb
  subst e
  exact I1.BB (Nat.le_refl _) (I1.hok.fresh (Nat.le_refl _))
theorem Rj {l : Expr} {tl : TE} (hl : PE X l tl) : PI X tg l (abL X.K tl):=by
  intro pins s σ H R I h
  refine thn (hl pins s σ H _ I h) fun v s1 ⟨x,H1,I1,r1,q1⟩=>?_
  obtain ⟨a,e,⟨xs,hq⟩,q⟩:=q1
  subst e
  cases r1
  obtain ⟨its,rv,p,hz⟩:=I1.tuple hq
  refine wpAny_pyIter_tuple (show s1.heap.IsTuple a its.toArray from p) ?_
  refine ⟨s1.heap.objs.size,[s1.heap.objs.size],_,_,H1,rfl,I1.kept (t':=s1.toks) fun b o e=>Heap.get?_push_of_some _ e,Gb a _,⟨_,Heap.get?_push_size _ rfl,rfl,rfl⟩,fun b hb=>?_,q⟩
  have e : b = s1.heap.objs.size:=by simpa using hb
  subst e
  exact I1.BB (Nat.le_refl _) (I1.hok.fresh (Nat.le_refl _))
theorem Lq {pins : List (Addr × Obj)} {σ : St} {H : Hp} {s : Shared} {R : It → Hp → Prop} {E : Value → Shared → Prop} {lo hi : Int} {t u v : Tok} {tk : Nat} (I : Inv X pins σ H s) (h1 : -(2 ^ 62) ≤ lo) (h2 : lo < 2 ^ 62) (h3 : -(2 ^ 62) ≤ hi) (h4 : hi < 2 ^ 62)
    (q : R (Itr lo (hi - lo).toNat) H) : wpAny (model X.prog X.w) X.A (pyIter (.ref s.heap.objs.size)) (PIE X pins σ tg R) E { s with heap:=s.heap.push { cls:=.type "range",data:=.fields #[.int lo t,.int hi u,.int 1 v] },toks:=tk }:=by
  refine wpAny_pyIter_range (IsRange.new ..) (small_one h1 h2 h3 h4) ?_
  have I1 : Inv X pins σ H { s with heap:=s.heap.push { cls:=.type "range",data:=.fields #[.int lo t,.int hi u,.int 1 v] },toks:=tk }:=I.kept fun b o e=>Heap.get?_push_of_some _ e
  refine ⟨(s.heap.push { cls:=.type "range",data:=.fields #[.int lo t,.int hi u,.int 1 v] }).objs.size,[(s.heap.push { cls:=.type "range",data:=.fields #[.int lo t,.int hi u,.int 1 v] }).objs.size],_,_,H,rfl,
    I1.kept (t':=tk) fun b o e=>Heap.get?_push_of_some _ e,Gd _ lo (hi - lo).toNat,?_,fun b hb=>?_,q⟩
  · have e1 : lo + ((0 : Nat) : Int) * 1 = lo:=by simp
    have e2 : (((hi - lo).toNat : Nat) : Int) - ((0 : Nat) : Int) = Builtin.Range.rangeSize lo hi 1:=by rw [rangeSize_one]; split <;> omega
    show IsRangeIter _ _ (lo + ((0 : Nat) : Int) * 1) ((((hi - lo).toNat : Nat) : Int) - ((0 : Nat) : Int)) 1
    rw [e1,e2]
    exact Heap.get?_push_size _ rfl
  · have e : b = (s.heap.push { cls:=.type "range",data:=.fields #[.int lo t,.int hi u,.int 1 v] }).objs.size:=by simpa using hb
    subst e
    exact I1.BB (Nat.le_refl _) (I1.hok.fresh (Nat.le_refl _))
def VY (ta : TA) : TI:=fun σ H R=>ta σ H fun vs H1=>∃ j : Int,vs = [.int j] ∧ -(2 ^ 62) ≤ j ∧ j < 2 ^ 62 ∧ R (Itr 0 j.toNat) H1
theorem AF {a : Expr} {ta : TA} {p pos : Pos} (hg : Gl X "range") (hm : X.mg "range" = none) (ha : PA X [a] ta) (hs : starEach [a] X.env = [(false,eval a X.env)]:=by rfl) : PI X tg (.Call (.Name "range" p) [a] [] pos) (VY ta):=by
  intro pins s σ H R I h
  refine Call_ (Bz I hg hm boot_range (PyProof.Rows.callWith_type1 (thn (ha pos pins s σ H _ I h) fun us s1 ⟨vs,H1,I1,r1,q1⟩=>?_) hs rfl))
  obtain ⟨j,e,q1,q2,q⟩:=q1
  subst e
  cases r1 with
  | cons r rr =>
    cases rr
    obtain ⟨t,rfl⟩:=r
    exact call_range_1 (Lq I1 (by omega) (by omega) q1 q2 (by simpa using q))
def abM (wi : TI) (g : TG) (tb : TS) : TS:=fun D σ H=>wi σ H fun J H1=>∃ W : Nat → Nat → St → Hp → Prop,(∃ m,W 0 m σ H1) ∧ ∀ i m σ H,W i m σ H →
  (J.stop i H ∧ D.nx σ H) ∨ (J.go i H ∧ ∃ N : St → Hp → Prop,(∀ σ' H',N σ' H' → ∃ m',m' < m ∧ W (i + 1) m' σ' H') ∧ ∀ x H',J.yld i H x H' → g x σ H' fun σ2 H2=>tb { D with nx:=N,ct:=N,bk:=D.nx } σ2 H2)
def BC (fp : List Addr) (h : Heap) : List (Addr × Obj):=fp.filterMap fun b=>(h.get? b).map fun o=>(b,o)
theorem oX {fp : List Addr} {h : Heap} {b : Addr} {o : Obj} (hb : b ∈ fp) (e : h.get? b = some o) : (b,o) ∈ BC fp h:=List.mem_filterMap.mpr ⟨b,hb,by rw [e]; rfl⟩
theorem JR {fp : List Addr} {h : Heap} {p : Addr × Obj} (hp : p ∈ BC fp h) : p.1 ∈ fp ∧ h.get? p.1 = some p.2:=by
  obtain ⟨b,hb,e⟩:=List.mem_filterMap.mp hp
  cases q : h.get? b with
  | none=>rw [q] at e; cases e
  | some o =>
    rw [q] at e
    have e' : (b,o) = p:=Option.some.inj e
    subst e'
    exact ⟨hb,q⟩
theorem Inv.pinned {pins : List (Addr × Obj)} {σ : St} {H : Hp} {s : Shared} {fp : List Addr} (I : Inv X pins σ H s) (hf : ∀ b ∈ fp,j7 X pins H b) (ho : ∀ b ∈ fp,∃ o,s.heap.get? b = some o ∧ ∀ v,o.data ≠ .cell v) : Inv X (pins ++ BC fp s.heap) σ H s :=
  I.Bx fun p hp=>(List.mem_append.mp hp).elim (fun z=>I.pin p (List.mem_append_right _ z)) fun z=>by
    obtain ⟨hb,e⟩:=JR z
    obtain ⟨f0,f1,f2,_⟩:=hf p.1 hb
    obtain ⟨o,e',d⟩:=ho p.1 hb
    rw [e] at e'; cases e'
    exact ⟨e,f0,f1,f2,d⟩
theorem Inv.lG {pins pl : List (Addr × Obj)} {σ : St} {H : Hp} {s : Shared} (I : Inv X (pins ++ pl) σ H s) : Inv X pins σ H s:=I.Bx fun p hp=>I.pin p (List.mem_append_right _ (List.mem_append_left _ hp))
theorem Ge {iter : Expr} {body : List Stmt} {wi : TI} {g : TG} {tb : TS} {pos : Pos} (hp : PassesOwn (model X.prog X.w) X.A X.env X.xe) (hc : X.calm = true) (hi : PI X tg iter wi) (hg : PG X tg g) (hb : PSs X body tb)
    (hs : ∀ x,foldedSetIterable iter X.env x = pure x:=by intro _; rfl) : PS X (.For tg iter body [] pos) (abM wi g tb):=by
  intro pins s σ H D I h
  refine wpAny_For (thn (hi pins s σ H _ I h) fun v s1 h1=>thn h1 fun itv s2 h2=>?_) hs
  obtain ⟨it,fp,tn,J,H2,e,I2,T,st2,f2,W,⟨m0,w0⟩,turn⟩:=h2
  subst e
  have stat : ∀ {H' : Hp},(∀ b ∈ fp,H' b = none) → ∀ b ∈ fp,j7 X pins H' b:=fun hn b hb=>⟨hn b hb,(f2 b hb).2⟩
  refine codeAny_forLoop_any (fun n s'=>∃ i σ' H',Inv X pins σ' H' s' ∧ tn i s'.heap ∧ (∀ b ∈ fp,H' b = none) ∧ W i n σ' H') ?_ m0 ⟨0,σ,H2,I2,st2,fun b hb=>(f2 b hb).1,w0⟩
  rintro n s3 ⟨i,σ3,H3,I3,st3,fr3,w3⟩
  rcases turn i n σ3 H3 w3 with ⟨stop,qn⟩ | ⟨go,N,hN,step⟩
  · refine wpAny_passesOwn hp (thn (T.done X rfl rfl rfl hc i pins s3 σ3 H3 X.xe I3 (stat fr3) st3 stop) fun r s4 ⟨hr,I4⟩=>?_)
    subst hr
    exact wpAny_execs_nil ⟨σ3,H3,I4,qn⟩
  · refine wpAny_passesOwn hp (thn (T.item X rfl rfl rfl hc i pins s3 σ3 H3 X.xe I3 (stat fr3) st3 go) fun r s4 ⟨u,hr,h4⟩=>?_)
    subst hr
    refine wpAny_passesOwn hp (thn h4 fun _ s5 ⟨x,H5,I5,r5,y5,st5,fr5⟩=>?_)
    have I5':=I5.pinned (stat fr5) (T.obj _ _ st5)
    refine wpAny_passesOwn hp (thn (hg _ s5 σ3 H5 x u _ I5' r5 (step x H5 y5)) fun _ s6 ⟨σ6,H6,I6,q6⟩=>?_)
    refine wpAny_passesOwn hp (thn (hb _ s6 σ6 H6 _ I6 q6) fun f s7 q7=>?_)
    have again : ∀ {σ7 : St} {H7 : Hp},Inv X (pins ++ BC fp s5.heap) σ7 H7 s7 → N σ7 H7 → ∃ m,m < n ∧ ∃ i σ' H',Inv X pins σ' H' s7 ∧ tn i s7.heap ∧ (∀ b ∈ fp,H' b = none) ∧ W i m σ' H':=fun {σ7 H7} I7 n7=>by
      obtain ⟨m',hm,w7⟩:=hN σ7 H7 n7
      refine ⟨m',hm,i + 1,σ7,H7,I7.lG,T.keep _ _ _ st5 fun b hb o e=>(I7.pin (b,o) (List.mem_append_right _ (List.mem_append_right _ (oX hb e)))).1,fun b hb=>?_,w7⟩
      obtain ⟨o,e,d⟩:=T.obj _ _ st5 b hb
      exact (I7.pin (b,o) (List.mem_append_right _ (List.mem_append_right _ (oX hb e)))).2.1
    cases f with
    | next=>obtain ⟨σ7,H7,I7,n7⟩:=q7; exact again I7 n7
    | cont=>obtain ⟨σ7,H7,I7,n7⟩:=q7; exact again I7 n7
    | brk=>obtain ⟨σ7,H7,I7,q7⟩:=q7; exact ⟨σ7,H7,I7.lG,q7⟩
    | ret v=>obtain ⟨x7,σ7,H7,I7,r7,q7⟩:=q7; exact ⟨x7,σ7,H7,I7.lG,r7,q7⟩
end
theorem CW {K : PySem.W.Frag} {a : Addr} {xs : List V} {g : TG} {tb : TS} {D : Ends} {σ : St} {H : Hp} (Pv : Nat → St → Hp → Prop) (h0 : Pv 0 σ H) (hl : ∀ i σ H,i ≤ xs.length → Pv i σ H → SqL K H a xs)
    (hs : ∀ i x σ H,xs[i]? = some x → Pv i σ H → g x σ H fun σ2 H2=>tb { D with nx:=Pv (i + 1),ct:=Pv (i + 1),bk:=D.nx } σ2 H2) (hd : ∀ σ H,Pv xs.length σ H → D.nx σ H) :
    ∃ W : Nat → Nat → St → Hp → Prop,(∃ m,W 0 m σ H) ∧ ∀ i m σ H,W i m σ H →
      ((Itl K a).stop i H ∧ D.nx σ H) ∨ ((Itl K a).go i H ∧ ∃ N : St → Hp → Prop,(∀ σ' H',N σ' H' → ∃ m',m' < m ∧ W (i + 1) m' σ' H') ∧ ∀ x H',(Itl K a).yld i H x H' → g x σ H' fun σ2 H2=>tb { D with nx:=N,ct:=N,bk:=D.nx } σ2 H2):=by
  refine ⟨fun i m σ H=>m = xs.length - i ∧ i ≤ xs.length ∧ Pv i σ H,⟨xs.length,by simp,Nat.zero_le _,h0⟩,?_⟩
  rintro i m σ H ⟨rfl,hi,p⟩
  have q:=hl i σ H hi p
  by_cases hlt : i < xs.length
  · refine .inr ⟨⟨xs,xs[i],q,by simp [hlt]⟩,Pv (i + 1),fun σ' H' p'=>⟨xs.length - (i + 1),by omega,rfl,hlt,p'⟩,fun x H' y=>?_⟩
    obtain ⟨e,y⟩:=y
    subst e
    exact hs i x σ _ (y xs q) p
  · have e : i = xs.length:=by omega
    subst e
    exact .inl ⟨⟨xs,q,Nat.le_refl _⟩,hd σ H p⟩
theorem JS {lo : Int} {n : Nat} {g : TG} {tb : TS} {D : Ends} {σ : St} {H : Hp} (Pv : Nat → St → Hp → Prop) (h0 : Pv 0 σ H)
    (hs : ∀ i σ H,i < n → Pv i σ H → g (.int (lo + i)) σ H fun σ2 H2=>tb { D with nx:=Pv (i + 1),ct:=Pv (i + 1),bk:=D.nx } σ2 H2) (hd : ∀ σ H,Pv n σ H → D.nx σ H) :
    ∃ W : Nat → Nat → St → Hp → Prop,(∃ m,W 0 m σ H) ∧ ∀ i m σ H,W i m σ H →
      ((Itr lo n).stop i H ∧ D.nx σ H) ∨ ((Itr lo n).go i H ∧ ∃ N : St → Hp → Prop,(∀ σ' H',N σ' H' → ∃ m',m' < m ∧ W (i + 1) m' σ' H') ∧ ∀ x H',(Itr lo n).yld i H x H' → g x σ H' fun σ2 H2=>tb { D with nx:=N,ct:=N,bk:=D.nx } σ2 H2):=by
  refine ⟨fun i m σ H=>m = n - i ∧ i ≤ n ∧ Pv i σ H,⟨n,by simp,Nat.zero_le _,h0⟩,?_⟩
  rintro i m σ H ⟨rfl,hi,p⟩
  by_cases hlt : i < n
  · refine .inr ⟨hlt,Pv (i + 1),fun σ' H' p'=>⟨n - (i + 1),by omega,rfl,hlt,p'⟩,fun x H' y=>?_⟩
    obtain ⟨e,y⟩:=y
    subst e y
    exact hs i σ _ hlt p
  · have e : i = n:=by omega
    subst e
    exact .inl ⟨Nat.le_refl _,hd σ H p⟩
end L2
namespace L2
open PySem PySem.Spec PyProof.Rows
abbrev R2:=V → V → Hp → VK → Prop
def OpR (X : Cx) (f : Value → Value → Sem Value) (r : R2) : Prop :=
  ∀ (pins : List (Addr × Obj)) (s : Shared) (σ : St) (H : Hp) (x y : V) (v u : Value) (Q : VK),Inv X pins σ H s → RelV x v → RelV y u → r x y H Q →
    wpAny (model X.prog X.w) X.A (f v u) (EP X pins σ Q) X.xe s
def UnR (X : Cx) (f : Value → Sem Value) (r : V → Hp → VK → Prop) : Prop :=
  ∀ (pins : List (Addr × Obj)) (s : Shared) (σ : St) (H : Hp) (x : V) (v : Value) (Q : VK),Inv X pins σ H s → RelV x v → r x H Q →
    wpAny (model X.prog X.w) X.A (f v) (EP X pins σ Q) X.xe s
def hV (X : Cx) (f : Value) (r : List V → Hp → VK → Prop) : Prop :=
  ∀ (pins : List (Addr × Obj)) (s : Shared) (σ : St) (H : Hp) (xs : List V) (us : List Value) (Q : VK),Inv X pins σ H s → Vals xs us → r xs H Q →
    wpAny (model X.prog X.w) X.A (call f us) (EP X pins σ Q) X.xe s
def abN (X : Cx) (r : V → Hp → (Bool → Hp → Prop) → Prop) : Prop :=
  ∀ (pins : List (Addr × Obj)) (s : Shared) (σ : St) (H : Hp) (x : V) (v : Value) (Q : Bool → Hp → Prop),Inv X pins σ H s → RelV x v → r x H Q →
    wpAny (model X.prog X.w) X.A (truthy v) (TP X pins σ Q) X.xe s
def tOp (r : R2) (ta tb : TE) : TE:=fun σ H Q=>ta σ H fun x H1=>tb σ H1 fun y H2=>r x y H2 Q
def tUn (r : V → Hp → VK → Prop) (ta : TE) : TE:=fun σ H Q=>ta σ H fun x H1=>r x H1 Q
def rI (C : Int → Int → Prop) (g : Int → Int → V) : R2:=fun x y H Q=>∃ i j,x = .int i ∧ y = .int j ∧ C i j ∧ Q (g i j) H
def rI0 (g : Int → Int → V) : R2:=fun x y H Q=>∃ i j,x = .int i ∧ y = .int j ∧ Q (g i j) H
def rU (g : Int → V) : V → Hp → VK → Prop:=fun x H Q=>∃ i,x = .int i ∧ Q (g i) H
section
variable {X : Cx} {a b c : Expr} {ta tb tc : TE} {pos : Pos}
theorem Rk (ha : PE X a ta) (hb : PE X b tb) {pins : List (Addr × Obj)} {s : Shared} {σ : St} {H : Hp} {R : V → V → Hp → Prop} (I : Inv X pins σ H s)
    (h : ta σ H fun x H1=>tb σ H1 fun y H2=>R x y H2) {Q : Value → Shared → Prop} {f : Value → Value → Sem Value}
    (hf : ∀ v u s2 x y H2,Inv X pins σ H2 s2 → RelV x v → RelV y u → R x y H2 → wpAny (model X.prog X.w) X.A (f v u) Q X.xe s2) :
    wpAny (model X.prog X.w) X.A (eval a X.env) (fun v s₁=>wpAny (model X.prog X.w) X.A (eval b X.env) (fun u s₂=>wpAny (model X.prog X.w) X.A (f v u) Q X.xe s₂) X.xe s₁) X.xe s:=by
  refine thn (ha pins s σ H _ I h) fun v s1 ⟨x,H1,I1,r1,q1⟩=>?_
  refine thn (hb pins s1 σ H1 _ I1 q1) fun u s2 ⟨y,H2,I2,r2,q2⟩=>?_
  exact hf v u s2 x y H2 I2 r1 r2 q2
theorem cg {op : Operator} {r : R2} (ho : OpR X (binaryOp op) r) (ha : PE X a ta) (hb : PE X b tb) : PE X (.BinOp a op b pos) (tOp r ta tb):=by
  intro pins s σ H Q I h
  exact wpAny_BinOp (Rk ha hb I h fun v u s2 x y H2 I2 rx ry q=>ho pins s2 σ H2 x y v u Q I2 rx ry q)
theorem AG {op : UnaryOp} {r : V → Hp → VK → Prop} (ho : UnR X (unaryOp op) r) (ha : PE X a ta) : PE X (.UnaryOp op a pos) (tUn r ta):=by
  intro pins s σ H Q I h
  exact UnaryOp_ (thn (ha pins s σ H _ I h) fun v s1 ⟨x,H1,I1,r1,q1⟩=>ho pins s1 σ H1 x v Q I1 r1 q1)
theorem opI {f : Value → Value → Sem Value} {C : Int → Int → Prop} {g : Int → Int → Int}
    (rule : ∀ (i j : Int) (t u : Tok) (s : Shared) (Q : Value → Shared → Prop) (E : Value → Shared → Prop),C i j → Q (.int (g i j) s.toks) { s with toks:=s.toks + 1 } → wpAny (model X.prog X.w) X.A (f (.int i t) (.int j u)) Q E s) :
    OpR X f (rI C fun i j=>.int (g i j)):=by
  intro pins s σ H x y v u Q I rx ry h
  obtain ⟨i,j,rfl,rfl,hc,q⟩:=h
  obtain ⟨t,rfl⟩:=rx
  obtain ⟨t',rfl⟩:=ry
  exact rule i j t t' s _ _ hc ⟨.int (g i j),H,I.tok _,⟨_,rfl⟩,q⟩
theorem VZ {f : Value → Value → Sem Value} {g : Int → Int → Int}
    (rule : ∀ (i j : Int) (t u : Tok) (s : Shared) (Q : Value → Shared → Prop) (E : Value → Shared → Prop),Q (.int (g i j) s.toks) { s with toks:=s.toks + 1 } → wpAny (model X.prog X.w) X.A (f (.int i t) (.int j u)) Q E s) :
    OpR X f (rI0 fun i j=>.int (g i j)):=by
  intro pins s σ H x y v u Q I rx ry h
  obtain ⟨i,j,rfl,rfl,q⟩:=h
  obtain ⟨t,rfl⟩:=rx
  obtain ⟨t',rfl⟩:=ry
  exact rule i j t t' s _ _ ⟨.int (g i j),H,I.tok _,⟨_,rfl⟩,q⟩
theorem Of {f : Value → Value → Sem Value} {g : Int → Int → Bool}
    (rule : ∀ (i j : Int) (t u : Tok) (s : Shared) (Q : Value → Shared → Prop) (E : Value → Shared → Prop),Q (.bool (g i j)) s → wpAny (model X.prog X.w) X.A (f (.int i t) (.int j u)) Q E s) :
    OpR X f (rI0 fun i j=>.bl (g i j)):=by
  intro pins s σ H x y v u Q I rx ry h
  obtain ⟨i,j,rfl,rfl,q⟩:=h
  obtain ⟨t,rfl⟩:=rx
  obtain ⟨t',rfl⟩:=ry
  exact rule i j t t' s _ _ ⟨.bl (g i j),H,I,rfl,q⟩
def abO (i j : Int) : Prop:=0 < j ∧ j < 1073741824
def abP (i j : Int) : Prop:=0 ≤ j ∧ j ≤ 1000000 ∧ i.natAbs < 2 ^ 64
def Rm (i j : Int) : Prop:=(-(2 ^ 64) < i ∧ i < 2 ^ 64) ∨ (-(2 ^ 64) < j ∧ j < 2 ^ 64)
theorem Rm.ok {i j : Int} (h : Rm i j) : IntMulOk i j:=by
  rcases h with ⟨h1,h2⟩ | ⟨h1,h2⟩
  · exact .of_left (intBits_le_64 h1 h2)
  · exact .of_right (intBits_le_64 h1 h2)
theorem hZ : OpR X (binaryOp .Add) (rI0 fun i j=>.int (i + j)):=VZ fun _ _ _ _ _ _ _ q=>add_int q
theorem Lr : OpR X (binaryOp .Sub) (rI0 fun i j=>.int (i - j)):=VZ fun _ _ _ _ _ _ _ q=>sub_int q
theorem Gf : OpR X (binaryOp .Mult) (rI Rm fun i j=>.int (i * j)):=opI fun _ _ _ _ _ _ _ hc q=>mul_int q hc.ok
theorem rM : OpR X (binaryOp .FloorDiv) (rI abO fun i j=>.int (i / j)):=opI fun i j _ _ _ _ _ hc q=>by
  have h1 : (0 : Int) < j:=hc.1
  have h2 : j < 1073741824:=hc.2
  exact floordiv_int (by omega) (by rw [Int.fdiv_eq_ediv_of_nonneg i (by omega)]; exact q) (.inl (PyProof.noPylong_small (by omega)))
theorem gk : OpR X (binaryOp .Mod) (rI (fun _ j=>0 < j) fun i j=>.int (i % j)):=opI fun i j _ _ _ _ _ hc q=>by
  have h1 : (0 : Int) < j:=hc
  exact mod_int' (by omega) (by rw [Int.fmod_eq_emod_of_nonneg i (by omega)]; exact q)
theorem Rn : OpR X (binaryOp .Pow) (rI abP fun i j=>.int (i ^ j.toNat)):=opI fun _ _ _ _ _ _ _ hc q=>pow_int_small hc.1 hc.2.1 hc.2.2 q
theorem unI {f : Value → Sem Value} {g : Int → Int}
    (rule : ∀ (i : Int) (t : Tok) (s : Shared) (Q : Value → Shared → Prop) (E : Value → Shared → Prop),Q (.int (g i) s.toks) { s with toks:=s.toks + 1 } → wpAny (model X.prog X.w) X.A (f (.int i t)) Q E s) :
    UnR X f (rU fun i=>.int (g i)):=by
  intro pins s σ H x v Q I rx h
  obtain ⟨i,rfl,q⟩:=h
  obtain ⟨t,rfl⟩:=rx
  exact rule i t s _ _ ⟨.int (g i),H,I.tok _,⟨_,rfl⟩,q⟩
theorem u3 : UnR X (unaryOp .USub) (rU fun i=>.int (-i)):=unI fun _ _ _ _ _ q=>neg_int q
end
def V0 : V → V → Bool
  | .non,.non=>true | .non,.int _=>true | .int _,.non=>true | .non,.bl _=>true | .bl _,.non=>true | .non,.str _=>true | .str _,.non=>true
  | .int _,.int _=>true | .bl _,.bl _=>true | .str _,.str _=>true | .byt _,.byt _=>true
  | .int _,.str _=>true | .str _,.int _=>true | .bl _,.str _=>true | .str _,.bl _=>true
  | _,_=>false
def rEq : R2:=fun x y H Q=>V0 x y = true ∧ Q (.bl (decide (x = y))) H
def rNe : R2:=fun x y H Q=>V0 x y = true ∧ Q (.bl (!decide (x = y))) H
theorem II {i j : Int} : decide (V.int i = V.int j) = (i == j):=by
  rw [Bool.eq_iff_iff]
  simp
theorem Ls {i j : Bool} : decide (V.bl i = V.bl j) = (i == j):=by
  rw [Bool.eq_iff_iff]
  simp
theorem IJ {i j : Str} : decide (V.str i = V.str j) = (i == j):=by
  rw [Bool.eq_iff_iff]
  simp
theorem IK {i j : Array UInt8} : decide (V.byt i = V.byt j) = (i.toList == j.toList):=by
  rw [Bool.eq_iff_iff]
  cases i
  cases j
  simp
section
variable {X : Cx} {a b c : Expr} {ta tb tc : TE} {pos : Pos}
theorem cJ {pins : List (Addr × Obj)} {σ : St} {H : Hp} {s : Shared} {Q : VK} {k k' : Bool} (I : Inv X pins σ H s) (q : Q (.bl k) H) (e : k = k') : EP X pins σ Q (.bool k') s:=by
  subst e
  exact ⟨.bl k,H,I,rfl,q⟩
theorem cf : OpR X (compareOp .Eq) rEq:=by
  intro pins s σ H x y v u Q I rx ry h
  obtain ⟨hs,q⟩:=h
  cases x with
  | non =>
    cases rx
    cases y with
    | non=>cases ry; exact PySem.EqNone.eq_none_none (cJ I q (by simp))
    | bl j=>cases ry; exact PySem.EqNone.eq_none_bool (cJ I q (by simp))
    | int j=>obtain ⟨t',rfl⟩:=ry; exact PySem.EqNone.eq_none_int (cJ I q (by simp))
    | str j=>obtain ⟨t',rfl⟩:=ry; exact PySem.EqNone.eq_none_str (cJ I q (by simp))
    | _=>exact absurd (show false = true from hs) Bool.false_ne_true
  | bl i =>
    cases rx
    cases y with
    | non=>cases ry; exact PySem.EqNone.eq_bool_none (cJ I q (by simp))
    | bl j=>cases ry; exact eq_bool (cJ I q Ls)
    | str j=>obtain ⟨t',rfl⟩:=ry; exact PySem.EqMixed.eq_bool_str (cJ I q (by simp))
    | _=>exact absurd (show false = true from hs) Bool.false_ne_true
  | int i =>
    obtain ⟨t,rfl⟩:=rx
    cases y with
    | non=>cases ry; exact PySem.EqNone.eq_int_none (cJ I q (by simp))
    | int j=>obtain ⟨t',rfl⟩:=ry; exact eq_int (cJ I q II)
    | str j=>obtain ⟨t',rfl⟩:=ry; exact PySem.EqMixed.eq_int_str (cJ I q (by simp))
    | _=>exact absurd (show false = true from hs) Bool.false_ne_true
  | str i =>
    obtain ⟨t,rfl⟩:=rx
    cases y with
    | non=>cases ry; exact PySem.EqNone.eq_str_none (cJ I q (by simp))
    | bl j=>cases ry; exact PySem.EqMixed.eq_str_bool (cJ I q (by simp))
    | int j=>obtain ⟨t',rfl⟩:=ry; exact PySem.EqMixed.eq_str_int (cJ I q (by simp))
    | str j=>obtain ⟨t',rfl⟩:=ry; exact eq_str (cJ I q IJ)
    | _=>exact absurd (show false = true from hs) Bool.false_ne_true
  | byt i =>
    obtain ⟨t,rfl⟩:=rx
    cases y with
    | byt j=>obtain ⟨t',rfl⟩:=ry; exact PySem.W.eq_bytes (cJ I q IK)
    | _=>exact absurd (show false = true from hs) Bool.false_ne_true
  | _=>cases y <;> exact absurd (show false = true from hs) Bool.false_ne_true
theorem Lu : OpR X (compareOp .NotEq) rNe:=by
  intro pins s σ H x y v u Q I rx ry h
  obtain ⟨hs,q⟩:=h
  cases x with
  | non =>
    cases rx
    cases y with
    | non=>cases ry; exact PySem.EqNone.ne_none_none (cJ I q (by simp))
    | bl j=>cases ry; exact PySem.EqNone.ne_none_bool (cJ I q (by simp))
    | int j=>obtain ⟨t',rfl⟩:=ry; exact PySem.EqNone.ne_none_int (cJ I q (by simp))
    | str j=>obtain ⟨t',rfl⟩:=ry; exact PySem.EqNone.ne_none_str (cJ I q (by simp))
    | _=>exact absurd (show false = true from hs) Bool.false_ne_true
  | bl i =>
    cases rx
    cases y with
    | non=>cases ry; exact PySem.EqNone.ne_bool_none (cJ I q (by simp))
    | bl j=>cases ry; exact ne_bool (cJ I q (congrArg not Ls))
    | str j=>obtain ⟨t',rfl⟩:=ry; exact PySem.EqMixed.ne_bool_str (cJ I q (by simp))
    | _=>exact absurd (show false = true from hs) Bool.false_ne_true
  | int i =>
    obtain ⟨t,rfl⟩:=rx
    cases y with
    | non=>cases ry; exact PySem.EqNone.ne_int_none (cJ I q (by simp))
    | int j=>obtain ⟨t',rfl⟩:=ry; exact ne_int (cJ I q (congrArg not II))
    | str j=>obtain ⟨t',rfl⟩:=ry; exact PySem.EqMixed.ne_int_str (cJ I q (by simp))
    | _=>exact absurd (show false = true from hs) Bool.false_ne_true
  | str i =>
    obtain ⟨t,rfl⟩:=rx
    cases y with
    | non=>cases ry; exact PySem.EqNone.ne_str_none (cJ I q (by simp))
    | bl j=>cases ry; exact PySem.EqMixed.ne_str_bool (cJ I q (by simp))
    | int j=>obtain ⟨t',rfl⟩:=ry; exact PySem.EqMixed.ne_str_int (cJ I q (by simp))
    | str j=>obtain ⟨t',rfl⟩:=ry; exact ne_str (cJ I q (congrArg not IJ))
    | _=>exact absurd (show false = true from hs) Bool.false_ne_true
  | byt i =>
    obtain ⟨t,rfl⟩:=rx
    cases y with
    | byt j=>obtain ⟨t',rfl⟩:=ry; exact PySem.W.ne_bytes (cJ I q (congrArg not IK))
    | _=>exact absurd (show false = true from hs) Bool.false_ne_true
  | _=>cases y <;> exact absurd (show false = true from hs) Bool.false_ne_true
theorem yy : OpR X (compareOp .Lt) (rI0 fun i j=>.bl (decide (i < j))):=Of fun _ _ _ _ _ _ _ q=>lt_int q
theorem IL : OpR X (compareOp .LtE) (rI0 fun i j=>.bl (decide (i ≤ j))):=Of fun _ _ _ _ _ _ _ q=>le_int q
theorem V1 : OpR X (compareOp .Gt) (rI0 fun i j=>.bl (decide (j < i))):=Of fun _ _ _ _ _ _ _ q=>gt_int q
theorem V2 : OpR X (compareOp .GtE) (rI0 fun i j=>.bl (decide (j ≤ i))):=Of fun _ _ _ _ _ _ _ q=>ge_int q
theorem Ro : OpR X (compareOp .Is) (fun x y H Q=>y = .non ∧ Q (.bl (decide (x = .non))) H):=by
  intro pins s σ H x y v u Q I rx ry h
  obtain ⟨rfl,q⟩:=h
  cases ry
  refine is_none_gen (cJ I q ?_)
  cases x <;> first
    | (cases rx; rfl)
    | (obtain ⟨t,rfl⟩:=rx; rfl)
theorem OpR.or {f : Value → Value → Sem Value} {r r' : R2} (h : OpR X f r) (h' : OpR X f r') : OpR X f (fun x y H Q=>r x y H Q ∨ r' x y H Q):=by
  intro pins s σ H x y v u Q I rx ry q
  rcases q with q | q
  · exact h pins s σ H x y v u Q I rx ry q
  · exact h' pins s σ H x y v u Q I rx ry q
theorem aT (b : Expr) {op : CmpOp} (h : op ≠ .In:=by decide) (h2 : op ≠ .NotIn:=by decide) : behindInMarks op b = false:=by
  have e1 : (op == CmpOp.In) = false:=by cases op <;> first | rfl | exact absurd rfl h
  have e2 : (op == CmpOp.NotIn) = false:=by cases op <;> first | rfl | exact absurd rfl h2
  cases b <;> simp [behindInMarks,e1,e2]
theorem mR {op : CmpOp} {r : R2} (ho : OpR X (compareOp op) r) (ha : PE X a ta) (hb : PE X b tb) (hm : behindInMarks op b = false) : PE X (.Compare a [op] [b] pos) (tOp r ta tb):=by
  intro pins s σ H Q I h
  exact wpAny_Compare1 (Rk ha hb I h fun v u s2 x y H2 I2 rx ry q=>ho pins s2 σ H2 x y v u Q I2 rx ry q) hm
def V3 (t : TE) : TT:=fun σ H Q=>t σ H fun x H'=>∃ k,x = .bl k ∧ Q k H'
theorem aI {op : CmpOp} {r : R2} (ho : OpR X (compareOp op) r) (ha : PE X a ta) (hb : PE X b tb) (hm : behindInMarks op b = false) : PT X (.Compare a [op] [b] pos) (V3 (tOp r ta tb)):=by
  intro pins s σ H Q I h
  refine wpAny_isTrue_Compare1 (thn (ha pins s σ H _ I h) fun v s1 ⟨x,H1,I1,r1,q1⟩=>thn (hb pins s1 σ H1 _ I1 q1) fun u s2 ⟨y,H2,I2,r2,q2⟩ =>
    thn (ho pins s2 σ H2 x y v u _ I2 r1 r2 q2) fun c s3 ⟨z,H3,I3,r3,k,e,q3⟩=>?_) hm
  subst e
  cases r3
  exact wpAny_truthy_bool ⟨H3,I3,q3⟩
def Rp (r r' : R2) (ta tb tc : TE) : TE:=fun σ H Q=>ta σ H fun x H1=>tb σ H1 fun y H2=>r x y H2 fun z H3=>∃ k,z = .bl k ∧
  (if k = true then tc σ H3 fun w' H4=>r' y w' H4 Q else Q (.bl false) H3)
theorem Lv {op op' : CmpOp} {r r' : R2} (ho : OpR X (compareOp op) r) (ho' : OpR X (compareOp op') r') (ha : PE X a ta) (hb : PE X b tb) (hc : PE X c tc)
    (hm : lastMarks [op,op'] [b,c] = false:=by with_unfolding_all rfl) : PE X (.Compare a [op,op'] [b,c] pos) (Rp r r' ta tb tc):=by
  intro pins s σ H Q I h
  refine Compare_chain (thn (ha pins s σ H _ I h) fun v s1 ⟨x,H1,I1,r1,q1⟩=>chain_link (thn (hb pins s1 σ H1 _ I1 q1) fun u s2 ⟨y,H2,I2,r2,q2⟩ =>
    thn (ho pins s2 σ H2 x y v u _ I2 r1 r2 q2) fun d s3 ⟨z,H3,I3,r3,k,e,q3⟩=>?_)) hm
  subst e
  cases r3
  refine wpAny_truthy_bool ?_
  cases k with
  | false=>exact ite_ff ⟨.bl false,H3,I3,rfl,q3⟩
  | true=>exact ite_tt (chain_last (thn (hc pins s3 σ H3 _ I3 q3) fun w' s4 ⟨z',H4,I4,r4,q4⟩=>ho' pins s4 σ H4 y z' u w' Q I4 r2 r4 q4))
def V4 (K : PySem.W.Frag) (x : V) (H : Hp) (k : Bool) : Prop :=
  match x with
  | .non=>k = false
  | .bl b=>k = b
  | .int i=>k = (i != 0)
  | .str y=>y.length ≤ sizeLine ∧ k = ((y.length : Int) != 0)
  | .byt y=>y.size ≤ sizeLine ∧ k = ((y.size : Int) != 0)
  | .ref p=>(∃ xs,SqL K H p xs ∧ k = !xs.isEmpty) ∨ (∃ xs,SqT K H p xs ∧ k = !xs.isEmpty) ∨ ∃ kvs,H p = some (.dK kvs) ∧ k = !kvs.isEmpty
  | _=>False
theorem Gg {κ : Type} {kvs : List (κ × V)} {vs : List (κ × Value)} (r : KV kvs vs) : (!vs.isEmpty) = !kvs.isEmpty:=by
  cases r <;> rfl
theorem yz {xs : List V} {its : List Value} (r : Vals xs its) : (!its.toArray.isEmpty) = !xs.isEmpty:=by
  cases r <;> simp
theorem u4 : (sizeLine : Nat) < 2 ^ 63:=by rw [sizeLine_eq]; decide
theorem Rq : abN X (fun x H Q=>∃ k,V4 X.K x H k ∧ Q k H):=by
  intro pins s σ H x v Q I rx h
  obtain ⟨k,e,q⟩:=h
  have hl:=u4
  have hs : sizeLine = 16777216:=sizeLine_eq
  cases x with
  | non =>
    cases rx
    have e' : k = false:=e
    subst e'
    exact truthy_none ⟨H,I,q⟩
  | bl b =>
    cases rx
    have e' : k = b:=e
    subst e'
    exact wpAny_truthy_bool ⟨H,I,q⟩
  | int i =>
    obtain ⟨t,rfl⟩:=rx
    have e' : k = (i != 0):=e
    subst e'
    exact PySem.P.truthy_int ⟨H,I,q⟩
  | str y =>
    obtain ⟨t,rfl⟩:=rx
    obtain ⟨hy,e'⟩ : y.length ≤ sizeLine ∧ k = ((y.length : Int) != 0):=e
    subst e'
    exact PySem.P.truthy_str (by omega) ⟨H,I.tok _,q⟩
  | byt y =>
    obtain ⟨t,rfl⟩:=rx
    obtain ⟨hy,e'⟩ : y.size ≤ sizeLine ∧ k = ((y.size : Int) != 0):=e
    subst e'
    exact PySem.W.truthy_bytes (by omega) ⟨H,I.tok _,q⟩
  | ref p =>
    cases rx
    have e' : (∃ xs,SqL X.K H p xs ∧ k = !xs.isEmpty) ∨ (∃ xs,SqT X.K H p xs ∧ k = !xs.isEmpty) ∨ ∃ kvs,H p = some (.dK kvs) ∧ k = !kvs.isEmpty:=e
    rcases e' with ⟨xs,hx,e'⟩ | ⟨xs,hx,e'⟩ | ⟨kvs,hx,e'⟩
    · subst e'
      obtain ⟨its,r,pl,hz⟩:=I.list hx
      have hlen:=r.length
      exact wpAny_truthy_list pl.isList (by simp only [List.size_toArray]; omega) ⟨H,I.tok _,by rw [yz r]; exact q⟩
    · subst e'
      obtain ⟨its,r,pl,hz⟩:=I.tuple hx
      have hlen:=r.length
      exact truthy_tuple pl (by simp only [List.size_toArray]; omega) ⟨H,I.tok _,by rw [yz r]; exact q⟩
    · subst e'
      obtain ⟨hz,hS,vs,r,m⟩ : kvs.length ≤ sizeLine ∧ (p == sysModules) = false ∧ ∃ vs,KV kvs vs ∧ s.heap.DictOf (dS X.prog X.w) p vs:=I.hok p _ hx
      have hlen : kvs.length = vs.length:=Paired.length r
      exact wpAny_truthy_dict hS m (by omega) ⟨H,I.tok _,by rw [Gg r]; exact q⟩
  | _=>exact (show False from e).elim
theorem qv (ha : PE X a ta) (he : ∀ whole,isTrue a X.env whole = (do let v ← whole; standAt a.pos; holding [v] (truthy v))) :
    PT X a (fun σ H Q=>ta σ H fun x H'=>∃ k,V4 X.K x H' k ∧ Q k H'):=by
  intro pins s σ H Q I h
  exact isTrue_plain (thn (ha pins s σ H _ I h) fun v s1 ⟨x,H1,I1,r1,q1⟩=>Rq pins s1 σ H1 x v Q I1 r1 q1) (he _)
theorem vals1 {x : V} {us : List Value} (r : Vals [x] us) : ∃ u,us = [u] ∧ RelV x u:=by
  cases r with
  | cons r1 r2=>cases r2; exact ⟨_,rfl,r1⟩
theorem vals2 {x y : V} {us : List Value} (r : Vals [x,y] us) : ∃ u w',us = [u,w'] ∧ RelV x u ∧ RelV y w':=by
  cases r with
  | cons r1 r2 =>
    cases r2 with
    | cons r3 r4=>cases r4; exact ⟨_,_,rfl,r1,r3⟩
theorem JT (hc : X.calm = true) : hV X (.builtin "max") (fun xs H Q=>∃ i j,xs = [.int i,.int j] ∧ Q (.int (if j > i then j else i)) H):=by
  intro pins s σ H xs us Q I r h
  obtain ⟨i,j,rfl,q⟩:=h
  obtain ⟨u,w',rfl,⟨t,rfl⟩,⟨t',rfl⟩⟩:=vals2 r
  refine max_two_ints (I.ok.hd hc) fun h' tk k=>⟨_,H,I.kept k,?_,q⟩
  by_cases hj : j > i
  · rw [if_pos hj,if_pos hj]; exact ⟨_,rfl⟩
  · rw [if_neg hj,if_neg hj]; exact ⟨_,rfl⟩
theorem tX : hV X (.type "str") (fun xs H Q=>∃ i,xs = [.int i] ∧ i.natAbs.log2 < 1920 ∧ Q (.str (toString i)) H):=by
  intro pins s σ H xs us Q I r h
  obtain ⟨i,rfl,hz,q⟩:=h
  obtain ⟨u,rfl,t,rfl⟩:=vals1 r
  exact PySem.P.str_of_int hz ⟨.str _,H,I.tok _,⟨_,rfl⟩,q⟩
end
end L2
namespace L2
open PySem PySem.Spec PyProof.Rows
structure Gh (h : Heap) (x dx C : Addr) (mA : Str → Option Value) : Prop where
  obj : h.get? x = some (PySem.W.instObj C dx)
  ns : h.Ns1 dx mA
  ne : dx ≠ x
theorem AH {h : Heap} {dx : Addr} {mA : Str → Option Value} (n : h.Ns1 dx mA) : ∃ od,h.get? dx = some od ∧ ∀ name,PySem.W.lookIn name od = some (mA name):=by
  obtain ⟨o,es,ep,ho,hd,hk,_,hm⟩:=n
  refine ⟨o,ho,fun name=>?_⟩
  have e:=hm name
  unfold nsFind findBy at e
  rw [← Array.find?_toList] at e
  unfold PySem.W.lookIn
  rw [hd]
  dsimp only
  split
  · rename_i y q
    rw [q] at e
    exact congrArg some e
  · rename_i q
    rw [q] at e
    have a : es.toList.any (·.refKey) = false:=by
      rw [List.any_eq_false]
      intro y hy
      obtain ⟨z,t,abQ⟩:=hk y (Array.mem_toList_iff.mp hy)
      simp [DictEntry.refKey,abQ]
    have a' : ¬ es.toList.any (·.refKey) = true:=by rw [a]; exact Bool.false_ne_true
    rw [if_neg a']
    exact congrArg some e
theorem Gh.look {h : Heap} {x dx C : Addr} {mA : Str → Option Value} (I : Gh h x dx C mA) : ∃ od,PySem.W.InstAt h x (PySem.W.instObj C dx) C (some od) ∧ ∀ name,PySem.W.lookIn name od = some (mA name) :=
  let ⟨od,ho,hl⟩:=AH I.ns
  ⟨od,⟨I.obj,rfl,rfl,ho⟩,hl⟩
section
variable {prog : Program} {w : World} {A : Around} {E : Value → Shared → Prop} {s : Shared} {K : PySem.W.Frag} {x dx C f : Addr} {mA : Str → Option Value} {name : Str} {v : Value}
theorem get_map {expr : Bool} {Q : Value → Shared → Prop} (X : K.In s.heap) (I : Gh s.heap x dx C mA) (hg : PySem.W.plainGet K C name = true) (hh : PySem.W.hasDictIn K C = true)
    (ha : PySem.W.findIn K (.ref C) name = some none) (hv : mA name = some v) (hv' : PySem.W.handedIn v = true) (h : Q v { s with toks:=s.toks + 1 }) :
    wpAny (model prog w) A (getAttr (.ref x) name expr) Q E s:=by
  obtain ⟨od,J,hl⟩:=I.look
  exact PySem.W.get_value X J (PySem.W.plainGet_of hg).1 (PySem.W.findObj_own hh ha rfl (by rw [hl,hv])) hv' h
theorem Lw {pl : Sem Bool} {Q : Value × List Value → Shared → Prop} (X : K.In s.heap) (I : Gh s.heap x dx C mA) (hg : PySem.W.plainGet K C name = true)
    (hf : PySem.W.findIn K (.ref C) name = some (some (.ref f))) (ht : PySem.W.isFn K (.ref f) = true) (hv : mA name = none) (h : Q (.ref f,[.ref x]) s) :
    wpAny (model prog w) A (getMethod (.ref x) name pl) Q E s:=by
  obtain ⟨od,J,hl⟩:=I.look
  exact PySem.W.method_fn X J (PySem.W.plainGet_of hg).1 (PySem.W.plainGet_of hg).2 hf (beq_iff_eq.mp ht) (by show (PySem.W.lookIn name od).map (·.isSome) = some false; rw [hl,hv]; rfl) h
theorem Og {ns : List Str} {Q : Unit → Shared → Prop} (X : K.In s.heap) (I : Gh s.heap x dx C mA)
    (hs : PySem.W.findIn K (.ref C) "__setattr__" = some (some (.builtin "object.__setattr__"))) (hp : PySem.W.plainOver K C = true) (ht : PySem.W.takerIn K C name = some none) (hh : PySem.W.hasDictIn K C = true)
    (hw : PySem.Within mA ns) (hsz : ns.length ≤ sizeLine)
    (h : ∀ h',Gh h' x dx C (fun y=>if y = name then some v else mA y) → Heap.SameBut dx s.heap h' → Q () { s with heap:=h',toks:=s.toks + 2 }) :
    wpAny (model prog w) A (setAttr (.ref x) name v) Q E s:=by
  obtain ⟨od,J,hl⟩:=I.look
  refine PySem.W.set_plain X J hs (PySem.W.osa_open (s:={ s with toks:=s.toks + 1 }) (r:=none) X J hp ht fun b=>?_)
  obtain ⟨cd,hc,hd'⟩:=PySem.W.any_some hh
  have hx : s.heap.get? x = some ⟨.ref C,some dx,.plain,#[]⟩:=I.obj
  refine wpAny_bind (wpAny_pure (wpAny_bind (wpAny_bind (wpAny_loadPart hx (wpAny_bind (PySem.W.Looks.here (s:={ s with toks:=s.toks + 1 }) (PySem.W.looks_clsIn X hc) ?_))))))
  rw [hd']
  refine wpAny_pure (a:=some dx) (wpAny_bind (wpAny_pure (wpAny_bind ?_)))
  refine wpAny_nsSet1 (s:={ s with toks:=s.toks + 1 }) I.ns fun h' hn2 hs2=>?_
  obtain ⟨oD,esD,epD,hoD,hdD,hcD⟩:=hn2.count (PySem.Within.cons name v hw)
  refine wpAny_bind (wpAny_lookBehind hoD (by rw [hdD]; exact pastItsLine_dict (Nat.le_trans hcD (by rw [List.length_cons]; omega))) ?_)
  exact wpAny_pure (h _ ⟨(hs2.2 _ (Ne.symm I.ne)).trans I.obj,hn2,I.ne⟩ hs2)
theorem Lx {R : Result → Shared → Prop} {vs : List Value} {kw : List (Str × Value)} (X : K.In s.heap) (hm : PySem.W.makesIn K C = true)
    (hi : PySem.W.findIn K (.ref C) "__init__" = some (some (.ref f))) (hf : PySem.W.typeIn K (.ref f) = some (.type "function"))
    (h : codeAny (model prog w) (A.under (.builtin "type.__call__" ⟨.ref C :: vs,kw⟩)) (.call (.ref f) ⟨.ref (s.heap.objs.size + 1) :: vs,kw⟩) (PySem.W.InitBack (s.heap.objs.size + 1) R)
      { s with heap:=(s.heap.push PySem.W.emptyDict).push (PySem.W.instObj C s.heap.objs.size) }) :
    codeAny (model prog w) A (.call (.ref C) ⟨vs,kw⟩) R s:=by
  obtain ⟨hh,g,d,t,os⟩:=s
  exact PySem.W.make_core (PySem.W.makes_of X hm) (PySem.W.looks_findIn X hi) (fun self=>PySem.W.bind_fn X self hf) (.inl rfl) h
end
def gw (f : Str) (v : V) : List (Str × V) → List (Str × V)
  | []=>[(f,v)]
  | (g,x) :: r=>if g = f then (g,v) :: r else (g,x) :: gw f v r
theorem wb (f g : Str) (v : V) : ∀ fs : List (Str × V),(gw f v fs).lookup g = if g = f then some v else fs.lookup g
  | []=>by
    show List.lookup g [(f,v)] = _
    by_cases h : g = f
    · have hb : (g == f) = true:=beq_iff_eq.mpr h
      simp only [List.lookup,hb,if_pos h]
    · have hb : (g == f) = false:=beq_eq_false_iff_ne.mpr h
      simp only [List.lookup,hb,if_neg h]
  | (k,x) :: r=>by
    have ih:=wb f g v r
    rw [show gw f v ((k,x) :: r) = (if k = f then (k,v) :: r else (k,x) :: gw f v r) from rfl]
    by_cases hk : k = f
    · rw [if_pos hk]
      by_cases h : g = k
      · have hb : (g == k) = true:=beq_iff_eq.mpr h
        simp only [List.lookup,hb,if_pos (h.trans hk)]
      · have hb : (g == k) = false:=beq_eq_false_iff_ne.mpr h
        simp only [List.lookup,hb,if_neg (fun e : g = f=>h (e.trans hk.symm))]
    · rw [if_neg hk]
      by_cases h : g = k
      · have hb : (g == k) = true:=beq_iff_eq.mpr h
        simp only [List.lookup,hb,if_neg (fun e : g = f=>hk (h.symm.trans e))]
      · have hb : (g == k) = false:=beq_eq_false_iff_ne.mpr h
        simp only [List.lookup,hb]
        exact ih
theorem u5 (f : Str) (v : V) : ∀ fs : List (Str × V),f ∈ (gw f v fs).map (·.1) ∧ ∀ g,g ∈ fs.map (·.1) → g ∈ (gw f v fs).map (·.1)
  | []=>⟨by simp [gw],fun g h=>by simp at h⟩
  | (k,x) :: r=>by
    obtain ⟨i1,i2⟩:=u5 f v r
    rw [show gw f v ((k,x) :: r) = (if k = f then (k,v) :: r else (k,x) :: gw f v r) from rfl]
    by_cases hk : k = f
    · rw [if_pos hk]
      subst hk
      exact ⟨by simp,fun g h=>by simpa using h⟩
    · rw [if_neg hk]
      refine ⟨?_,fun g h=>?_⟩
      · rw [List.map_cons]
        exact List.mem_cons_of_mem _ i1
      · rw [List.map_cons] at h ⊢
        rcases List.mem_cons.mp h with e | e
        · exact List.mem_cons.mpr (.inl e)
        · exact List.mem_cons_of_mem _ (i2 g e)
theorem wc (f : Str) (v : V) : ∀ fs : List (Str × V),(gw f v fs).length ≤ fs.length + 1
  | []=>by simp [gw]
  | (k,x) :: r=>by
    have ih:=wc f v r
    rw [show gw f v ((k,x) :: r) = (if k = f then (k,v) :: r else (k,x) :: gw f v r) from rfl]
    by_cases hk : k = f
    · rw [if_pos hk,List.length_cons,List.length_cons]; omega
    · rw [if_neg hk,List.length_cons,List.length_cons]; omega
theorem nW.some_of {v : V} {o : Option Value} (r : nW (some v) o) : ∃ u,o = some u ∧ RelV v u:=by
  cases o with
  | none=>exact (show False from r).elim
  | some u=>exact ⟨u,rfl,r⟩
theorem nW.none_of {o : Option Value} (r : nW none o) : o = none:=by
  cases o with
  | none=>rfl
  | some u=>exact (show False from r).elim
theorem JU {v : V} {u : Value} (r : RelV v u) : PySem.W.handedIn u = true:=by
  cases v with
  | non=>cases (show u = Value.none from r); rfl
  | bl b=>cases (show u = Value.bool b from r); rfl
  | int i=>obtain ⟨t,e⟩:=(show ∃ t,u = Value.int i t from r); cases e; rfl
  | str x=>obtain ⟨t,e⟩:=(show ∃ t,u = Value.str x t from r); cases e; rfl
  | byt b=>obtain ⟨t,e⟩:=(show ∃ t,u = Value.bytes b t from r); cases e; rfl
  | flt b=>obtain ⟨t,e⟩:=(show ∃ t,u = Value.float b t from r); cases e; rfl
  | ref a=>cases (show u = Value.ref a from r); rfl
  | ty n=>cases (show u = Value.type n from r); rfl
section
variable {P : Program} {w : World} {H H' : Hp} {h h' : Heap} {a C dx : Addr} {fs fs' : List (Str × V)}
theorem yf (hok : HOk P w H h) (e : H a = some (.ins C dx fs)) : ∃ mA,Gh h a dx C mA ∧ (∀ f,nW (fs.lookup f) (mA f)) ∧ PySem.Within mA (fs.map (·.1)) ∧ fs.length ≤ 1000 ∧ H dx = some (.own a):=by
  obtain ⟨d,z,ne,ob,mA,n,r,q⟩:=(show dF P w H h a (.ins C dx fs) from hok a _ e)
  exact ⟨mA,⟨ob,n,ne⟩,r,q,z,d⟩
end
structure Cls (K : PySem.W.Frag) (C : Addr) : Prop where
  pg : PySem.W.plainGet K C Str.empty = true
  hd : PySem.W.hasDictIn K C = true
  po : PySem.W.plainOver K C = true
  sa : PySem.W.findIn K (.ref C) "__setattr__" = some (some (.builtin "object.__setattr__"))
theorem Cls.get {K : PySem.W.Frag} {C : Addr} (c : Cls K C) (f : Str) : PySem.W.plainGet K C f = true:=c.pg
def eA (K : PySem.W.Frag) (C : Addr) (f : Str) : Prop:=PySem.W.findIn K (.ref C) f = some none
theorem eA.V5 {K : PySem.W.Frag} {C : Addr} {f : Str} (n : eA K C f) : PySem.W.takerIn K C f = some none:=by
  unfold PySem.W.takerIn
  rw [show PySem.W.findIn K (.ref C) f = some none from n]
  rfl
structure Con (K : PySem.W.Frag) (C : Addr) (f : Str) (v : V) (u : Value) : Prop where
  at_ : PySem.W.findIn K (.ref C) f = some (some u)
  rel : RelV v u
  get : PySem.W.specialIn K u "__get__" = some none
  cp : PySem.W.copiedNames.contains f = false
structure Meth (K : PySem.W.Frag) (C : Addr) (m : Str) (f : Addr) : Prop where
  at_ : PySem.W.findIn K (.ref C) m = some (some (.ref f))
  fn : PySem.W.isFn K (.ref f) = true
  kp : PySem.W.keepIn K (.ref f) = true
section
variable {X : Cx} {pins : List (Addr × Obj)} {σ : St} {H : Hp} {s : Shared} {a C dx : Addr} {fs : List (Str × V)} {f : Str} {v : V} {A : Around} {E : Value → Shared → Prop}
theorem Gi {b : Bool} {Q : Value → Shared → Prop} (I : Inv X pins σ H s) (e : H a = some (.ins C dx fs)) (c : Cls X.K C) (n : eA X.K C f) (l : fs.lookup f = some v)
    (h : ∀ u s',Inv X pins σ H s' → RelV v u → Q u s') : wpAny (model X.prog X.w) A (getAttr (.ref a) f b) Q E s:=by
  obtain ⟨mA,O,r,_,_,_⟩:=yf I.hok e
  obtain ⟨u,hu,ru⟩:=nW.some_of (v:=v) (o:=mA f) (by rw [← l]; exact r f)
  exact get_map I.kIn O (c.get f) c.hd n hu (JU ru) (h u _ (I.tok _) ru)
theorem jf {m : Str} {g : Addr} {pl : Sem Bool} {Q : Value × List Value → Shared → Prop} (I : Inv X pins σ H s) (e : H a = some (.ins C dx fs)) (c : Cls X.K C) (k : Meth X.K C m g) (l : fs.lookup m = none)
    (h : Q (.ref g,[.ref a]) s) : wpAny (model X.prog X.w) A (getMethod (.ref a) m pl) Q E s:=by
  obtain ⟨mA,O,r,_,_,_⟩:=yf I.hok e
  have hn : mA m = none:=nW.none_of (by rw [← l]; exact r m)
  exact Lw I.kIn O (c.get m) k.at_ k.fn hn h
theorem Gj {y : V} {u : Value} {Q : Unit → Shared → Prop} (I : Inv X pins σ H s) (e : H a = some (.ins C dx fs)) (c : Cls X.K C) (n : eA X.K C f) (hl : fs.length < 1000) (ry : RelV y u)
    (h : ∀ s',Inv X pins σ (upd H a (.ins C dx (gw f y fs))) s' → Q () s') : wpAny (model X.prog X.w) A (setAttr (.ref a) f u) Q E s:=by
  obtain ⟨mA,O,r,wi,_,ho⟩:=yf I.hok e
  have hz : (fs.map (·.1)).length ≤ sizeLine:=by rw [List.length_map,sizeLine_eq]; omega
  refine Og I.kIn O c.sa c.po n.V5 c.hd wi hz fun h' O' sb=>h _ ?_
  have hd : ∃ o,h'.get? dx = some o:=let ⟨o,_,_,e',_⟩:=O'.ns; ⟨o,e'⟩
  refine I.write (x:=a) (e:=dx) (by rw [e]; exact True.intro) (.inr ho) (fun b q hb z=>(sb.2 b hb).trans z) hd ?_
  refine ⟨by rw [aq O.ne]; exact ho,?_,O.ne,O'.obj,_,O'.ns,fun g=>?_,fun g hg=>?_⟩
  · have:=wc f y fs; omega
  · show nW ((gw f y fs).lookup g) (if g = f then some u else mA g)
    rw [wb]
    by_cases q : g = f
    · rw [if_pos q,if_pos q]; exact ry
    · rw [if_neg q,if_neg q]; exact r g
  · by_cases q : g = f
    · rw [q]; exact (u5 f y fs).1
    · refine (u5 f y fs).2 g (wi g fun z=>hg ?_)
      show (if g = f then some u else mA g) = none
      rw [if_neg q]; exact z
theorem Inv.made (I : Inv X pins σ H s) : Inv X pins σ (upd (upd H s.heap.objs.size (.own (s.heap.objs.size + 1))) (s.heap.objs.size + 1) (.ins C s.heap.objs.size []))
    { s with heap:=(s.heap.push PySem.W.emptyDict).push (PySem.W.instObj C s.heap.objs.size) }:=by
  have e1 : (s.heap.push PySem.W.emptyDict).get? s.heap.objs.size = some PySem.W.emptyDict:=Heap.get?_push_size s.heap rfl
  have e2 : ((s.heap.push PySem.W.emptyDict).push (PySem.W.instObj C s.heap.objs.size)).get? (s.heap.objs.size + 1) = some (PySem.W.instObj C s.heap.objs.size):=by
    have:=Heap.get?_push_size (s.heap.push PySem.W.emptyDict) (o:=PySem.W.instObj C s.heap.objs.size) rfl
    rwa [Heap.size_push] at this
  have e3 : (s.heap.push PySem.W.emptyDict).Ns s.heap.objs.size (fun _=>none):=⟨PySem.W.emptyDict,#[],_,e1,rfl,(fun e he=>absurd he (by simp)),fun _=>rfl⟩
  have I1:=I.laid (a:=s.heap.objs.size) (o:=.own (s.heap.objs.size + 1)) (h':=s.heap.push PySem.W.emptyDict) (t':=s.toks) (fun b u q=>Heap.get?_push_of_some _ q) (Nat.le_refl _) ⟨_,e1⟩
  refine I1.laid (a:=s.heap.objs.size + 1) (o:=.ins C s.heap.objs.size []) (t':=s.toks) (fun b u q=>Heap.get?_push_of_some _ q) (Nat.le_of_eq (Heap.size_push _ _)) ?_
  have ne : s.heap.objs.size ≠ s.heap.objs.size + 1:=Nat.ne_of_lt (Nat.lt_succ_self _)
  refine ⟨by rw [aq ne,ae],Nat.zero_le _,ne,e2,fun _=>none,(Heap.Ns1.of_empty e3).at fun o q=>Heap.get?_push_of_some _ q,fun _=>True.intro,fun y hy=>absurd rfl hy⟩
theorem IM {prog : Program} {w : World} {env : Env} {e : Expr} {f : Str} {pos : Pos} {s : Shared} {Q : Value → Shared → Prop} (hb : attributeBase e f env (eval e env) = eval e env)
    (h : wpAny (model prog w) A (eval e env) (fun o s₁=>wpAny (model prog w) A (getAttr o f true) Q E s₁) E s) : wpAny (model prog w) A (eval (.Attribute e f pos) env) Q E s :=
  Attribute_any_ h (by rw [arm_eval_Attribute,hb])
end
def V6 (K : PySem.W.Frag) (ta : TE) (f : Str) : TE:=fun σ H Q=>ta σ H fun x H1=>∃ a C dx fs v,x = .ref a ∧ H1 a = some (.ins C dx fs) ∧ Cls K C ∧ eA K C f ∧ fs.lookup f = some v ∧ Q v H1
def abR (K : PySem.W.Frag) (ta tv : TE) (f : Str) : TS:=fun D σ H=>tv σ H fun y H1=>ta σ H1 fun x H2=>∃ a C dx fs,x = .ref a ∧ H2 a = some (.ins C dx fs) ∧ Cls K C ∧ eA K C f ∧ fs.length < 1000 ∧
  D.nx σ (upd H2 a (.ins C dx (gw f y fs)))
section
variable {X : Cx} {o e value : Expr} {f : Str} {pos pos' abS : Pos} {ta tv : TE}
theorem bg (he : PE X e ta) (hb : attributeBase e f X.env (eval e X.env) = eval e X.env) : PE X (.Attribute e f pos) (V6 X.K ta f):=by
  intro pins s σ H Q I h
  refine IM hb (thn (he pins s σ H _ I h) fun u s1 ⟨x,H1,I1,rx,a,C,dx,fs,v,ex,ea,c,n,l,q⟩=>?_)
  subst ex
  obtain rfl : u = Value.ref a:=rx
  exact Gi I1 ea c n l fun u' s2 I2 ru=>⟨v,H1,I2,ru,q⟩
theorem eL (ha : PE X o ta) (hv : PE X value tv) (hs : swapsWith value (some (.Attribute o f pos')) pos.line X.env = pure false) : PS X (.Assign [.Attribute o f pos'] value pos) (abR X.K ta tv f):=by
  intro pins s σ H D I h
  refine plainObj_wpAny_Assign_Attribute (thn (hv pins s σ H _ I h) fun u s1 ⟨y,H1,I1,ry,q⟩=>thn (ha pins s1 σ H1 _ I1 q) fun ov s2 ⟨x,H2,I2,rx,a,C,dx,fs,ex,ea,c,n,l,q2⟩=>?_) hs
  subst ex
  obtain rfl : ov = Value.ref a:=rx
  exact Gj I2 ea c n l ry fun s3 I3=>⟨σ,_,I3,q2⟩
theorem PU {pl : Sem Bool} {m : Str} {apos : Pos} {args : List Expr} {pins : List (Addr × Obj)} {s : Shared} {σ : St} {H : Hp} {Q : Value → Shared → Prop} {te : TE} (he : PE X e te) (I : Inv X pins σ H s)
    (h : te σ H fun x H1=>∃ a C dx fs g,x = .ref a ∧ H1 a = some (.ins C dx fs) ∧ Cls X.K C ∧ Meth X.K C m g ∧ fs.lookup m = none ∧
      ∀ s1,Inv X pins σ H1 s1 → wpAny (model X.prog X.w) X.A (callWith pos (.ref g) [.ref a] (backTo pos (starEach args X.env)) (backToKw pos (keywordEach [] X.env))) Q X.xe s1)
    (ht : eval (.Call (.Attribute e m apos) args [] pos) X.env = (do
      let ov ← eval e X.env
      standAt apos.atName
      let (f,first) ← holding [ov] (getMethod ov m pl)
      callWith pos f first (backTo pos (starEach args X.env)) (backToKw pos (keywordEach [] X.env)))) :
    wpAny (model X.prog X.w) X.A (eval (.Call (.Attribute e m apos) args [] pos) X.env) Q X.xe s:=by
  refine PySem.W.methodCall_KW (pl:=pl) (thn (he pins s σ H _ I h) fun u s1 ⟨x,H1,I1,rx,a,C,dx,fs,g,ex,ea,c,k,l,q⟩=>?_) ht
  subst ex
  obtain rfl : u = Value.ref a:=rx
  exact jf I1 ea c k l (q s1 I1)
end
section
variable {X : Cx} {pins : List (Addr × Obj)} {σ : St} {H : Hp} {s : Shared} {A : Around} {E : Value → Shared → Prop} {Q : Value → Shared → Prop} {c : Value} {b : Bool}
inductive sS (K : PySem.W.Frag) (H : Hp) : V → Value → Prop where
  | non : sS K H .non (.type "NoneType")
  | bl (x : Bool) : sS K H (.bl x) (.type "bool")
  | int (i : Int) : sS K H (.int i) (.type "int")
  | str (x : Str) : sS K H (.str x) (.type "str")
  | flt (x : UInt64) : sS K H (.flt x) (.type "float")
  | lst {a : Addr} {xs : List V} (e : H a = some (.lst xs)) : sS K H (.ref a) (.type "list")
  | frz {a : Addr} {o : Obj} {xs : List V} (e : H a = some (.frz o (.lst xs))) : sS K H (.ref a) (.type "list")
  | tup {a : Addr} {xs : List V} (e : H a = some (.tup xs)) : sS K H (.ref a) (.type "tuple")
  | dK {a : Addr} {kvs : List (Key × V)} (e : H a = some (.dK kvs)) : sS K H (.ref a) (.type "dict")
  | dT {a : Addr} {kvs : List (List Key × V)} (e : H a = some (.dT kvs)) : sS K H (.ref a) (.type "dict")
  | ins {a C dx : Addr} {fs : List (Str × V)} (e : H a = some (.ins C dx fs)) (cl : Cls K C) (ha : PySem.W.findIn K (.ref C) "__class__" = some (some (.builtin "object.__class__")))
      (hn : PySem.W.specialIn K (.builtin "object.__class__") "__get__" = some (some (.builtin "getset_descriptor.__get__"))) (htk : PySem.W.takesIn K (.builtin "object.__class__") = some true)
      (hm : PySem.W.mroIn K C (.type "object") = some true) : sS K H (.ref a) (.ref C)
theorem AI {x : V} {u t : Value} (I : Inv X pins σ H s) (rx : RelV x u) (ty : sS X.K H x t) (e : PySem.W.kitOne X.K t c = some b) (h : ∀ tk,Q (.bool b) { s with toks:=tk }) :
    wpAny (model X.prog X.w) A (call (.builtin "isinstance") [u,c]) Q E s:=by
  cases ty with
  | non=>cases (show u = Value.none from rx); exact PySem.W.kia_one PySem.W.kitx_none I.kIn True.intro e (fun z=>nomatch z) h
  | bl y=>cases (show u = Value.bool y from rx); exact PySem.W.kia_one PySem.W.kitx_bool I.kIn True.intro e (fun z=>nomatch z) h
  | int i=>obtain ⟨t,q⟩:=(show ∃ t,u = Value.int i t from rx); cases q; exact PySem.W.kia_one PySem.W.kitx_int I.kIn True.intro e (fun z=>nomatch z) h
  | str y=>obtain ⟨t,q⟩:=(show ∃ t,u = Value.str y t from rx); cases q; exact PySem.W.kia_one PySem.W.kitx_str I.kIn True.intro e (fun z=>nomatch z) h
  | flt y=>obtain ⟨t,q⟩:=(show ∃ t,u = Value.float y t from rx); cases q; exact PySem.W.kia_one PySem.W.kitx_float I.kIn True.intro e (fun z=>nomatch z) h
  | @lst a xs ea =>
    cases (show u = Value.ref a from rx)
    obtain ⟨_,_,n,_,h1⟩:=(show dF X.prog X.w H s.heap a (.lst xs) from I.hok a _ ea)
    exact PySem.W.kia_one PySem.W.kitx_list I.kIn ⟨_,h1,rfl⟩ e (fun z=>nomatch z) h
  | @frz a ob xs ea =>
    cases (show u = Value.ref a from rx)
    obtain ⟨_,_,_,n,_,h1⟩:=(show dF X.prog X.w H s.heap a (.frz ob (.lst xs)) from I.hok a _ ea)
    exact PySem.W.kia_one PySem.W.kitx_list I.kIn ⟨_,h1,rfl⟩ e (fun z=>nomatch z) h
  | @tup a xs ea =>
    cases (show u = Value.ref a from rx)
    obtain ⟨_,_,_,p⟩:=(show dF X.prog X.w H s.heap a (.tup xs) from I.hok a _ ea)
    obtain ⟨o,h1,h2,_⟩:=p
    exact PySem.W.kia_one PySem.W.kitx_tuple I.kIn ⟨o,h1,h2⟩ e (fun z=>nomatch z) h
  | @dK a kvs ea =>
    cases (show u = Value.ref a from rx)
    obtain ⟨_,_,vs,_,p⟩:=(show dF X.prog X.w H s.heap a (.dK kvs) from I.hok a _ ea)
    obtain ⟨o,es,ep,h1,h2,_⟩:=p
    exact PySem.W.kia_one PySem.W.kitx_dict I.kIn ⟨o,h1,h2.1⟩ e (fun z=>nomatch z) h
  | @dT a kvs ea =>
    cases (show u = Value.ref a from rx)
    obtain ⟨_,_,xs,_,o,es,ep,h1,h2,_⟩:=(show dF X.prog X.w H s.heap a (.dT kvs) from I.hok a _ ea)
    exact PySem.W.kia_one PySem.W.kitx_dict I.kIn ⟨o,h1,h2.1⟩ e (fun z=>nomatch z) h
  | @ins a C dx fs ea cl ha hn htk hm =>
    cases (show u = Value.ref a from rx)
    obtain ⟨mA,O,_⟩:=yf I.hok ea
    obtain ⟨od,J,_⟩:=O.look
    exact PySem.W.kia_one (PySem.W.kitx_own (cl.get _) cl.hd ha hn htk hm) I.kIn J e (fun z=>nomatch z) h
end
end L2
namespace L2
open PySem PySem.Spec PyProof.Rows
structure Room (k : Nat) (A : Around) : Prop where
  hd : A.handled = none
  dp : A.depth + 3 * k + 5 < recursionLimit
  un : A.units + 16 * k + 200 < cLine
  gd : A.guards = some []
theorem Room.mono {j k : Nat} {A : Around} (r : Room k A) (h : j ≤ k) : Room j A:=⟨r.hd,by have:=r.dp; omega,by have:=r.un; omega,r.gd⟩
theorem Room.deeper {k : Nat} {A : Around} (r : Room (k + 1) A) (env : Env) : Room k (A.deeper env) :=
  ⟨r.hd,by have:=r.dp; show A.depth + 1 + 3 * k + 5 < _; omega,by have:=r.un; show A.units + 3 + 16 * k + 200 < _; omega,r.gd⟩
theorem Room.in1 {k : Nat} {A : Around} (r : Room (k + 1) A) : Room k A.in1 :=
  ⟨r.hd,by have:=r.dp; show A.depth + 3 * k + 5 < _; omega,by have:=r.un; show A.units + 1 + 16 * k + 200 < _; omega,r.gd⟩
theorem Gk {A : Around} {C : Addr} {us : List Value} {kw : List (Str × Value)} : (A.under (.builtin "type.__call__" ⟨.ref C :: us,kw⟩)).depth = A.depth + 1:=by
  first | rfl | simp [Around.under,Code.weight,Code.isCreation,Code.isGuard,Code.isCaller,Code.frames,Code.isFrame,guardIds]
theorem Gm {A : Around} {C : Addr} {us : List Value} {kw : List (Str × Value)} : (A.under (.builtin "type.__call__" ⟨.ref C :: us,kw⟩)).units = A.units + 1:=by
  first | rfl | simp [Around.under,Code.cUnits,Code.frames,Code.isFrame]
theorem Room.make {k : Nat} {A : Around} (r : Room (k + 1) A) (C : Addr) (us : List Value) (kw : List (Str × Value)) : Room k (A.under (.builtin "type.__call__" ⟨.ref C :: us,kw⟩)) :=
  ⟨r.hd,by have:=r.dp; rw [Gk]; omega,by have:=r.un; rw [Gm]; omega,by
    have g:=r.gd
    first | exact g | simp [Around.under,Code.guards,Code.isGuard,guardIds,pushGuards,g]⟩
theorem Room.depth {k : Nat} {A : Around} (r : Room k A) : A.depth < recursionLimit:=by have:=r.dp; omega
theorem Room.units {k : Nat} {A : Around} (r : Room k A) : A.units + 64 < cLine:=by have:=r.un; omega
def V7 : TA:=fun _ H Q=>Q [] H
def V8 (ta : TE) (tr : TA) : TA:=fun σ H Q=>ta σ H fun x H1=>tr σ H1 fun xs H2=>Q (x :: xs) H2
section
variable {X : Cx} {e : Expr} {es : List Expr} {te : TE} {t : TA} {pos : Pos}
theorem ah : PA X [] V7:=fun _ _ _ _ H Q I h=>Calls.spliced_nil ⟨[],H,I,.nil,h⟩
theorem aa (ha : PE X e te) (hr : PA X es t) (hs : starEach (e :: es) X.env = (false,eval e X.env) :: starEach es X.env:=by rfl) : PA X (e :: es) (V8 te t):=by
  intro pos pins s σ H Q I h
  rw [hs]
  show wpAny _ _ (spliced ((false,eval e X.env) :: backTo pos (starEach es X.env))) _ _ s
  refine Calls.spliced_cons (thn (ha pins s σ H _ I h) fun u s1 ⟨x,H1,I1,r1,q1⟩=>?_)
  exact thn (hr pos pins s1 σ H1 _ I1 q1) fun us s2 ⟨xs,H2,I2,r2,q2⟩=>⟨x :: xs,H2,I2,.cons r1 r2,q2⟩
def abT (t : TA) : TE:=fun σ H Q=>t σ H fun xs H1=>xs.length ≤ sizeLine ∧ ∀ p,H1 p = none → Q (.ref p) (upd H1 p (.tup xs))
def abU (t : TA) : TE:=fun σ H Q=>t σ H fun xs H1=>xs.length ≤ sizeLine ∧ ∀ p,H1 p = none → Q (.ref p) (upd H1 p (.lst xs))
theorem cQ {x1} (h : PA X es t) : PE X (.Tuple es x1 pos) (abT t):=by
  intro pins s σ H Q I hq
  refine wpAny_Tuple_spliced (thn (h pos pins s σ H _ I hq) fun us s1 ⟨xs,H1,I1,r,z,q⟩=>⟨by rw [← r.length]; exact z,?_⟩)
  have hf : H1 s1.heap.objs.size = none:=I1.hok.fresh (Nat.le_refl _)
  refine ⟨.ref s1.heap.objs.size,upd H1 s1.heap.objs.size (.tup xs),I1.laid (t':=s1.toks) (fun b u e=>Heap.get?_push_of_some _ e) (Nat.le_refl _) ?_,rfl,q _ hf⟩
  exact ⟨z,us,r,⟨_,Heap.get?_push_size _ rfl,rfl,_,rfl⟩⟩
theorem eB (h : PA X es t) : PE X (.List es pos) (abU t):=by
  intro pins s σ H Q I hq
  refine wpAny_List_spliced (thn (h pos pins s σ H _ I hq) fun us s1 ⟨xs,H1,I1,r,z,q⟩=>⟨by rw [← r.length]; exact z,?_⟩)
  have hf : H1 s1.heap.objs.size = none:=I1.hok.fresh (Nat.le_refl _)
  refine ⟨.ref s1.heap.objs.size,upd H1 s1.heap.objs.size (.lst xs),I1.laid (t':=s1.toks) (fun b u e=>Heap.get?_push_of_some _ e) (Nat.le_refl _) ?_,rfl,q _ hf⟩
  exact ⟨z,us,0,r,Heap.get?_push_size _ rfl⟩
end
abbrev Sp:=List V → Hp → VK → XK → Prop
abbrev CXT:=List Env → Hp → Shared → XK → Value → Shared → Prop
structure Ac (P : Program) (w : World) (K : PySem.W.Frag) (mg : Str → Option Value) (base : Heap) (A : Around) (outer : List Env) (s : Shared) (H : Hp) : Prop where
  frames : A.frames = some outer
  mod : Mod K mg base
  bs : ∀ b o,base.get? b = some o → s.heap.get? b = some o ∧ H b = none
  bsz : base.objs.size ≤ s.heap.objs.size
  sQ : s.heap.FunFrames base outer
  frf : ∀ b ∈ frs outer,H b = none
  hok : HOk P w H s.heap
  bare : AllBare s.gens
def CE (outer : List Env) (P : Program) (w : World) (H : Hp) (s : Shared) (Q : VK) (u : Value) (s' : Shared) : Prop :=
  ∃ v H',s'.os = s.os ∧ AllBare s'.gens ∧ Un (frs outer) [] H H' s.heap s'.heap ∧ HOk P w H' s'.heap ∧ RelV v u ∧ Q v H'
def CR (CX : CXT) (outer : List Env) (P : Program) (w : World) (H : Hp) (s : Shared) (Q : VK) (E : XK) (r : Result) (s' : Shared) : Prop :=
  match r with
  | .ok (.ret u)=>CE outer P w H s Q u s'
  | .ok _=>False
  | .error e=>CX outer H s E e s'
structure aw (P : Program) (w : World) (K : PySem.W.Frag) (mg : Str → Option Value) (base : Heap) (CX : CXT) (k : Nat) (f : Addr) (fd : FuncData) (ps : List Str) (sp : Sp) : Prop where
  len : ∀ vs H Q E,sp vs H Q E → vs.length = ps.length
  run : ∀ (A : Around) (outer : List Env) (s : Shared) (H : Hp) (args : Args) (us : List Value) (vs : List V) (Q : VK) (E : XK),Room k A → Ac P w K mg base A outer s H → BindsTo s fd args (ps.zip us) → Vals vs us → sp vs H Q E →
    codeAny (model P w) A (.call (.ref f) args) (CR CX outer P w H s Q E) s
theorem aw.mono {P : Program} {w : World} {K : PySem.W.Frag} {mg : Str → Option Value} {base : Heap} {CX : CXT} {j k : Nat} {f : Addr} {fd : FuncData} {ps : List Str} {sp : Sp} (F : aw P w K mg base CX j f fd ps sp) (h : j ≤ k) :
    aw P w K mg base CX k f fd ps sp:=⟨F.len,fun A outer s H args us vs Q E hr=>F.run A outer s H args us vs Q E (hr.mono h)⟩
theorem aw.imp {P : Program} {w : World} {K : PySem.W.Frag} {mg : Str → Option Value} {base : Heap} {CX : CXT} {k : Nat} {f : Addr} {fd : FuncData} {ps : List Str} {sp sp' : Sp} (F : aw P w K mg base CX k f fd ps sp)
    (h : ∀ vs H Q E,sp' vs H Q E → sp vs H Q E) : aw P w K mg base CX k f fd ps sp' :=
  ⟨fun vs H Q E q=>F.len vs H Q E (h _ _ _ _ q),fun A outer s H args us vs Q E hr he hb hv hs=>F.run A outer s H args us vs Q E hr he hb hv (h _ _ _ _ hs)⟩
theorem Ac.make {P : Program} {w : World} {K : PySem.W.Frag} {mg : Str → Option Value} {base : Heap} {A : Around} {outer : List Env} {s : Shared} {H : Hp} (e : Ac P w K mg base A outer s H) (C : Addr) (us : List Value) (kw : List (Str × Value)) :
    Ac P w K mg base (A.under (.builtin "type.__call__" ⟨.ref C :: us,kw⟩)) outer s H:=⟨by first | exact e.frames | (simpa [Around.under,Code.envs,Code.isFrame,pushEnvs] using e.frames),e.mod,e.bs,e.bsz,e.sQ,e.frf,e.hok,e.bare⟩
theorem Ac.in1 {P : Program} {w : World} {K : PySem.W.Frag} {mg : Str → Option Value} {base : Heap} {A : Around} {outer : List Env} {s : Shared} {H : Hp} (e : Ac P w K mg base A outer s H) :
    Ac P w K mg base A.in1 outer s H:=⟨e.frames,e.mod,e.bs,e.bsz,e.sQ,e.frf,e.hok,e.bare⟩
section
variable {X : Cx} {pins : List (Addr × Obj)} {σ : St} {H : Hp} {s s' : Shared}
theorem Inv.Oh (I : Inv X pins σ H s) : Ac X.prog X.w X.K X.mg X.base X.A X.stack s H :=
  ⟨I.ok.frames,I.ok.mod,I.bs,Nat.le_trans I.ok.bsz I.sz,I.stack,I.Bw,I.hok,I.bare⟩
theorem Inv.after {Q : VK} {u : Value} (I : Inv X pins σ H s) (h : CE X.stack X.prog X.w H s Q u s') : EP X pins σ Q u s':=by
  obtain ⟨v,H',os,bare,un,hok,r,q⟩:=h
  obtain ⟨hh,g,d,t,os'⟩:=s'
  obtain rfl : os' = s.os:=os
  exact ⟨v,H',I.call (h':=hh) (g':=g) (d':=d) (t':=t) (ch:=[]) un hok bare (fun b z=>absurd z (by simp)),r,q⟩
end
def V9 (sp : Sp) (dvs : List V) (E : XK) (t : TA) : TE:=fun σ H Q=>t σ H fun vs H1=>sp (vs ++ dvs) H1 Q E
def PV (C : Addr) (m : Str) (sp : Sp) (dvs : List V) (E : XK) (ta : TE) (t : TA) : TE:=fun σ H Q=>ta σ H fun x H1=>∃ a dx fs,x = .ref a ∧ H1 a = some (.ins C dx fs) ∧ fs.lookup m = none ∧
  t σ H1 fun vs H2=>sp (x :: (vs ++ dvs)) H2 Q E
def Wa (C : Addr) (sp : Sp) (dvs : List V) (E : XK) (t : TA) : TE:=fun σ H Q=>t σ H fun vs H1=>∀ x dx,H1 x = none → H1 dx = none → dx ≠ x →
  sp (.ref x :: (vs ++ dvs)) (upd (upd H1 dx (.own x)) x (.ins C dx [])) (fun v H2=>v = .non ∧ Q (.ref x) H2) E
def Binds (K : PySem.W.Frag) (fd : FuncData) (ps : List Str) (ds : List Value) : Prop :=
  ∀ (s : Shared) (us : List Value),K.In s.heap → (us ++ ds).length = ps.length → BindsTo s fd ⟨us,[]⟩ (ps.zip (us ++ ds))
theorem Binds.all {K : PySem.W.Frag} {fd : FuncData} {ps : List Str} (h : ∀ us : List Value,us.length = ps.length → bindArgs fd ⟨us,[]⟩ = pure (ps.zip us)) : Binds K fd ps []:=fun s us _ hl=>by
  rw [List.append_nil] at hl ⊢
  exact .of_eq (h us hl)
def Passes (CX : CXT) (X : Cx) (E : XK) : Prop:=∀ (pins : List (Addr × Obj)) (σ : St) (H : Hp) (s : Shared) (e : Value) (s' : Shared),Inv X pins σ H s → CX X.stack H s E e s' → X.xe e s'
section
variable {X : Cx} {CX : CXT} {k : Nat} {f C : Addr} {fd : FuncData} {ps : List Str} {sp : Sp} {dvs : List V} {ds : List Value} {E : XK} {x m : Str} {p pos apos : Pos} {e o : Expr} {es : List Expr} {ta : TE} {t : TA}
theorem BD {pins : List (Addr × Obj)} {σ : St} {H : Hp} {s : Shared} {Q : VK} {us : List Value} {vs : List V} (F : aw X.prog X.w X.K X.mg X.base CX k f fd ps sp) (hr : Room k X.A) (hb : Binds X.K fd ps ds) (hd : Vals dvs ds) (hx : Passes CX X E)
    (I : Inv X pins σ H s) (r : Vals vs us) (h : sp (vs ++ dvs) H Q E) : wpAny (model X.prog X.w) X.A (call (.ref f) us) (EP X pins σ Q) X.xe s:=by
  have r2 : Vals (vs ++ dvs) (us ++ ds):=r.append hd
  have hl : (us ++ ds).length = ps.length:=by rw [← r2.length]; exact F.len _ _ _ _ h
  refine wpAny_call (codeAny_mono (F.run X.A X.stack s H ⟨us,[]⟩ (us ++ ds) (vs ++ dvs) Q E hr I.Oh (hb s us I.kIn hl) r2 h) fun r s' hq=>?_)
  cases r with
  | error e=>exact hx pins σ H s e s' I hq
  | ok fl =>
    cases fl with
    | ret u=>exact I.after hq
    | next=>exact False.elim hq
    | brk=>exact False.elim hq
    | cont=>exact False.elim hq
theorem bK (F : aw X.prog X.w X.K X.mg X.base CX k f fd ps sp) (hr : Room k X.A) (hg : Gl X x) (hm : X.mg x = some (.ref f)) (hk : PySem.W.keepIn X.K (.ref f) = true) (hb : Binds X.K fd ps ds) (hd : Vals dvs ds) (hx : Passes CX X E)
    (ha : PA X (e :: es) t) (hdb : (x == ("__debug__" : Str)) = false:=by decide) (he : starEach (e :: es) X.env = (false,eval e X.env) :: starEach es X.env:=by rfl) (hpl : (backTo pos (starEach es X.env)).any (·.1) = false:=by rfl) :
    PE X (.Call (.Name x p) (e :: es) [] pos) (V9 sp dvs E t):=by
  intro pins s σ H Q I h
  refine wpAny_Call_Name_kw (kT I hg hm ?_ hdb)
  refine PySem.W.callWith_K (h₀:=X.base) I.ok.mod.kin hk (thn (ha pos pins s σ H _ I h) fun us s1 ⟨vs,H1,I1,r,q⟩=>⟨I1.kIn,?_⟩) he hpl
  exact BD F hr hb hd hx I1 r q
theorem iu {pl : Sem Bool} (he : PE X o ta) (c : Cls X.K C) (hm : Meth X.K C m f) (F : aw X.prog X.w X.K X.mg X.base CX k f fd ps sp) (hr : Room k X.A) (hb : Binds X.K fd ps ds) (hd : Vals dvs ds) (hx : Passes CX X E) (ha : PA X (e :: es) t)
    (hst : starEach (e :: es) X.env = (false,eval e X.env) :: starEach es X.env:=by rfl) (hpl : (backTo pos (starEach es X.env)).any (·.1) = false:=by rfl)
    (ht : eval (.Call (.Attribute o m apos) (e :: es) [] pos) X.env = (do
      let ov ← eval o X.env
      standAt apos.atName
      let (f,first) ← holding [ov] (getMethod ov m pl)
      callWith pos f first (backTo pos (starEach (e :: es) X.env)) (backToKw pos (keywordEach [] X.env))):=by rfl) :
    PE X (.Call (.Attribute o m apos) (e :: es) [] pos) (PV C m sp dvs E ta t):=by
  intro pins s σ H Q I h
  refine PySem.W.methodCall_KW (pl:=pl) (thn (he pins s σ H _ I h) fun u s1 ⟨x,H1,I1,rx,a,dx,fs,ex,ea,l,q⟩=>?_) ht
  subst ex
  obtain rfl : u = Value.ref a:=rx
  refine jf I1 ea c hm l ?_
  refine PySem.W.callWith_K (first:=[.ref a]) (h₀:=X.base) I.ok.mod.kin hm.kp (thn (ha pos pins s1 σ H1 _ I1 q) fun us s2 ⟨vs,H2,I2,r,q2⟩=>⟨I2.kIn,?_⟩) hst hpl
  exact BD (us:=.ref a :: us) (vs:=.ref a :: vs) F hr hb hd hx I2 (.cons rfl r) q2
theorem gx {pl : Sem Bool} (he : PE X o ta) (c : Cls X.K C) (hm : Meth X.K C m f) (F : aw X.prog X.w X.K X.mg X.base CX k f fd ps sp) (hr : Room k X.A) (hb : Binds X.K fd ps ds) (hd : Vals dvs ds) (hx : Passes CX X E)
    (ht : eval (.Call (.Attribute o m apos) [] [] pos) X.env = (do
      let ov ← eval o X.env
      standAt apos.atName
      let (f,first) ← holding [ov] (getMethod ov m pl)
      callWith pos f first (backTo pos (starEach [] X.env)) (backToKw pos (keywordEach [] X.env))):=by rfl) :
    PE X (.Call (.Attribute o m apos) [] [] pos) (PV C m sp dvs E ta V7):=by
  intro pins s σ H Q I h
  refine PySem.W.methodCall_KW (pl:=pl) (thn (he pins s σ H _ I h) fun u s1 ⟨x,H1,I1,rx,a,dx,fs,ex,ea,l,q⟩=>?_) ht
  subst ex
  obtain rfl : u = Value.ref a:=rx
  refine jf I1 ea c hm l ?_
  exact PySem.W.callWith_K0 (first:=[.ref a]) I1.kIn hm.kp (BD (us:=[.ref a]) (vs:=[.ref a]) F hr hb hd hx I1 (.cons rfl .nil) q)
structure Mk (K : PySem.W.Frag) (C f : Addr) : Prop where
  makes : PySem.W.makesIn K C = true
  init : PySem.W.findIn K (.ref C) "__init__" = some (some (.ref f))
  fn : PySem.W.isFn K (.ref f) = true
  kp : PySem.W.keepIn K (.ref C) = true
theorem Ly {pins : List (Addr × Obj)} {σ : St} {H : Hp} {s : Shared} {Q : VK} {us : List Value} {vs : List V} (M : Mk X.K C f) (F : aw X.prog X.w X.K X.mg X.base CX k f fd ps sp) (hr : Room (k + 1) X.A) (hb : Binds X.K fd ps ds) (hd : Vals dvs ds)
    (hx : Passes CX X E) (I : Inv X pins σ H s) (r : Vals vs us)
    (h : ∀ x dx,H x = none → H dx = none → dx ≠ x → sp (.ref x :: (vs ++ dvs)) (upd (upd H dx (.own x)) x (.ins C dx [])) (fun v H2=>v = .non ∧ Q (.ref x) H2) E) :
    wpAny (model X.prog X.w) X.A (call (.ref C) us) (EP X pins σ Q) X.xe s:=by
  have hq:=h (s.heap.objs.size + 1) s.heap.objs.size (I.hok.fresh (Nat.le_succ _)) (I.hok.fresh (Nat.le_refl _)) (Nat.ne_of_lt (Nat.lt_succ_self _))
  have I2:=Inv.made (C:=C) I
  have r2 : Vals (V.ref (s.heap.objs.size + 1) :: (vs ++ dvs)) (Value.ref (s.heap.objs.size + 1) :: (us ++ ds)):=.cons rfl (r.append hd)
  have hl : (Value.ref (s.heap.objs.size + 1) :: us ++ ds).length = ps.length:=by
    have e:=r2.length
    rw [F.len _ _ _ _ hq] at e
    exact e.symm
  refine wpAny_call (Lx (f:=f) I.kIn M.makes M.init (beq_iff_eq.mp M.fn) (codeAny_mono (F.run _ X.stack _ _ ⟨Value.ref (s.heap.objs.size + 1) :: us,[]⟩ (Value.ref (s.heap.objs.size + 1) :: (us ++ ds)) _ _ E (hr.make C us [])
    (I2.Oh.make C us []) (hb _ (Value.ref (s.heap.objs.size + 1) :: us) I2.kIn hl) r2 hq) fun r s' hq'=>?_))
  cases r with
  | error e=>exact hx pins σ _ _ e s' I2 hq'
  | ok fl =>
    cases fl with
    | ret u =>
      obtain ⟨v,H',I3,rv,ev,q3⟩:=I2.after hq'
      subst ev
      exact ⟨rv,⟨V.ref (s.heap.objs.size + 1),H',I3,rfl,q3⟩⟩
    | next=>exact False.elim hq'
    | brk=>exact False.elim hq'
    | cont=>exact False.elim hq'
theorem gs (M : Mk X.K C f) (F : aw X.prog X.w X.K X.mg X.base CX k f fd ps sp) (hr : Room (k + 1) X.A) (hg : Gl X x) (hm : X.mg x = some (.ref C)) (hb : Binds X.K fd ps ds) (hd : Vals dvs ds) (hx : Passes CX X E)
    (ha : PA X (e :: es) t) (hdb : (x == ("__debug__" : Str)) = false:=by decide) (he : starEach (e :: es) X.env = (false,eval e X.env) :: starEach es X.env:=by rfl) (hpl : (backTo pos (starEach es X.env)).any (·.1) = false:=by rfl) :
    PE X (.Call (.Name x p) (e :: es) [] pos) (Wa C sp dvs E t):=by
  intro pins s σ H Q I h
  refine wpAny_Call_Name_kw (kT I hg hm ?_ hdb)
  refine PySem.W.callWith_K (h₀:=X.base) I.ok.mod.kin M.kp (thn (ha pos pins s σ H _ I h) fun us s1 ⟨vs,H1,I1,r,q⟩=>⟨I1.kIn,?_⟩) he hpl
  exact Ly M F hr hb hd hx I1 r q
end
section
variable {X : Cx} {CX : CXT} {k : Nat} {f C : Addr} {fd : FuncData} {ps ks : List Str} {sp : Sp} {E : XK} {x m : Str} {p pos apos adY : Pos} {e o : Expr} {es : List Expr} {kws : List Keyword} {te ta : TE} {t tk : TA} {nm : Option Str}
structure abV (K : PySem.W.Frag) (fd : FuncData) (ps ks : List Str) (g : List Value → List Value → List Value) (gV : List V → List V → List V) : Prop where
  to : ∀ (s : Shared) (us ws : List Value),K.In s.heap → (g us ws).length = ps.length → BindsTo s fd ⟨us,ks.zip ws⟩ (ps.zip (g us ws))
  rel : ∀ {vs : List V} {us : List Value} {zs : List V} {ws : List Value},Vals vs us → Vals zs ws → Vals (gV vs zs) (g us ws)
variable {g : List Value → List Value → List Value} {gV : List V → List V → List V}
end
structure aB (N P : List Str) (sc : Scope) : Prop where
  kind : sc.kind = .function
  co : sc.isCoroutine = false
  gen : sc.isGenerator = false
  nd : N.Nodup
  pre : N.take P.length = P
  par : ∀ x ∈ P,sc.names.lookup x = some .local ∨ sc.names.lookup x = some .cell
  Rt : ∀ y ∈ sc.names,y.2 ≠ .free
theorem AJ {kindOf : Str → Option NameKind} {x : Str} : ∀ {binds : List (Str × Value)} {m : Str → Option Value},(∀ v,(x,v) ∉ binds) → bindL kindOf binds m x = m x
  | [],_,_=>rfl
  | (n,v) :: r,m,h=>by
    unfold bindL
    rw [AJ fun w hw=>h w (List.mem_cons_of_mem _ hw)]
    split
    · have : x ≠ n:=by rintro rfl; exact h v List.mem_cons_self
      simp [this]
    · rfl
theorem AK {kindOf : Str → Option NameKind} {x : Str} : ∀ {binds : List (Str × Value)} {m : Str → Option Value},(∀ v,(x,v) ∉ binds) → bindC kindOf binds m x = m x
  | [],_,_=>rfl
  | (n,v) :: r,m,h=>by
    unfold bindC
    rw [AK fun w hw=>h w (List.mem_cons_of_mem _ hw)]
    split
    · rfl
    · have : x ≠ n:=by rintro rfl; exact h v List.mem_cons_self
      simp [this]
theorem AL {kindOf : Str → Option NameKind} {x : Str} {v : Value} : ∀ {P : List Str} {vs : List Value} {i : Nat} {m : Str → Option Value},P.Nodup → P[i]? = some x → vs[i]? = some v → kindOf x = some .local →
    bindL kindOf (P.zip vs) m x = some v
  | [],_,_,_,_,h,_,_=>by simp at h
  | _ :: _,[],_,_,_,_,h,_=>by simp at h
  | p :: P,w :: vs,0,m,nd,h1,h2,hk=>by
    simp at h1 h2; subst h1; subst h2
    show bindL kindOf ((p,w) :: P.zip vs) m p = _
    unfold bindL
    rw [AJ fun v hv=>(List.nodup_cons.mp nd).1 (List.of_mem_zip hv).1,if_pos hk]
    simp
  | p :: P,w :: vs,i + 1,m,nd,h1,h2,hk=>by
    show bindL kindOf ((p,w) :: P.zip vs) m x = _
    unfold bindL
    exact AL (i:=i) (List.nodup_cons.mp nd).2 (by simpa using h1) (by simpa using h2) hk
theorem AM {kindOf : Str → Option NameKind} {x : Str} {v : Value} : ∀ {P : List Str} {vs : List Value} {i : Nat} {m : Str → Option Value},P.Nodup → P[i]? = some x → vs[i]? = some v → kindOf x ≠ some .local →
    bindC kindOf (P.zip vs) m x = some v
  | [],_,_,_,_,h,_,_=>by simp at h
  | _ :: _,[],_,_,_,_,h,_=>by simp at h
  | p :: P,w :: vs,0,m,nd,h1,h2,hk=>by
    simp at h1 h2; subst h1; subst h2
    show bindC kindOf ((p,w) :: P.zip vs) m p = _
    unfold bindC
    rw [AK fun v hv=>(List.nodup_cons.mp nd).1 (List.of_mem_zip hv).1,if_neg hk]
    simp
  | p :: P,w :: vs,i + 1,m,nd,h1,h2,hk=>by
    show bindC kindOf ((p,w) :: P.zip vs) m x = _
    unfold bindC
    exact AM (i:=i) (List.nodup_cons.mp nd).2 (by simpa using h1) (by simpa using h2) hk
def start (N : List Str) (vs : List V) : St:=vs.map some ++ List.replicate (N.length - vs.length) none
def tY (CX : CXT) (P : Program) (w : World) (K : PySem.W.Frag) (mg : Str → Option Value) (base : Heap) (N : List Str) (qual : Str) (scope : Scope) (f : Addr) (cd : Value) (A : Around) (outer : List Env) (s : Shared) (H : Hp) (E : XK) : Cx where
  prog:=P
  w:=w
  K:=K
  mg:=mg
  base:=base
  A:=A.deeper (envOfC qual scope s.heap.objs.size f cd)
  N:=N
  s₀:=s
  H₀:=H
  env:=envOfC qual scope s.heap.objs.size f cd
  outer:=outer
  stack:=envOfC qual scope s.heap.objs.size f cd :: outer
  ex:=[]
  calm:=true
  fn:=fun _=>true
  pn:=[]
  xe:=fun e s'=>wpAny (model P w) (A.deeper (envOfC qual scope s.heap.objs.size f cd)) (leaving (envOfC qual scope s.heap.objs.size f cd) e) (fun _ s''=>CX outer H s E e s'') (fun e' s''=>CX outer H s E e' s'') s'
theorem CY {sc : Scope} {n : Nat} {x : Str} (h : sc.names.lookup x = some .cell) : ∃ c,(cellsFrom n sc.names []).lookup x = some c:=by
  have q:=PySem.W.cellsFrom_some sc.names n [] (.inl h)
  exact Option.isSome_iff_exists.mp q
theorem JV {CX : CXT} {P : Program} {w : World} {K : PySem.W.Frag} {mg : Str → Option Value} {base : Heap} {N ps : List Str} {qual : Str} {scope : Scope} {f : Addr} {cd : Value} {A : Around} {outer : List Env} {s s1 : Shared} {H : Hp} {E : XK} {us : List Value} {vs : List V}
    (S : aB N ps scope) (hd : A.handled = none) (e0 : Ac P w K mg base A outer s H) (hl : vs.length = ps.length) (r : Vals vs us)
    (x : InCallC s s.heap.objs.size (bindL (envOfC qual scope s.heap.objs.size f cd).kindOf (ps.zip us) fun _=>none) (cellsFrom (s.heap.objs.size + 1) scope.names []) (bindC (envOfC qual scope s.heap.objs.size f cd).kindOf (ps.zip us) fun _=>none) s1) :
    Inv (tY CX P w K mg base N qual scope f cd A outer s H E) [] (start N vs) H s1:=by
  have hpl : ps.length ≤ N.length:=by have:=congrArg List.length S.pre; rw [List.length_take] at this; omega
  obtain ⟨h1,tk,rfl,hk⟩:=x.done
  have noA : ∀ b : Addr,b ∉ (tY CX P w K mg base N qual scope f cd A outer s H E).ex:=fun b z=>absurd (show b ∈ ([] : List Addr) from z) (by simp)
  refine ⟨⟨e0.mod,S.kind,rfl,rfl,Nat.le_refl _,fun y z c h1 h2=>?_,fun y hy=>?_,fun y c _ h=>?_,fun _=>hd,Around.frames_deeper e0.frames,.inr ⟨rfl,rfl⟩,fun b z=>absurd z (noA b),e0.bs,e0.bsz,fun b _ _=>noA b,fun b z=>absurd z (noA b),e0.sQ,e0.frf⟩,
    rfl,e0.bare,Un.kept hk,⟨_,x.toInCall.ns,fun i y v h1 h2 h3=>?_⟩,fun y c h=>⟨_,x.cell y c h⟩,e0.hok.fresh (Nat.le_refl _),fun y c h=>?_,fun p hp=>absurd (show p ∈ ([] : List (Addr × Obj)) from hp) (by simp),e0.hok.kept hk,?_⟩
  · exact name_of_addr x.apart (PySem.mem_of_lookup h1) (PySem.mem_of_lookup h2)
  · have hy : scope.names.lookup y = some .cell ∨ scope.names.lookup y = some .free:=hy
    rcases hy with hy | hy
    · exact CY hy
    · exact absurd rfl (S.Rt _ (PySem.mem_of_lookup hy))
  · exact Nat.le_of_lt (x.above y c (PySem.mem_of_lookup h))
  · have hi : i < vs.length:=by
      unfold start at h2
      by_cases hi : i < vs.length
      · exact hi
      · rw [List.getElem?_append_right (by simpa using hi)] at h2
        rw [List.getElem?_replicate] at h2
        split at h2 <;> cases h2
    have ha : vs[i]? = some v:=by
      unfold start at h2
      rw [List.getElem?_append_left (by simpa using hi),List.getElem?_map] at h2
      cases e : vs[i]? with
      | none=>rw [e] at h2; cases h2
      | some a=>rw [e] at h2; cases h2; rfl
    obtain ⟨u,hu,rv⟩:=r.get ha
    have hp : ps[i]? = some y:=by
      rw [← S.pre,List.getElem?_take_of_lt (by omega)]; exact h1
    have ndP : ps.Nodup:=by rw [← S.pre]; exact S.nd.sublist (List.take_sublist _ _)
    refine ⟨u,rv,?_⟩
    rcases S.par y (List.mem_of_getElem? hp) with k | k
    · exact .inl ⟨k,AL ndP hp hu k⟩
    · obtain ⟨c,e⟩:=CY (n:=s.heap.objs.size + 1) k
      refine .inr ⟨.inl k,c,e,?_⟩
      have q:=x.cell y c e
      rw [AM ndP hp hu (by show scope.names.lookup y ≠ _; rw [k]; decide)] at q
      exact q
  · exact e0.hok.fresh (Nat.le_of_lt (x.above y c (PySem.mem_of_lookup h)))
  · unfold start
    show _ = N.length
    rw [List.length_append,List.length_map,List.length_replicate]
    omega
theorem PX {CX : CXT} {P : Program} {w : World} {K : PySem.W.Frag} {mg : Str → Option Value} {base : Heap} {k : Nat} {f : Addr} {name qual : Str} {params : Arguments} {body : List Stmt} {scope : Scope} {dV kV doc pm cdv ct oc : Value} {an od : Option Addr}
    {osl : Array (Option Value)} {N ps : List Str} {sp : Sp} (lk : K.lookup f = some ⟨oc,od,.func (PySem.W.fnOf name qual params body scope dV kV doc pm an cdv ct),osl⟩) (hcd : PySem.W.codeIn K cdv qual = true) (S : aB N ps scope)
    (len : ∀ vs H Q E,sp vs H Q E → vs.length = ps.length)
    (CZ : ∀ (A : Around) (outer : List Env) (s : Shared) (H : Hp) (vs : List V) (Q : VK) (E : XK),Room k (A.deeper (envOfC qual scope s.heap.objs.size f cdv)) → sp vs H Q E →
      ∃ t,PSs (tY CX P w K mg base N qual scope f cdv A outer s H E) body t ∧ t { nx:=fun _ H'=>Q .non H',rt:=Q } (start N vs) H) :
    aw P w K mg base CX (k + 1) f (PySem.W.fnOf name qual params body scope dV kV doc pm an cdv ct) ps sp:=by
  refine ⟨len,fun A outer s H args us vs Q E hr e0 hb r hsp=>?_⟩
  have hl:=len _ _ _ _ hsp
  have KX : K.In s.heap:=e0.mod.kin.keeps fun b o e=>(e0.bs b o e).1
  have lim : s.heap.NoLimit:=e0.mod.nolimit.keeps fun b o e=>(e0.bs b o e).1
  have Wb : ∀ y ∈ ps.zip us,scope.names.lookup y.1 = some .local ∨ (scope.names.lookup y.1 = some .cell ∧ ((cellsFrom (s.heap.objs.size + 1) scope.names []).lookup y.1).isSome = true):=fun ⟨n,v⟩ hy=>by
    rcases S.par n (List.of_mem_zip hy).1 with q | q
    · exact .inl q
    · exact .inr ⟨q,PySem.W.cellsFrom_some _ _ _ (.inl q)⟩
  refine codeAny_call_function hr.depth (KX _ _ lk) rfl S.co S.gen rfl (PySem.W.codeRec_of KX hcd) (hb _ _ _ _ ?_)
  refine wpAny_newFunctionEnv_cells S.kind Wb fun env he s1 x=>?_
  subst he
  refine ⟨lim.keeps x.toInCall.keep,codeAny_func ?_⟩
  obtain ⟨t,ht,hq⟩:=CZ A outer s H vs Q E (hr.deeper _) hsp
  have I : Inv (tY CX P w K mg base N qual scope f cdv A outer s H E) [] (start N vs) H s1:=JV S hr.hd e0 hl r x
  refine wpAny_mono (ht [] s1 (start N vs) H _ I hq) (fun fl s' hs=>?_) fun e s' hs=>hs
  have fin : ∀ {σ' : St} {H' : Hp} {v : V} {u : Value},Inv (tY CX P w K mg base N qual scope f cdv A outer s H E) [] σ' H' s' → RelV v u → Q v H' → CE outer P w H s Q u s' :=
    fun {σ' H' v u} J rv q=>⟨v,H',J.os,J.bare,J.base,J.hok,rv,q⟩
  cases fl with
  | ret u =>
    obtain ⟨v,σ',H',J,rv,q⟩:=hs
    exact fin J rv q
  | next =>
    obtain ⟨σ',H',J,q⟩:=hs
    exact fin (v:=V.non) (u:=Value.none) J rfl q
  | brk =>
    obtain ⟨_,_,_,q⟩:=hs
    exact False.elim q
  | cont =>
    obtain ⟨_,_,_,q⟩:=hs
    exact False.elim q
end L2
namespace L2
open PySem PySem.Spec PyProof.Rows
section
variable {X : Cx} {x : Str} {p pos : Pos} {e : Expr} {es : List Expr} {t : TA} {id T : String} {r : List V → Hp → VK → Prop}
def tCB (r : List V → Hp → VK → Prop) (t : TA) : TE:=fun σ H Q=>t σ H fun vs H1=>r vs H1 Q
theorem cG (hc : hV X (.builtin id) r) (hg : Gl X x) (hm : X.mg x = none) (hv : bootBuiltins x = some (.builtin id)) (ha : PA X (e :: es) t) (hn : x ≠ "__name__":=by decide) (hdb : (x == ("__debug__" : Str)) = false:=by decide)
    (he : starEach (e :: es) X.env = (false,eval e X.env) :: starEach es X.env:=by rfl) (hpl : (backTo pos (starEach es X.env)).any (·.1) = false:=by rfl) : PE X (.Call (.Name x p) (e :: es) [] pos) (tCB r t):=by
  intro pins s σ H Q I h
  refine wpAny_Call_Name_kw (Bz I hg hm hv ?_ hn hdb)
  exact PyProof.Rows.callWith_builtin1 (thn (ha pos pins s σ H _ I h) fun us s1 ⟨vs,H1,I1,r1,q1⟩=>hc pins s1 σ H1 vs us Q I1 r1 q1) he hpl
theorem fN (hc : hV X (.type T) r) (hg : Gl X x) (hm : X.mg x = none) (hv : bootBuiltins x = some (.type T)) (ha : PA X (e :: es) t) (hn : x ≠ "__name__":=by decide) (hdb : (x == ("__debug__" : Str)) = false:=by decide)
    (he : starEach (e :: es) X.env = (false,eval e X.env) :: starEach es X.env:=by rfl) (hpl : (backTo pos (starEach es X.env)).any (·.1) = false:=by rfl) : PE X (.Call (.Name x p) (e :: es) [] pos) (tCB r t):=by
  intro pins s σ H Q I h
  refine wpAny_Call_Name_kw (Bz I hg hm hv ?_ hn hdb)
  exact PyProof.Rows.callWith_type1 (thn (ha pos pins s σ H _ I h) fun us s1 ⟨vs,H1,I1,r1,q1⟩=>hc pins s1 σ H1 vs us Q I1 r1 q1) he hpl
end
end L2
namespace HT
open PySem PyProof.Rows
section
open PySem.SeqAt
open PySem.AutoSeq1 (wpAny_loadPart')
open PySem.MeetsSeq PySem.MeetsSeq2 PySem.MeetsSeq3
end
section
variable {prog : Program} {w : World} {A : Around} {E : Value → Shared → Prop} {s : Shared}
def sIx (n d : Nat) : Option Int → Nat
  | none=>d
  | some v=>if v < 0 then (v + (n : Int)).toNat else min v.toNat n
theorem C0 (n d : Nat) : sIx n d none = d:=rfl
theorem tZ (n d k : Nat) : sIx n d (some (k : Int)) = min k n:=by
  show (if (k : Int) < 0 then ((k : Int) + (n : Int)).toNat else min (k : Int).toNat n) = min k n
  rw [if_neg (by omega),Int.toNat_natCast]
theorem Ru (n d : Nat) (hd : d ≤ n) (o : Option Int) : sIx n d o ≤ n:=by
  cases o with
  | none=>exact hd
  | some v =>
    show (if v < 0 then (v + (n : Int)).toNat else min v.toNat n) ≤ n
    by_cases hv : v < 0
    · rw [if_pos hv]; omega
    · rw [if_neg hv]; exact Nat.min_le_right _ _
theorem IP (v : Int) (n d : Nat) : (if v < 0 then max (v + (n : Int)) 0 else min v (n : Int)) = ((sIx n d (some v) : Nat) : Int):=by
  show (if v < 0 then max (v + (n : Int)) 0 else min v (n : Int)) = (((if v < 0 then (v + (n : Int)).toNat else min v.toNat n) : Nat) : Int)
  by_cases hv : v < 0
  · simp only [if_pos hv]; omega
  · simp only [if_neg hv]; omega
theorem Gn (lo hi : Option Int) (n : Nat) : Builtin.Slice.sliceAdjust lo hi 1 (n : Int) = (((sIx n 0 lo : Nat) : Int),((sIx n n hi : Nat) : Int)):=by
  have h1 : ¬ ((1 : Int) < 0):=by omega
  unfold Builtin.Slice.sliceAdjust
  simp only [h1,if_false]
  refine Prod.ext ?_ ?_
  · cases lo with
    | none=>rfl
    | some v=>exact IP v n 0
  · cases hi with
    | none=>rfl
    | some v=>exact IP v n n
theorem Gp (i j : Nat) : Builtin.Slice.slicePlaces (i : Int) (j : Int) 1 = j - i:=by
  unfold Builtin.Slice.slicePlaces
  have h1 : (1 : Int) > 0:=by omega
  simp only [h1,if_true,Int.ediv_one]
  split <;> omega
theorem yA {v : Value} {o : Option Int} {Q : Option Int → Shared → Prop} (p : IsPart v o) (h : Q o s) : wpAny (model prog w) A (Builtin.Slice.slicePartIndex v) Q E s:=by
  cases p with
  | none=>exact slicePart_none h
  | int i t=>exact slicePart_int h
theorem u6 {sl : Addr} {vl vu : Value} {lo hi : Option Int} {n : Nat} {Q : Int × Int × Nat → Shared → Prop} (hs : s.heap.IsSliceOf sl vl vu .none) (pl : IsPart vl lo) (pu : IsPart vu hi)
    (h : Q (((sIx n 0 lo : Nat) : Int),1,sIx n n hi - sIx n 0 lo) s) : wpAny (model prog w) A (Builtin.Slice.sliceApplied (.ref sl) (pure (n : Int))) Q E s:=by
  obtain ⟨os,hos,hcs,hds⟩:=id hs
  unfold Builtin.Slice.sliceApplied Builtin.Slice.sliceFields
  refine wpAny_bind (wpAny_bind (wpAny_field hos hds (x:=vl) rfl (wpAny_bind (wpAny_field hos hds (x:=vu) rfl (wpAny_bind (wpAny_field hos hds (x:=.none) rfl (wpAny_pure ?_)))))))
  refine wpAny_bind (slicePart_none ?_)
  show wpAny _ _ (if ((1 : Int) == 0) = true then _ else _) _ _ s
  rw [if_neg (by decide)]
  refine wpAny_bind (yA pl (wpAny_bind (yA pu (wpAny_bind (wpAny_pure ?_)))))
  show wpAny _ _ (match Builtin.Slice.sliceAdjust lo hi 1 (n : Int) with | (lo,hi)=>pure (lo,(1 : Int),Builtin.Slice.slicePlaces lo hi 1)) _ _ s
  rw [Gn lo hi n]
  show wpAny _ _ (pure (((sIx n 0 lo : Nat) : Int),(1 : Int),Builtin.Slice.slicePlaces ((sIx n 0 lo : Nat) : Int) ((sIx n n hi : Nat) : Int) 1)) _ _ s
  rw [Gp]
  exact wpAny_pure h
theorem Lz (xs : Array Value) (i k : Nat) : ((List.range k).filterMap fun (m : Nat)=>xs[((i : Int) + (m : Int) * 1).toNat]?).toArray = ((xs.toList.drop i).take k).toArray:=by
  have e : (fun (m : Nat)=>xs[((i : Int) + (m : Int) * 1).toNat]?) = fun m=>xs[i + m]?:=by
    funext m
    have : ((i : Int) + (m : Int) * 1).toNat = i + m:=by omega
    rw [this]
  rw [e]
  have:=pick_run xs i k
  rw [List.filterMap_map] at this
  have e2 : ((fun x=>xs[x]?) ∘ fun x=>i + x) = fun m=>xs[i + m]?:=rfl
  rw [e2] at this
  rw [this]
theorem t4 {t sl : Addr} {items : Array Value} {vl vu : Value} {lo hi : Option Int} {Q : Value → Shared → Prop} (ht : IsTup s.heap t items) (hs : s.heap.IsSliceOf sl vl vu .none) (pl : IsPart vl lo) (pu : IsPart vu hi)
    (hw : ¬ (sIx items.size 0 lo = 0 ∧ sIx items.size items.size hi = items.size))
    (h : Q (.ref s.heap.objs.size) { s with heap:=s.heap.push { cls:=.type "tuple",data:=.seq ((items.toList.drop (sIx items.size 0 lo)).take (sIx items.size items.size hi - sIx items.size 0 lo)).toArray } })
    (hsz : items.size ≤ sizeLine) : wpAny (model prog w) A (getItem (.ref t) (.ref sl)) Q E s:=by
  have IQ : sizeOk (.seq ((items.toList.drop (sIx items.size 0 lo)).take (sIx items.size items.size hi - sIx items.size 0 lo)).toArray):=by
    show ((items.toList.drop (sIx items.size 0 lo)).take (sIx items.size items.size hi - sIx items.size 0 lo)).toArray.size ≤ sizeLine
    rw [List.size_toArray,List.length_take,List.length_drop,Array.length_toList]
    omega
  have hj : sIx items.size items.size hi ≤ items.size:=Ru _ _ (Nat.le_refl _) hi
  obtain ⟨os,hos,hcs,hds⟩:=id hs
  have hTs : s.TypeIs (.ref sl) "slice":=⟨os,hos,hcs⟩
  unfold getItem
  try with_reducible refine wpAny_holding ?_
  first | refine wpAny_bind (wpAny_pure ?_) | skip
  refine wpAny_bind (wpAny_sequenceKey ht.typeIs (by decide) ?_)
  refine wpAny_bind (wpAny_callSpecial?_slot (name:=Str.ofString "__getitem__") ht.typeIs PyProof.Rows.slot_tuple_getitem
    (wpAny_call_entry PyProof.Rows.slot_tuple_getitem ht.typeIs entry_tuple_getitem ?_ (args_tuple_getitem _ _)))
  show wpAny _ _ (Builtin.Tuple.tupleItemsOf (.ref t) >>= _) _ _ s
  refine wpAny_bind (tupleItemsOf_ ht ?_)
  refine wpAny_bind (wpAny_typeOf hTs ?_)
  rw [if_pos (by decide)]
  refine wpAny_bind (u6 hs pl pu ?_)
  have hno : ¬ ((((sIx items.size 0 lo : Nat) : Int) == 0 && (1 : Int) == 1 && (sIx items.size items.size hi - sIx items.size 0 lo) == items.size) = true):=by
    intro q
    rw [Bool.and_eq_true,Bool.and_eq_true] at q
    have q1 : ((sIx items.size 0 lo : Nat) : Int) = 0:=eq_of_beq q.1.1
    have q2 : sIx items.size items.size hi - sIx items.size 0 lo = items.size:=eq_of_beq q.2
    exact hw ⟨by omega,by omega⟩
  show wpAny _ _ (if (((sIx items.size 0 lo : Nat) : Int) == 0 && (1 : Int) == 1 && (sIx items.size items.size hi - sIx items.size 0 lo) == items.size) = true then _ else _) _ _ s
  rw [if_neg hno,Lz]
  first
    | exact wpAny_bind (m:=Builtin.Tuple.tupleExact _) (wpAny_newObj_type (wpAny_pure ⟨_,rfl,wpAny_pure h⟩) IQ)
    | exact wpAny_bind (m:=Builtin.Tuple.tupleExact _) (wpAny_newObj_type (wpAny_bind (wpAny_pure (wpAny_pure ⟨_,rfl,wpAny_pure h⟩))) IQ)
    | exact wpAny_bind (wpAny_bind (m:=Builtin.Tuple.tupleExact _) (wpAny_newObj_type (wpAny_pure (wpAny_pure ⟨_,rfl,wpAny_pure h⟩)) IQ))
    | exact wpAny_bind (wpAny_bind (m:=Builtin.Tuple.tupleExact _) (wpAny_newObj_type (wpAny_pure ⟨_,rfl,wpAny_pure h⟩) IQ))
end
end HT
namespace L2
open PySem PySem.Spec PyProof.Rows
abbrev TO:=St → Hp → (Option Int → Hp → Prop) → Prop
def PO (X : Cx) (e : Option Expr) (t : TO) : Prop :=
  ∀ (pins : List (Addr × Obj)) (s : Shared) (σ : St) (H : Hp) (Q : Option Int → Hp → Prop),Inv X pins σ H s → t σ H Q →
    wpAny (model X.prog X.w) X.A (evalPart e X.env) (fun u s'=>∃ o H',Inv X pins σ H' s' ∧ IsPart u o ∧ Q o H') X.xe s
def Oi : TO:=fun _ H Q=>Q none H
def Wc (t : TE) : TO:=fun σ H Q=>t σ H fun x H1=>∃ i,x = .int i ∧ Q (some i) H1
section
variable {X : Cx} {e : Expr} {te : TE} {lo hi : Option Expr} {tl th : TO} {pos p2 : Pos}
theorem yg : PO X none Oi:=by
  intro pins s σ H Q I h
  rw [evalPart_none]
  exact wpAny_pure ⟨none,H,I,.none,h⟩
theorem rN (h : PE X e te) : PO X (some e) (Wc te):=by
  intro pins s σ H Q I hw
  rw [evalPart_some]
  refine thn (h pins s σ H _ I hw) fun u s1 ⟨x,H1,I1,r1,q1⟩=>?_
  obtain ⟨i,rfl,q⟩:=q1
  obtain ⟨t,rfl⟩:=r1
  exact ⟨some i,H1,I1,.int i t,q⟩
def SlR (X : Cx) (r : V → Option Int → Option Int → Hp → VK → Prop) : Prop :=
  ∀ (pins : List (Addr × Obj)) (s : Shared) (σ : St) (H : Hp) (x : V) (v vl vu : Value) (lo hi : Option Int) (sl : Addr) (Q : VK),Inv X pins σ H s → RelV x v → s.heap.IsSliceOf sl vl vu .none → IsPart vl lo → IsPart vu hi → r x lo hi H Q →
    ∃ T id,typeLookup (.type T) "__getitem__" = pure (some (.builtin id)) ∧ s.TypeIs v T ∧ wpAny (model X.prog X.w) X.A (getItem v (.ref sl)) (EP X pins σ Q) X.xe s
theorem SlR.or {r r' : V → Option Int → Option Int → Hp → VK → Prop} (h : SlR X r) (h' : SlR X r') : SlR X (fun x lo hi H Q=>r x lo hi H Q ∨ r' x lo hi H Q):=by
  intro pins s σ H x v vl vu lo hi sl Q I rx hs pl pu q
  rcases q with q | q
  · exact h pins s σ H x v vl vu lo hi sl Q I rx hs pl pu q
  · exact h' pins s σ H x v vl vu lo hi sl Q I rx hs pl pu q
def tSl (r : V → Option Int → Option Int → Hp → VK → Prop) (te : TE) (tl th : TO) : TE:=fun σ H Q=>te σ H fun x H1=>tl σ H1 fun l H2=>th σ H2 fun u H3=>r x l u H3 Q
theorem qw {r : V → Option Int → Option Int → Hp → VK → Prop} (hr : SlR X r) (he : PE X e te) (hl : PO X lo tl) (hu : PO X hi th) : PE X (.Subscript e (.Slice lo hi none p2) pos) (tSl r te tl th):=by
  intro pins s σ H Q I h
  refine Subscript_ (thn (he pins s σ H _ I h) fun v s1 ⟨x,H1,I1,r1,q1⟩=>?_)
  refine wpAny_Slice (thn (hl pins s1 σ H1 _ I1 q1) fun vl s2 ⟨l,H2,I2,pl,q2⟩=>thn (hu pins s2 σ H2 _ I2 q2) fun vu s3 ⟨u,H3,I3,pu,q3⟩=>?_)
  rw [evalPart_none]
  refine wpAny_pure ?_
  have I4 : Inv X pins σ H3 { s3 with heap:=s3.heap.push { cls:=.type "slice",data:=.fields #[vl,vu,.none] } }:=I3.kept (t':=s3.toks) fun b ob q=>Heap.get?_push_of_some _ q
  obtain ⟨T,id,hT,ht,hg⟩:=hr pins { s3 with heap:=s3.heap.push { cls:=.type "slice",data:=.fields #[vl,vu,.none] } } σ H3 x v vl vu l u s3.heap.objs.size Q I4 r1 (Heap.IsSliceOf.new ..) pl pu q3
  show wpAny (model X.prog X.w) X.A (subscriptTail e (.Slice lo hi none p2) v (.ref s3.heap.objs.size)) (EP X pins σ Q) X.xe { s3 with heap:=s3.heap.push { cls:=.type "slice",data:=.fields #[vl,vu,.none] } }
  exact tail_any (ops:=[.ref s3.heap.objs.size,v]) ht hT hg (by with_unfolding_all rfl)
def iR (xs : List V) (lo hi : Option Int) : List V:=(xs.drop (HT.sIx xs.length 0 lo)).take (HT.sIx xs.length xs.length hi - HT.sIx xs.length 0 lo)
theorem qy (xs : List V) (lo hi : Option Int) : (iR xs lo hi).length ≤ xs.length:=by
  unfold iR
  rw [List.length_take,List.length_drop]
  omega
def abW (K : PySem.W.Frag) : V → Option Int → Option Int → Hp → VK → Prop:=fun x lo hi H Q=>∃ a xs,x = .ref a ∧ SqT K H a xs ∧
  ¬ (HT.sIx xs.length 0 lo = 0 ∧ HT.sIx xs.length xs.length hi = xs.length) ∧ ∀ p,H p = none → Q (.ref p) (upd H p (.tup (iR xs lo hi)))
theorem Rv : SlR X (abW X.K):=by
  intro pins s σ H x v vl vu lo hi sl Q I rx hs pl pu h
  obtain ⟨a,xs,rfl,hx,hw,q⟩:=h
  cases rx
  obtain ⟨its,r,ht,hz⟩:=I.tuple hx
  have hlen : its.toArray.size = xs.length:=by rw [List.size_toArray]; exact r.length.symm
  refine ⟨"tuple",_,PyProof.Rows.slot_tuple_getitem.lookup,ht.typeIs,?_⟩
  refine HT.t4 ht hs pl pu (by rw [hlen]; exact hw) ?_ (by rw [hlen]; exact hz)
  rw [hlen]
  refine ⟨.ref s.heap.objs.size,_,I.laid (t':=s.toks) (o:=.tup (iR xs lo hi)) (fun b ob q=>Heap.get?_push_of_some _ q) (Nat.le_refl _) ?_,rfl,q _ (I.hok.fresh (Nat.le_refl _))⟩
  exact ⟨Nat.le_trans (qy xs lo hi) hz,_,(r.drop (HT.sIx xs.length 0 lo)).take (HT.sIx xs.length xs.length hi - HT.sIx xs.length 0 lo),IsTup.new _ _⟩
end
end L2
namespace L2
open PySem PySem.Spec PyProof.Rows
def ixN (n : Nat) (i : Int) : Option Nat:=if 0 ≤ i then (if i < n then some i.toNat else none) else if -(n : Int) ≤ i then some (i + n).toNat else none
def atI {α : Type} (xs : List α) (i : Int) : Option α:=(ixN xs.length i).bind fun j=>xs[j]?
theorem BE {n : Nat} {i : Int} {j : Nat} (h : ixN n i = some j) : seqIndex? i n = some j ∧ j < n ∧ -(n : Int) ≤ i ∧ i < n:=by
  unfold ixN at h
  by_cases h0 : 0 ≤ i
  · rw [if_pos h0] at h
    by_cases h1 : i < n
    · rw [if_pos h1] at h
      have e : i.toNat = j:=Option.some.inj h
      exact ⟨by rw [seqIndex_of h0 h1,e],by omega,by omega,h1⟩
    · rw [if_neg h1] at h; cases h
  · rw [if_neg h0] at h
    by_cases h1 : -(n : Int) ≤ i
    · rw [if_pos h1] at h
      have e : (i + n).toNat = j:=Option.some.inj h
      exact ⟨by rw [seqIndex_neg (by omega) h1,e],by omega,h1,by omega⟩
    · rw [if_neg h1] at h; cases h
theorem BF {α : Type} {xs : List α} {i : Int} {v : α} (h : atI xs i = some v) : ∃ j,seqIndex? i xs.length = some j ∧ xs[j]? = some v ∧ j < xs.length ∧ -(xs.length : Int) ≤ i ∧ i < xs.length:=by
  unfold atI at h
  cases e : ixN xs.length i with
  | none=>rw [e] at h; cases h
  | some j =>
    rw [e] at h
    obtain ⟨h1,h2,h3,h4⟩:=BE e
    exact ⟨j,h1,h,h2,h3,h4⟩
theorem oY {α : Type} {xs : List α} {j : Nat} {v : α} (h : xs[j]? = some v) : atI xs (j : Int) = some v:=by
  have hj : j < xs.length:=(List.getElem?_eq_some_iff.mp h).1
  have e : ixN xs.length (j : Int) = some j:=by
    unfold ixN
    rw [if_pos (by omega),if_pos (by omega)]; simp
  unfold atI; rw [e]; exact h
theorem yB {α : Type} (xs : List α) (v : α) : atI (xs ++ [v]) (-1) = some v:=by
  have hl : (xs ++ [v]).length = xs.length + 1:=by simp
  have e : ixN (xs ++ [v]).length (-1) = some xs.length:=by
    unfold ixN
    rw [hl,if_neg (by decide),if_pos (by omega)]
    congr 1
    omega
  unfold atI
  rw [e]
  show (xs ++ [v])[xs.length]? = some v
  simp
def Oj (b : Expr) : Prop:=∀ o i,subscripted b false o i = operate [o,i] (getItem o i)
def IxR (X : Cx) (r : R2) : Prop :=
  ∀ (value slice : Expr) (pins : List (Addr × Obj)) (s : Shared) (σ : St) (H : Hp) (x y : V) (v u : Value) (Q : VK),Inv X pins σ H s → RelV x v → RelV y u → r x y H Q →
    subscripted slice false v u = operate [v,u] (getItem v u) → wpAny (model X.prog X.w) X.A (subscriptTail value slice v u) (EP X pins σ Q) X.xe s
def MtR (X : Cx) (id : String) (r : V → List V → Hp → VK → Prop) : Prop :=
  ∀ (pins : List (Addr × Obj)) (s : Shared) (σ : St) (H : Hp) (x : V) (xs : List V) (v : Value) (us : List Value) (Q : VK),Inv X pins σ H s → RelV x v → Vals xs us → r x xs H Q →
    wpAny (model X.prog X.w) X.A (call (.builtin id) (v :: us)) (EP X pins σ Q) X.xe s
section
variable {X : Cx} {a b : Expr} {ta tb : TE} {pos : Pos}
theorem IxR.or {r r' : R2} (h : IxR X r) (h' : IxR X r') : IxR X (fun x y H Q=>r x y H Q ∨ r' x y H Q):=by
  intro value slice pins s σ H x y v u Q I rx ry q hs
  rcases q with q | q
  · exact h value slice pins s σ H x y v u Q I rx ry q hs
  · exact h' value slice pins s σ H x y v u Q I rx ry q hs
theorem MtR.or {id : String} {r r' : V → List V → Hp → VK → Prop} (h : MtR X id r) (h' : MtR X id r') : MtR X id (fun x xs H Q=>r x xs H Q ∨ r' x xs H Q):=by
  intro pins s σ H x xs v us Q I rx rs q
  rcases q with q | q
  · exact h pins s σ H x xs v us Q I rx rs q
  · exact h' pins s σ H x xs v us Q I rx rs q
theorem aS {r : R2} (hr : IxR X r) (ha : PE X a ta) (hb : PE X b tb) (hs : Oj b) : PE X (.Subscript a b pos) (tOp r ta tb):=by
  intro pins s σ H Q I h
  exact Subscript_ (Rk ha hb I h fun v u s2 x y H2 I2 rx ry q=>hr a b pins s2 σ H2 x y v u Q I2 rx ry q (hs _ _))
def Rw (K : PySem.W.Frag) : R2:=fun x y H Q=>∃ p xs i v,x = .ref p ∧ y = .int i ∧ SqL K H p xs ∧ atI xs i = some v ∧ Q v H
def Wd (K : PySem.W.Frag) : R2:=fun x y H Q=>∃ p xs i v,x = .ref p ∧ y = .int i ∧ SqT K H p xs ∧ atI xs i = some v ∧ Q v H
def We : R2:=fun x y H Q=>∃ z i c,x = .str z ∧ y = .int i ∧ z.length ≤ sizeLine ∧ atI z.cps.toList i = some c ∧ Q (.str ⟨#[c]⟩) H
theorem cq : IxR X (Rw X.K):=by
  intro value slice pins s σ H x y v u Q I rx ry h hs
  obtain ⟨p,xs,i,z,rfl,rfl,hq,he,q⟩:=h
  cases rx
  obtain ⟨t,rfl⟩:=ry
  obtain ⟨its,r,pl,hz⟩:=I.list hq
  obtain ⟨j,h1,h2,h3,h4,h5⟩:=BF he
  obtain ⟨w,ew,rw'⟩:=r.get h2
  have hl:=r.length
  have hn:=u4
  have fin : EP X pins σ Q w s:=⟨z,H,I,rw',q⟩
  by_cases h0 : 0 ≤ i
  · have hj : i.toNat = j:=by
      rw [seqIndex_of h0 h5] at h1
      exact Option.some.inj h1
    exact item_listR pl.isList h0 (by omega) (by rw [hj]; simpa using ew) fin hs
  · have hj : (i + (its.toArray.size : Int)).toNat = j:=by
      rw [seqIndex_neg (by omega) h4] at h1
      rw [List.size_toArray,← hl]
      exact Option.some.inj h1
    exact subscriptTail_builtinR (x:=w) pl.isList.typeIs slot_list_getitem.lookup
      (wpAny_getItem_list_neg (Q:=fun r s'=>r = w ∧ EP X pins σ Q r s') pl.isList (by omega) (by rw [List.size_toArray] <;> omega) (by omega) (by rw [hj]; simpa using ew) ⟨rfl,fin⟩) hs
theorem aY : IxR X (Wd X.K):=by
  intro value slice pins s σ H x y v u Q I rx ry h hs
  obtain ⟨p,xs,i,z,rfl,rfl,hq,he,q⟩:=h
  cases rx
  obtain ⟨t,rfl⟩:=ry
  obtain ⟨its,r,pl,hz⟩:=I.tuple hq
  obtain ⟨j,h1,h2,h3,h4,h5⟩:=BF he
  obtain ⟨w,ew,rw'⟩:=r.get h2
  have hl:=r.length
  have hn:=u4
  have fin : EP X pins σ Q w s:=⟨z,H,I,rw',q⟩
  exact subscriptTail_builtinR (x:=w) pl.typeIs slot_tuple_getitem.lookup
    (getItem_tuple (j:=j) (Q:=fun r s'=>r = w ∧ EP X pins σ Q r s') pl (by omega) (by omega) (by rw [List.size_toArray,← hl]; exact h1) (by simpa using ew) ⟨rfl,fin⟩) hs
theorem Rx : IxR X We:=by
  intro value slice pins s σ H x y v u Q I rx ry h hs
  obtain ⟨z,i,c,rfl,rfl,hz,he,q⟩:=h
  obtain ⟨t,rfl⟩:=rx
  obtain ⟨t',rfl⟩:=ry
  obtain ⟨j,h1,h2,h3,h4,h5⟩:=BF he
  have hl : z.cps.toList.length = z.length:=by simp [Str.length]
  rw [hl] at h1 h4 h5
  have hn:=u4
  exact tail_any (typeIs_str s z t) slot_str_getitem.lookup (getItem_str (c:=c) (by
    have e1 : decide (i < -(2 ^ 63 : Int)) = false:=decide_eq_false (by omega)
    have e2 : decide (i ≥ 2 ^ 63) = false:=decide_eq_false (by omega)
    rw [e1,e2,Bool.or_false]) (by rw [h1]; simpa using h2) ⟨.str ⟨#[c]⟩,H,I.tok _,⟨_,rfl⟩,q⟩) hs
def rIx (K : PySem.W.Frag) : R2:=fun x y H Q=>Rw K x y H Q ∨ Wd K x y H Q ∨ We x y H Q
theorem Ry : IxR X (rIx X.K):=cq.or (aY.or Rx)
theorem Gq (its : List Value) (n j : Nat) (u : Value) : Obj.mapSeq (·.setIfInBounds j u) { cls:=.type "list",data:=.seq its.toArray n } = { cls:=.type "list",data:=.seq (its.set j u).toArray n }:=by
  simp [Obj.mapSeq]
theorem Inv.lst {pins : List (Addr × Obj)} {σ : St} {H : Hp} {s : Shared} {p : Addr} {xs : List V} (I : Inv X pins σ H s) (h : H p = some (.lst xs)) :
    ∃ (its : List Value) (n : Nat),Vals xs its ∧ s.heap.get? p = some { cls:=.type "list",data:=.seq its.toArray n } ∧ xs.length ≤ sizeLine:=by
  obtain ⟨z,its,n,r,e⟩:=I.hok p _ h
  exact ⟨its,n,r,e,z⟩
theorem Inv.Rz {pins : List (Addr × Obj)} {σ : St} {H : Hp} {s : Shared} {p : Addr} {xs ys : List V} {its its' : List Value} {n n' : Nat} {f : Obj → Obj} (I : Inv X pins σ H s) (h : H p = some (.lst xs))
    (ho : s.heap.get? p = some { cls:=.type "list",data:=.seq its.toArray n }) (hf : f { cls:=.type "list",data:=.seq its.toArray n } = { cls:=.type "list",data:=.seq its'.toArray n' }) (r : Vals ys its') (hz : ys.length ≤ sizeLine) (t : Nat) :
    Inv X pins σ (upd H p (.lst ys)) { s with heap:=s.heap.update p f,toks:=t }:=by
  have e : (s.heap.update p f).get? p = some { cls:=.type "list",data:=.seq its'.toArray n' }:=by
    rw [Heap.get?_update_self f ho (by rw [hf] <;> rfl),hf]
  refine I.write (x:=p) (e:=p) (by rw [h]; trivial) (.inl rfl) (fun b u hb q=>(Heap.get?_update_other _ _ (Ne.symm hb)).trans q) ⟨_,e⟩ ?_
  exact ⟨hz,its',n',r,e⟩
def Wf : V → V → V → Hp → (Hp → Prop) → Prop:=fun o i v H Q=>∃ p xs k j,o = .ref p ∧ i = .int k ∧ H p = some (.lst xs) ∧ ixN xs.length k = some j ∧ Q (upd H p (.lst (xs.set j v)))
theorem set_list : VW X Wf:=by
  intro pins s σ H o i v ov iv u Q I ro ri rv h
  obtain ⟨p,xs,k,j,rfl,rfl,hp,hj,q⟩:=h
  cases ro
  obtain ⟨t,rfl⟩:=ri
  obtain ⟨its,n,r,ho,hz⟩:=I.lst hp
  obtain ⟨h1,h2,h3,h4⟩:=BE hj
  have hl:=r.length
  have hn:=u4
  have I' : Inv X pins σ (upd H p (.lst (xs.set j v))) { s with heap:=s.heap.update p (Obj.mapSeq (·.setIfInBounds j u)) } :=
    I.Rz hp ho (Gq its n j u) (r.set rv j) (by rw [List.length_set]; exact hz) s.toks
  by_cases h0 : 0 ≤ k
  · have hk : k.toNat = j:=by
      rw [seqIndex_of h0 h4] at h1
      exact Option.some.inj h1
    exact PySem.W.ki_setAt ho h0 (by omega) (by rw [List.size_toArray,← hl]; exact h4) (by rw [hk]; exact ⟨_,I',q⟩)
  · have hk : (k + (its.toArray.size : Int)).toNat = j:=by
      rw [seqIndex_neg (by omega) h3] at h1
      rw [List.size_toArray,← hl]
      exact Option.some.inj h1
    exact PySem.W.ki_setBack ho (by omega) (by rw [List.size_toArray,← hl]; exact h3) (by omega) (by rw [hk]; exact ⟨_,I',q⟩)
theorem BG (lo hi : Option Int) (n : Nat) : (sliceBounds lo hi none n).1 = ((HT.sIx n 0 lo : Nat) : Int) ∧ (sliceBounds lo hi none n).2.1 = ((HT.sIx n n hi : Nat) : Int) ∧ (sliceBounds lo hi none n).2.2 = 1:=by
  refine ⟨?_,?_,rfl⟩
  · cases lo with
    | none=>simp [sliceBounds,HT.sIx]
    | some i =>
      simp only [sliceBounds,HT.sIx,Option.getD_none,show (1 : Int) > 0 by decide,if_true]
      by_cases h : i < 0
      · simp only [h,if_true] <;> omega
      · simp only [h,if_false] <;> omega
  · cases hi with
    | none=>simp [sliceBounds,HT.sIx]
    | some i =>
      simp only [sliceBounds,HT.sIx,Option.getD_none,show (1 : Int) > 0 by decide,if_true]
      by_cases h : i < 0
      · simp only [h,if_true] <;> omega
      · simp only [h,if_false] <;> omega
theorem Ad (its : List Value) (lo hi : Option Int) : slicePick its.toArray lo hi none = ((its.drop (HT.sIx its.length 0 lo)).take (HT.sIx its.length its.length hi - HT.sIx its.length 0 lo)).toArray:=by
  obtain ⟨h1,h2,h3⟩:=BG lo hi its.toArray.size
  unfold slicePick
  rw [h1,h2,h3]
  simp only [sliceRange_one,pick_run,List.size_toArray] <;> rfl
def abX (K : PySem.W.Frag) : V → Option Int → Option Int → Hp → VK → Prop:=fun x lo hi H Q=>∃ a xs,x = .ref a ∧ SqL K H a xs ∧ ∀ p,H p = none → Q (.ref p) (upd H p (.lst (iR xs lo hi)))
theorem yh : SlR X (abX X.K):=by
  intro pins s σ H x v vl vu lo hi sl Q I rx hs pl pu h
  obtain ⟨a,xs,rfl,hx,q⟩:=h
  cases rx
  obtain ⟨its,r,ht,hz⟩:=I.list hx
  have hlen:=r.length
  refine ⟨"list",_,slot_list_getitem.lookup,ht.isList.typeIs,?_⟩
  refine wpAny_getItem_list_slice ht.isList hs pl pu .none (by simp) ?_ (by rw [List.size_toArray] <;> omega)
  rw [Ad,← hlen]
  refine ⟨.ref s.heap.objs.size,_,I.laid (t':=s.toks) (o:=.lst (iR xs lo hi)) (fun b ob q=>Heap.get?_push_of_some _ q) (Nat.le_refl _) ?_,rfl,q _ (I.hok.fresh (Nat.le_refl _))⟩
  exact ⟨Nat.le_trans (qy xs lo hi) hz,_,0,(r.drop (HT.sIx xs.length 0 lo)).take (HT.sIx xs.length xs.length hi - HT.sIx xs.length 0 lo),Heap.get?_push_size _ rfl⟩
def we : V → Bool
  | .non=>true
  | .bl _=>true
  | .int _=>true
  | .str _=>true
  | _=>false
def eqV : V → V → Bool
  | .non,.non=>true
  | .bl a,.bl b=>a == b
  | .bl a,.int b=>(if a then 1 else 0) == b
  | .int a,.bl b=>a == (if b then 1 else 0)
  | .int a,.int b=>a == b
  | .str a,.str b=>a == b
  | _,_=>false
theorem RA {A : Around} {s : Shared} {y x : V} {u v : Value} (ry : RelV y u) (rx : RelV x v) (fy : we y = true) (fx : we x = true) : SeqAt.EqAt A s u v (eqV y x):=by
  cases y with
  | non =>
    cases ry
    cases x with
    | non=>cases rx; exact SeqAt.EqAt.same _
    | bl b=>cases rx; exact SeqAt.EqAt.none_bool b
    | int b=>obtain ⟨t,rfl⟩:=rx; exact SeqAt.EqAt.none_int b t
    | str b=>obtain ⟨t,rfl⟩:=rx; exact SeqAt.EqAt.none_str b t
    | _=>exact absurd (show false = true from fx) Bool.false_ne_true
  | bl a =>
    cases ry
    cases x with
    | non=>cases rx; exact SeqAt.EqAt.bool_none a
    | bl b=>cases rx; exact SeqAt.EqAt.bool_bool a b
    | int b=>obtain ⟨t,rfl⟩:=rx; exact SeqAt.EqAt.bool_int a b t
    | str b=>obtain ⟨t,rfl⟩:=rx; exact SeqAt.EqAt.bool_str a b t
    | _=>exact absurd (show false = true from fx) Bool.false_ne_true
  | int a =>
    obtain ⟨t',rfl⟩:=ry
    cases x with
    | non=>cases rx; exact SeqAt.EqAt.int_none a t'
    | bl b=>cases rx; exact SeqAt.EqAt.int_bool a t' b
    | int b=>obtain ⟨t,rfl⟩:=rx; exact SeqAt.EqAt.int_int a t' b t
    | str b=>obtain ⟨t,rfl⟩:=rx; exact SeqAt.EqAt.int_str a t' b t
    | _=>exact absurd (show false = true from fx) Bool.false_ne_true
  | str a =>
    obtain ⟨t',rfl⟩:=ry
    cases x with
    | non=>cases rx; exact SeqAt.EqAt.str_none a t'
    | bl b=>cases rx; exact SeqAt.EqAt.str_bool a t' b
    | int b=>obtain ⟨t,rfl⟩:=rx; exact SeqAt.EqAt.str_int a t' b t
    | str b=>obtain ⟨t,rfl⟩:=rx; exact SeqAt.EqAt.str_str a t' b t
    | _=>exact absurd (show false = true from fx) Bool.false_ne_true
  | _=>exact absurd (show false = true from fy) Bool.false_ne_true
def eqU (x : V) (u : Value) : Bool:=match u with
  | .none=>eqV .non x
  | .bool b=>eqV (.bl b) x
  | .int i _=>eqV (.int i) x
  | .str z _=>eqV (.str z) x
  | _=>false
theorem LA {x y : V} {u : Value} (r : RelV y u) (f : we y = true) : eqU x u = eqV y x:=by
  cases y with
  | non=>cases r; rfl
  | bl b=>cases r; rfl
  | int i=>obtain ⟨t,rfl⟩:=r; rfl
  | str z=>obtain ⟨t,rfl⟩:=r; rfl
  | _=>exact absurd (show false = true from f) Bool.false_ne_true
theorem t5 {x : V} : ∀ {xs : List V} {us : List Value},Vals xs us → xs.all we = true → us.any (eqU x) = xs.any fun y=>eqV y x
  | _,_,.nil,_=>rfl
  | y :: xs,u :: us,.cons r t,f=>by
    rw [List.all_cons,Bool.and_eq_true] at f
    rw [List.any_cons,List.any_cons,LA r f.1,t5 t f.2]
theorem qz {A : Around} {s : Shared} {x : V} {v : Value} (rx : RelV x v) (fx : we x = true) : ∀ {xs : List V} {us : List Value},Vals xs us → xs.all we = true → ∀ u ∈ us,SeqAt.EqAt A s u v (eqU x u)
  | _,_,.nil,_=>fun u hu=>by cases hu
  | y :: xs,u :: us,.cons r t,f=>fun u' hu=>by
    rw [List.all_cons,Bool.and_eq_true] at f
    rcases List.mem_cons.mp hu with rfl | hu
    · rw [LA r f.1]; exact RA r rx f.1 fx
    · exact qz rx fx t f.2 u' hu
def inV (x : V) (xs : List V) : Bool:=xs.any fun y=>eqV y x
def rIn (K : PySem.W.Frag) (neg : Bool) : R2:=fun x y H Q=>∃ p xs,y = .ref p ∧ (SqL K H p xs ∨ SqT K H p xs) ∧ we x = true ∧ xs.all we = true ∧ Q (.bl (if neg then !inV x xs else inV x xs)) H
theorem JW : OpR X (compareOp .In) (rIn X.K false):=by
  intro pins s σ H x y v u Q I rx ry h
  obtain ⟨p,xs,rfl,hq,fx,fs,q⟩:=h
  cases ry
  rcases hq with hq | hq
  · obtain ⟨its,r,pl,hz⟩:=I.list hq
    refine SeqAt.in_listAt (eqU x) pl.isList (fun w hw=>qz rx fx r fs w (by simpa using hw)) ⟨.bl _,H,I,rfl,?_⟩
    rw [show its.toArray.any (eqU x) = its.any (eqU x) by simp,t5 r fs]
    exact q
  · obtain ⟨its,r,pl,hz⟩:=I.tuple hq
    refine SeqAt.in_tupleAt (eqU x) pl (fun w hw=>qz rx fx r fs w (by simpa using hw)) ⟨.bl _,H,I,rfl,?_⟩
    rw [show its.toArray.any (eqU x) = its.any (eqU x) by simp,t5 r fs]
    exact q
theorem BH : OpR X (compareOp .NotIn) (rIn X.K true):=by
  intro pins s σ H x y v u Q I rx ry h
  obtain ⟨p,xs,rfl,hq,fx,fs,q⟩:=h
  cases ry
  rcases hq with hq | hq
  · obtain ⟨its,r,pl,hz⟩:=I.list hq
    refine SeqAt.notIn_listAt (eqU x) pl.isList (fun w hw=>qz rx fx r fs w (by simpa using hw)) ⟨.bl _,H,I,rfl,?_⟩
    rw [show its.toArray.any (eqU x) = its.any (eqU x) by simp,t5 r fs]
    exact q
  · obtain ⟨its,r,pl,hz⟩:=I.tuple hq
    refine SeqAt.notIn_tupleAt (eqU x) pl (fun w hw=>qz rx fx r fs w (by simpa using hw)) ⟨.bl _,H,I,rfl,?_⟩
    rw [show its.toArray.any (eqU x) = its.any (eqU x) by simp,t5 r fs]
    exact q
theorem t6 : hV X (.builtin "len") (fun xs H Q=>∃ p ys,xs = [.ref p] ∧ (SqL X.K H p ys ∨ SqT X.K H p ys) ∧ Q (.int ys.length) H):=by
  intro pins s σ H xs us Q I r h
  obtain ⟨p,ys,rfl,hq,q⟩:=h
  obtain ⟨u,rfl,rx⟩:=vals1 r
  cases rx
  have hn:=u4
  rcases hq with hq | hq
  · obtain ⟨its,r',pl,hz⟩:=I.list hq
    have hlen:=r'.length
    exact Calls.call_len_list pl.isList (by simp only [List.size_toArray] <;> omega) ⟨.int ys.length,H,I.tok _,⟨s.toks + 1,by rw [List.size_toArray,hlen]⟩,q⟩
  · obtain ⟨its,r',pl,hz⟩:=I.tuple hq
    have hlen:=r'.length
    exact len_tuple pl (by simp only [List.size_toArray] <;> omega) ⟨.int ys.length,H,I.tok _,⟨s.toks + 1,by rw [List.size_toArray,hlen]⟩,q⟩
theorem hV.or {f : Value} {r r' : List V → Hp → VK → Prop} (h : hV X f r) (h' : hV X f r') : hV X f (fun xs H Q=>r xs H Q ∨ r' xs H Q):=by
  intro pins s σ H xs us Q I rs q
  rcases q with q | q
  · exact h pins s σ H xs us Q I rs q
  · exact h' pins s σ H xs us Q I rs q
theorem d7 : hV X (.type "list") (fun xs H Q=>∃ p ys,xs = [.ref p] ∧ (SqL X.K H p ys ∨ SqT X.K H p ys) ∧ ∀ l,H l = none → Q (.ref l) (upd H l (.lst ys))):=by
  intro pins s σ H xs us Q I r h
  obtain ⟨p,ys,rfl,hq,q⟩:=h
  obtain ⟨u,rfl,rx⟩:=vals1 r
  cases rx
  have fin : ∀ (its : List Value),Vals ys its → ys.length ≤ sizeLine → ∀ (h' : Heap) (c' : Nat),(∀ b o',s.heap.get? b = some o' → h'.get? b = some o') →
      h'.get? s.heap.objs.size = some { cls:=.type "list",dict:=none,data:=.seq its.toArray c',slots:=#[] } → EP X pins σ Q (.ref s.heap.objs.size) { s with heap:=h' }:=fun its r' hz h' c' kp e =>
    ⟨.ref s.heap.objs.size,_,I.laid (t':=s.toks) kp (Nat.le_refl _) (show dF X.prog X.w _ h' _ (.lst ys) from ⟨hz,its,c',r',e⟩),rfl,q _ (I.hok.fresh (Nat.le_refl _))⟩
  rcases hq with hq | hq
  · obtain ⟨its,r',pl,hz⟩:=I.list hq
    have hlen:=r'.length
    obtain ⟨o,ho,hc,n,hd⟩:=pl.isList
    exact call_list_seq p (.inl rfl) ho hc hd (fun h' c' kp e=>fin its r' hz h' c' kp e) (by simp only [List.size_toArray] <;> omega)
  · obtain ⟨its,r',pl,hz⟩:=I.tuple hq
    have hlen:=r'.length
    obtain ⟨o,ho,hc,n,hd⟩:=pl
    exact call_list_seq p (.inr rfl) ho hc hd (fun h' c' kp e=>fin its r' hz h' c' kp e) (by simp only [List.size_toArray] <;> omega)
def tyV (K : PySem.W.Frag) (T : String) (x : V) (H : Hp) : Prop:=match x with
  | .str _=>T = "str"
  | .int _=>T = "int"
  | .ref p=>(T = "list" ∧ ∃ xs,SqL K H p xs) ∨ (T = "tuple" ∧ ∃ o,K.lookup p = some o ∧ o.cls = .type "tuple" ∧ o.dict = none) ∨
      (T = "dict" ∧ ((∃ kvs,H p = some (.dK kvs)) ∨ ∃ kvs,H p = some (.dT kvs))) ∨ (T = "set" ∧ ∃ S n,H p = some (.set S n))
  | _=>False
theorem LB {pins : List (Addr × Obj)} {σ : St} {H : Hp} {s : Shared} {T : String} {x : V} {v : Value} (I : Inv X pins σ H s) (r : RelV x v) (ty : tyV X.K T x H) :
    s.TypeIs v T ∧ ∀ a,v = .ref a → ∃ ob,s.heap.get? a = some ob ∧ ob.dict = none:=by
  cases x with
  | str z =>
    obtain ⟨t,rfl⟩:=r
    cases (show T = "str" from ty)
    exact ⟨typeIs_str s z t,fun _ e=>nomatch e⟩
  | int i =>
    obtain ⟨t,rfl⟩:=r
    cases (show T = "int" from ty)
    exact ⟨typeIs_int s i t,fun _ e=>nomatch e⟩
  | ref p =>
    cases r
    rcases ty with ⟨rfl,xs,hq⟩ | ⟨rfl,o,hk,hc,hd⟩ | ⟨rfl,hk⟩ | ⟨rfl,S,n,hk⟩
    · obtain ⟨its,_,pl,_⟩:=I.list hq
      refine ⟨pl.isList.typeIs,fun a e=>?_⟩
      cases e
      obtain ⟨o,n,e,c,hd,_⟩:=pl
      exact ⟨o,e,hd⟩
    · refine ⟨⟨o,I.kIn p o hk,hc⟩,fun a e=>?_⟩
      cases e
      exact ⟨o,I.kIn _ o hk,hd⟩
    · have z : ∃ o,s.heap.get? p = some o ∧ o.ExactDict:=by
        rcases hk with ⟨kvs,hk⟩ | ⟨kvs,hk⟩
        · obtain ⟨_,_,_,_,o,_,_,e,ex,_⟩:=I.hok p _ hk
          exact ⟨o,e,ex⟩
        · obtain ⟨_,_,_,_,o,_,_,e,ex,_⟩:=I.hok p _ hk
          exact ⟨o,e,ex⟩
      obtain ⟨o,e,ex⟩:=z
      refine ⟨⟨o,e,ex.1⟩,fun a e2=>?_⟩
      cases e2
      exact ⟨o,e,ex.2.1⟩
    · obtain ⟨o,_,_,_,e,ex,_⟩:=I.hok p _ hk
      refine ⟨⟨o,e,ex.1⟩,fun a e2=>?_⟩
      cases e2
      exact ⟨o,e,ex.2.1⟩
  | _=>exact False.elim ty
def abY (K : PySem.W.Frag) (T : String) (r : V → List V → Hp → VK → Prop) (to : TE) : TE:=fun σ H Q=>to σ H fun x H1=>tyV K T x H1 ∧ r x [] H1 Q
def tBM (K : PySem.W.Frag) (T : String) (r : V → List V → Hp → VK → Prop) (to : TE) (t : TA) : TE:=fun σ H Q=>to σ H fun x H1=>tyV K T x H1 ∧ t σ H1 fun xs H2=>r x xs H2 Q
variable {o e : Expr} {es : List Expr} {to : TE} {t : TA} {name : Str} {apos gy : Pos} {T id : String} {r : V → List V → Hp → VK → Prop}
theorem LC (pa : PlainAttrs T) (slot : Slot T name id) (hty : typeOf (.builtin id) = pure (.type "method_descriptor")) (hm : MtR X id r) (ho : PE X o to)
    (C1 : attributeBase o name X.env (eval o X.env) = eval o X.env:=by rfl) (LD : (apos.endLine == gy.line) = true:=by rfl) : PE X (.Call (.Attribute o name apos) [] [] gy) (abY X.K T r to):=by
  intro pins s σ H Q I h
  refine wpAny_Call_method0_late C1 LD (thn (ho pins s σ H _ I h) fun v s1 ⟨x,H1,I1,r1,ty,q1⟩=>?_)
  obtain ⟨h1,h2⟩:=LB I1 r1 ty
  exact ⟨T,id,pa,slot,hty,h1,h2,Calls.callWith_builtin rfl (PySem.evalArgs_none (hm pins s1 σ H1 x [] v [] Q I1 r1 .nil q1))⟩
theorem lH (pa : PlainAttrs T) (slot : Slot T name id) (hty : typeOf (.builtin id) = pure (.type "method_descriptor")) (hm : MtR X id r) (ho : PE X o to) (ha : PA X (e :: es) t)
    (C1 : attributeBase o name X.env (eval o X.env) = eval o X.env:=by rfl)
    (abZ : ((backTo gy (starEach (e :: es) X.env)).all (fun x=>!x.1) && (backToKw gy (keywordEach [] X.env)).all (fun x=>x.1.isSome)
      && decide ((e :: es).length + ([] : List Keyword).length + (if ([] : List Keyword).isEmpty then 0 else 1) < 30)) = true:=by rfl)
    (LD : (apos.endLine == gy.line) = true:=by rfl) (hs : starEach (e :: es) X.env = (false,eval e X.env) :: starEach es X.env:=by rfl) (RB : (backTo gy (starEach es X.env)).any (·.1) = false:=by rfl) :
    PE X (.Call (.Attribute o name apos) (e :: es) [] gy) (tBM X.K T r to t):=by
  intro pins s σ H Q I h
  refine wpAny_Call_method_late C1 abZ LD rfl (thn (ho pins s σ H _ I h) fun v s1 ⟨x,H1,I1,r1,ty,q1⟩=>?_)
  obtain ⟨h1,h2⟩:=LB I1 r1 ty
  refine ⟨T,id,pa,slot,hty,h1,h2,?_⟩
  have hA:=ha gy pins s1 σ H1 _ I1 q1
  rw [hs] at hA ⊢
  refine Calls.callWith_builtin (by show (false || (backTo gy (starEach es X.env)).any (·.1)) = false; rw [RB] <;> rfl) (Calls.evalArgs_plain ?_)
  exact thn hA fun us s2 ⟨vs,H2,I2,r2,q2⟩=>hm pins s2 σ H2 x vs v us Q I2 r1 r2 q2
end
end L2
namespace L2
open PySem PySem.Spec PyProof.Rows
def MtM (X : Cx) (id : String) (r : V → List V → Hp → VK → Prop) : Prop :=
  ∀ (pins : List (Addr × Obj)) (s : Shared) (σ : St) (H : Hp) (x : V) (xs : List V) (v : Value) (us : List Value) (Q : VK),Inv X pins σ H s → RelV x v → Vals xs us → r x xs H Q →
    wpAny (model X.prog X.w) X.A (call (.builtin id) (v :: us)) (EP X pins σ Q) X.xe s
theorem Vals.one : ∀ {x : V} {us : List Value},Vals [x] us → ∃ u,us = [u] ∧ RelV x u
  | _,_,.cons r .nil=>⟨_,rfl,r⟩
theorem Vals.two : ∀ {x y : V} {us : List Value},Vals [x,y] us → ∃ u v,us = [u,v] ∧ RelV x u ∧ RelV y v
  | _,_,_,.cons r (.cons q .nil)=>⟨_,_,rfl,r,q⟩
theorem Vals.zero : ∀ {us : List Value},Vals [] us → us = []
  | _,.nil=>rfl
theorem Vals.dropLast {xs : List V} {us : List Value} (h : Vals xs us) : Vals xs.dropLast us.dropLast:=by
  induction h with
  | nil=>exact .nil
  | cons r t ih =>
    cases t with
    | nil=>exact .nil
    | cons q t'=>exact .cons r ih
theorem Vals.eraseIdx : ∀ {xs : List V} {us : List Value} (i : Nat),Vals xs us → Vals (xs.eraseIdx i) (us.eraseIdx i)
  | _,_,_,.nil=>.nil
  | _,_,0,.cons _ t=>t
  | _,_,i + 1,.cons r t=>.cons r (Vals.eraseIdx i t)
theorem Vals.rep {xs : List V} {us : List Value} (h : Vals xs us) : ∀ k : Nat,Vals (List.replicate k xs).flatten (List.replicate k us).flatten
  | 0=>.nil
  | k + 1=>by
    rw [List.replicate_succ,List.replicate_succ,List.flatten_cons,List.flatten_cons]
    exact Vals.append h (Vals.rep h k)
theorem Gr {α : Type} (l : List α) : l.eraseIdx (l.length - 1) = l.dropLast:=by
  induction l with
  | nil=>rfl
  | cons a r ih =>
    cases r with
    | nil=>rfl
    | cons b r =>
      have e : (a :: b :: r).length - 1 = ((b :: r).length - 1) + 1:=by
        have h1 : (a :: b :: r).length = r.length + 2:=rfl
        have h2 : (b :: r).length = r.length + 1:=rfl
        omega
      rw [e,List.eraseIdx_cons_succ,ih]
      all_goals rfl
theorem AN {α : Type} : ∀ (l : List α) (i : Nat),(l.eraseIdx i).length ≤ l.length
  | [],_=>Nat.le_refl _
  | _ :: _,0=>Nat.le_succ _
  | _ :: r,i + 1=>Nat.succ_le_succ (AN r i)
section
variable {X : Cx} {pins : List (Addr × Obj)} {σ : St} {H : Hp} {s : Shared} {l b : Addr} {xs ys zs : List V}
theorem Inv.JX {its its' : List Value} {n : Nat} {f : Array Value → Array Value} {t' : Nat} (I : Inv X pins σ H s) (hH : H l = some (.lst xs))
    (e : s.heap.get? l = some { cls:=.type "list",data:=.seq its.toArray n }) (hf : f its.toArray = its'.toArray) (hv : Vals ys its') (hz : ys.length ≤ sizeLine) :
    Inv X pins σ (upd H l (.lst ys)) { s with heap:=s.heap.update l (Obj.mapSeq f),toks:=t' }:=by
  have q:=PySem.IsL.update e f
  rw [hf] at q
  refine I.write (x:=l) (e:=l) (by rw [hH]; exact trivial) (.inl rfl) (fun b' u hb hu=>(Heap.get?_update_other s.heap (Obj.mapSeq f) (Ne.symm hb)).trans hu) ⟨_,q⟩ ?_
  exact ⟨hz,its',_,hv,q⟩
theorem Inv.Wg {its : List Value} {t' : Nat} (I : Inv X pins σ H s) (hv : Vals ys its) (hz : ys.length ≤ sizeLine) :
    Inv X pins σ (upd H s.heap.objs.size (.lst ys)) { s with heap:=s.heap.push { cls:=.type "list",data:=.seq its.toArray },toks:=t' } :=
  I.laid (fun _ _ q=>Heap.get?_push_of_some _ q) (Nat.le_refl _) ⟨hz,its,0,hv,Heap.get?_push_size _ rfl⟩
theorem Inv.fresh (I : Inv X pins σ H s) : H s.heap.objs.size = none:=I.hok.fresh (Nat.le_refl _)
theorem Inv.BI (I : Inv X pins σ H s) (hH : H l = some (.lst xs)) : xs.length ≤ sizeLine ∧ ∃ (its : List Value) (n : Nat),Vals xs its ∧ xs.length = its.length ∧ s.heap.get? l = some { cls:=.type "list",data:=.seq its.toArray n }:=by
  obtain ⟨z,its,n,r,e⟩:=I.hok l _ hH
  exact ⟨z,its,n,r,r.length,e⟩
theorem LF {n : Nat} (h : n ≤ sizeLine) : Builtin.List.listTooLong n = false:=by
  unfold Builtin.List.listTooLong
  exact decide_eq_false (by omega)
end
section
variable {X : Cx}
def Ol : V → List V → Hp → VK → Prop:=fun x vs H Q=>∃ l xs y,x = .ref l ∧ vs = [y] ∧ H l = some (.lst xs) ∧ xs.length < sizeLine ∧ Q .non (upd H l (.lst (xs ++ [y])))
theorem gR : MtM X "list.append" Ol:=by
  intro pins s σ H x vs v us Q I rx rv h
  obtain ⟨l,xs,y,rfl,rfl,hH,hz,q⟩:=h
  cases rx
  obtain ⟨u,rfl,ru⟩:=rv.one
  obtain ⟨z,its,n,r,hl,e⟩:=I.BI hH
  refine call_meets F.slot_list_append ⟨_,e,rfl⟩ F.entry_list_append (F.args_list_append_2 _ _) (PySem.list_append l its.toArray n u (by rw [List.size_toArray]; omega)) ⟨e,?_⟩
  refine ⟨.non,_,I.JX (its':=its ++ [u]) hH e (by simp) (r.append (.cons ru .nil)) ?_,rfl,q⟩
  rw [List.length_append,List.length_singleton]
  omega
def Om : V → List V → Hp → VK → Prop:=fun x vs H Q=>∃ l b xs zs,x = .ref l ∧ vs = [.ref b] ∧ H l = some (.lst xs) ∧ H b = some (.lst zs) ∧ xs.length + zs.length ≤ sizeLine ∧ Q .non (upd H l (.lst (xs ++ zs)))
theorem AO : MtM X "list.extend" Om:=by
  intro pins s σ H x vs v us Q I rx rv h
  obtain ⟨l,b,xs,zs,rfl,rfl,hH,hB,hz,q⟩:=h
  cases rx
  obtain ⟨u,rfl,ru⟩:=rv.one
  cases ru
  obtain ⟨z,its,n,r,hl,e⟩:=I.BI hH
  obtain ⟨z2,Gs,n2,r2,hl2,e2⟩:=I.BI hB
  have hsz : its.toArray.size + Gs.toArray.size ≤ sizeLine:=by rw [List.size_toArray,List.size_toArray]; omega
  have Wh : ¬ (!its.toArray.isEmpty && Builtin.List.listTooLong (its.toArray.size + Gs.toArray.size)) = true:=by
    rw [LF hsz,Bool.and_false]
    exact Bool.false_ne_true
  refine call_meets F.slot_list_extend ⟨_,e,rfl⟩ F.entry_list_extend (F.args_list_extend_2 _ _)
    (AutoSeq1.list_extend_list_list_0 l its.toArray n b Gs.toArray n2 Wh (by rw [List.size_toArray]; omega) (by omega)) ⟨e,e2,?_⟩
  refine ⟨.non,_,I.JX (its':=its ++ Gs) hH e (by simp) (r.append r2) ?_,rfl,q⟩
  rw [List.length_append]
  omega
def ab0 : V → List V → Hp → VK → Prop:=fun x vs H Q=>∃ l xs y,x = .ref l ∧ vs = [] ∧ H l = some (.lst xs) ∧ xs[xs.length - 1]? = some y ∧ Q y (upd H l (.lst xs.dropLast))
theorem RC : MtM X "list.pop" ab0:=by
  intro pins s σ H x vs v us Q I rx rv h
  obtain ⟨l,xs,y,rfl,rfl,hH,hy,q⟩:=h
  cases rx
  have hus:=rv.zero
  subst hus
  obtain ⟨z,its,n,r,hl,e⟩:=I.BI hH
  obtain ⟨u,hu,ru⟩:=r.get hy
  have hy' : its.toArray[its.toArray.size - 1]? = some u:=by
    show its.toArray[its.length - 1]? = some u
    rw [← Array.getElem?_toList,← hl]
    exact hu
  refine call_meets F.slot_list_pop ⟨_,e,rfl⟩ F.entry_list_pop (F.args_list_pop_1 _) (MeetsSeq.list_pop_last l its.toArray n u hy' (by rw [List.size_toArray]; omega)) ⟨e,?_⟩
  refine ⟨y,_,I.JX (its':=its.dropLast) hH e ?_ r.dropLast ?_,ru,q⟩
  · show its.toArray.eraseIdxIfInBounds (its.toArray.size - 1) = its.dropLast.toArray
    rw [List.size_toArray,List.eraseIdxIfInBounds_toArray,Gr]
  · rw [List.length_dropLast]
    omega
def RD : V → List V → Hp → VK → Prop:=fun x vs H Q=>∃ l xs i k y,x = .ref l ∧ vs = [.int i] ∧ H l = some (.lst xs) ∧ -(2 ^ 63) ≤ i ∧ i < 2 ^ 63 ∧ seqIndex? i xs.length = some k ∧ xs[k]? = some y ∧ Q y (upd H l (.lst (xs.eraseIdx k)))
theorem LG : MtM X "list.pop" RD:=by
  intro pins s σ H x vs v us Q I rx rv h
  obtain ⟨l,xs,i,k,y,rfl,rfl,hH,h1,h2,hk,hy,q⟩:=h
  cases rx
  obtain ⟨u,rfl,ru⟩:=rv.one
  obtain ⟨t,rfl⟩:=ru
  obtain ⟨z,its,n,r,hl,e⟩:=I.BI hH
  obtain ⟨w,hw,rw'⟩:=r.get hy
  refine call_meets F.slot_list_pop ⟨_,e,rfl⟩ F.entry_list_pop (F.args_list_pop_2 _ _)
    (MeetsSeq.list_pop_at l its.toArray n i t k w (fitsIndex_both h1 h2) (by rw [List.size_toArray,← hl]; exact hk) (by rw [← Array.getElem?_toList]; exact hw) (by rw [List.size_toArray]; omega)) ⟨e,?_⟩
  refine ⟨y,_,I.JX (its':=its.eraseIdx k) hH e ?_ (r.eraseIdx k) ?_,rw',q⟩
  · show its.toArray.eraseIdxIfInBounds k = (its.eraseIdx k).toArray
    rw [List.eraseIdxIfInBounds_toArray]
  · have:=AN xs k
    omega
def RE : V → List V → Hp → VK → Prop:=fun x vs H Q=>∃ l xs,x = .ref l ∧ vs = [] ∧ H l = some (.lst xs) ∧ Q .non (upd H l (.lst []))
theorem LH : MtM X "list.clear" RE:=by
  intro pins s σ H x vs v us Q I rx rv h
  obtain ⟨l,xs,rfl,rfl,hH,q⟩:=h
  cases rx
  have hus:=rv.zero
  subst hus
  obtain ⟨z,its,n,r,hl,e⟩:=I.BI hH
  refine call_meets F.slot_list_clear ⟨_,e,rfl⟩ F.entry_list_clear (F.args_list_clear_1 _) (AutoSeq1.list_clear_list_0 l its.toArray n (by rw [List.size_toArray]; omega)) ⟨e,?_⟩
  exact ⟨.non,_,I.JX (its':=[]) (ys:=[]) hH e rfl .nil (Nat.zero_le _),rfl,q⟩
def ab1 : R2:=fun x y H Q=>∃ l b xs zs,x = .ref l ∧ y = .ref b ∧ H l = some (.lst xs) ∧ H b = some (.lst zs) ∧ xs.length + zs.length ≤ sizeLine ∧ ∀ p,H p = none → Q (.ref p) (upd H p (.lst (xs ++ zs)))
theorem RF : OpR X (binaryOp .Add) ab1:=by
  intro pins s σ H x y v u Q I rx ry h
  obtain ⟨l,b,xs,zs,rfl,rfl,hH,hB,hz,q⟩:=h
  cases rx
  cases ry
  obtain ⟨z,its,n,r,hl,e⟩:=I.BI hH
  obtain ⟨z2,Gs,n2,r2,hl2,e2⟩:=I.BI hB
  refine PySem.P.add_list e e2 ?_ (by rw [List.size_toArray,List.size_toArray]; omega)
  have ea : its.toArray ++ Gs.toArray = (its ++ Gs).toArray:=by simp
  rw [ea]
  exact ⟨.ref _,_,I.Wg (t':=s.toks) (r.append r2) (by rw [List.length_append]; omega),rfl,q _ I.fresh⟩
end
end L2
namespace Att
open PySem PySem.W PySem.Calls PyProof.Rows
theorem wQ {P : Params} {h : Heap} : ∀ (ns : List Int) (vs : List Value),WellAll P h vs (ns.map WData.int) → IntsAre vs ns:=by
  intro ns
  induction ns with
  | nil =>
    intro vs w
    rw [List.map_nil] at w
    cases w
    exact .nil
  | cons n ns ih =>
    intro vs w
    rw [List.map_cons] at w
    cases w with
    | cons a b =>
      cases a
      exact .cons _ _ (ih _ b)
theorem JY {l : OpenLaw} {n : Nat} (hn : l.most = some n) {P : Params} {h : Heap} {args : List WData} {vals : List Value}
    (Oo : l.row.toRowW.claim.pre args = true) (hwl : WellAll P h vals args) :
    ∃ a vs ns,vals = [Value.ref a] ∧ args = [WData.list (ns.map WData.int)] ∧ h.get? a = some { cls:=.type "list",data:=.seq vs.toArray } ∧ IntsAre vs ns ∧ ns.length ≤ n:=by
  have hsh : WShape.hasAll [] args [.list .int] = true:=(pre_splitW Oo).1
  have hc : l.pre.holds [] { args:=args } = true:=(pre_splitW Oo).2
  obtain ⟨d,r,rfl,h1,h2⟩:=hasAllW_cons hsh
  obtain rfl:=hasAllW_nil h2
  obtain ⟨xs,rfl,h3⟩:=hasW_list h1
  obtain ⟨ns,rfl⟩:=items_int h3
  have hlen : ns.length ≤ n:=by
    unfold OpenLaw.pre at hc
    have h4 : (WTm.not (.lt (.lit (.int (n : Int))) (.len (.arg 0)))).holds [] { args:=[.list (ns.map .int)] } = true:=by
      have h4:=(holds_andW hc).1
      rw [hn] at h4
      exact h4
    have h5:=condW_of h4 (w_not (w_lt w_lit (w_len_list (w_arg rfl))))
    rw [List.length_map] at h5
    refine Nat.le_of_not_lt fun q=>?_
    have q' : (n : Int) < ((ns.length : Nat) : Int):=by omega
    first
      | (rw [decide_eq_true q'] at h5; exact absurd h5 (by decide))
      | (simp at h5; omega)
  cases hwl with
  | cons w1 w2 =>
    cases w2
    cases w1 with
    | list ho ab2=>exact ⟨_,_,ns,rfl,rfl,ho,wQ ns _ ab2,hlen⟩
theorem JZ (l : OpenLaw) (args : List WData) : l.row.toRowW.claim.post args (.bool true) args = true :=
  postW_of (r:=l.row.toRowW) (X:=(true == true))
    (show WShape.has [] (.bool true) .bool = true by first | rfl | decide | simp [WShape.has,WShape.arms,WShape.armsAll])
    (show (WTm.eq .res (.lit (.bool true))).value [] { args:=args,res:=some (.bool true),after:=args } = some (.bool (true == true)) from w_eq_bool (w_res rfl) w_lit) rfl
theorem C2 {l : OpenLaw} {n : Nat} {q : Program} {loose : List Str} {XP : (Str → Option Value) → Heap → Prop} {YP : World → Heap → Prop} {d : DefRec}
    (hn : l.most = some n) (hdf : d.params.defaults = [])
    (call : ∀ (w : World) (s₀ s₁ : Shared) (mg mb : Str → Option Value) (fa : Addr) (o : Obj) (pm cd doc : Value) (a : Addr) (vs : List Value) (ns : List Int),
      Ground q loose [] XP w s₀ mg mb s₁.heap → YP w s₁.heap →
      s₁.heap.get? fa = some o → o.data = .func (docDef d.name d.params d.body d.scope pm cd doc) → s₁.heap.CodeRec cd d.name → mg d.name = some (.ref fa) →
      s₁.heap.get? a = some { cls:=.type "list",data:=.seq vs.toArray } → IntsAre vs ns → ns.length ≤ n → s₁.gens = #[] →
      codeAny (model l.prog w) callerA (.call (.ref fa) ⟨[.ref a],[]⟩) (fun r s'=>r = .ok (.ret (.bool true)) ∧ OldK s₁.heap s'.heap ∧ s'.os = s₁.os ∧ AllBare s'.gens) s₁) :
    WalkO q loose XP YP l.row.toRowW d [] (fun f vs=>PySem.call f vs):=by
  intro w s₀ s₁ mg mb G Y fa o pm cd doc dV kV ho hd hcd hD hmg hg args vals as Oo adZ hrd hwl hlo
  obtain rfl : dV = .none:=Dflts.none hD hdf
  obtain rfl : kV = .none:=Dflts.noKw hD
  obtain ⟨a,vs,ns,rfl,rfl,RG,hints,hlen⟩:=JY hn Oo hwl
  refine enter_call (codeAny_mono (call w s₀ s₁ mg mb fa o pm cd doc a vs ns G Y ho (fd_plain hd) hcd hmg RG hints hlen hg) fun r s' hq=>?_)
  obtain ⟨rfl,h2,h3,h4⟩:=hq
  exact ⟨.inl ⟨.bool true,.bool true,[],rfl,fun _=>rfl,.bool true,JZ l _,fun _=>⟨List.Pairwise.nil,fun _ hm=>(nomatch hm)⟩⟩,h2,h3,h4⟩
section
variable {prog : Program} {w : World} {A : Around} {E : Value → Shared → Prop} {s : Shared} {K : Frag}
def ledger (h : Heap) (L d : Addr) : List (Addr × Obj):=(List.range h.objs.size).filterMap fun a=>if a = L ∨ a = d then none else (h.get? a).map fun o=>(a,o)
end
end Att
namespace L2
open PySem PySem.Spec PyProof.Rows
theorem AQ : ∀ {vs : List Value} {ns : List Int},IntsAre vs ns → Vals (ns.map V.int) vs
  | _,_,.nil=>.nil
  | _,_,.cons n t h=>.cons ⟨t,rfl⟩ (AQ h)
def RH (H : Hp) : Prop:=∀ b,H b = none ∨ ∃ o xs,H b = some (.frz o (.lst xs))
theorem LI {P : Program} {w : World} {K : PySem.W.Frag} {mg mb : Str → Option Value} {CX : CXT} {k : Nat} {fa a : Addr} {fd : FuncData} {x : Str} {sp : Sp} {s₁ : Shared} {vs : List Value} {ns : List Int}
    (KX : K.In s₁.heap) (hns : s₁.heap.Ns mainGlobals mg) (hb : s₁.heap.Ns builtinsNs mb) (hbb : ∀ x : Str,x ≠ "__name__" → mb x = bootBuiltins x) (ab3 : s₁.heap.NoLimit) (hg : s₁.gens = #[])
    (ha : s₁.heap.get? a = some { cls:=.type "list",data:=.seq vs.toArray }) (hi : IntsAre vs ns) (hl : ns.length ≤ sizeLine) (hr : Room k callerA)
    (F : ∀ base : Heap,K.In base → base.Ns mainGlobals mg → aw P w K mg base CX k fa fd [x] sp) (Wi : ∀ (s : Shared) (u : Value),BindsTo s fd ⟨[u],[]⟩ [(x,u)])
    (hsp : ∀ H : Hp,RH H → SqL K H a (ns.map V.int) → sp [.ref a] H (fun v _=>v = .bl true) fun _ _ _=>False)
    (hCX : ∀ H e s',CX [] H s₁ (fun _ _ _=>False) e s' → False) :
    codeAny (model P w) callerA (.call (.ref fa) ⟨[.ref a],[]⟩) (fun r s'=>r = .ok (.ret (.bool true)) ∧ OldK s₁.heap s'.heap ∧ s'.os = s₁.os ∧ AllBare s'.gens) s₁:=by
  have rv:=AQ hi
  have ab4:=hi.length
  have core : ∀ H : Hp,RH H → SqL K H a (ns.map V.int) → HOk P w H s₁.heap → (∀ b,H b ≠ none → b = a) → (H a ≠ none → K.lookup a = none) →
      codeAny (model P w) callerA (.call (.ref fa) ⟨[.ref a],[]⟩) (fun r s'=>r = .ok (.ret (.bool true)) ∧ OldK s₁.heap s'.heap ∧ s'.os = s₁.os ∧ AllBare s'.gens) s₁:=by
    intro H hO hS hok hA hK
    have IS : ∀ {b : Addr} {o : Obj},s₁.heap.get? b = some o → H b = none → (Bu s₁.heap H).get? b = some o:=fun e n=>Li e n
    have noA : ∀ {b : Addr} {o : Obj} {es : Array DictEntry} {ep : Nat},s₁.heap.get? b = some o → o.data = .dict es ep → H b = none:=fun {b o es ep} e d=>by
      cases q : H b with
      | none=>rfl
      | some u =>
        have e' : b = a:=hA b (by rw [q]; simp)
        subst e'
        rw [ha] at e; cases e
        have d' : Data.seq vs.toArray _ = Data.dict es ep:=d
        cases d'
    have nsK : ∀ {b : Addr} {m : Str → Option Value},s₁.heap.Ns b m → (Bu s₁.heap H).Ns b m:=fun {b m} ⟨o,es,ep,e,d,r⟩=>⟨o,es,ep,IS e (noA e d),d,r⟩
    have hKb : K.In (Bu s₁.heap H):=fun b o e=>IS (KX b o e) (by
      cases q : H b with
      | none=>rfl
      | some u =>
        have e' : b = a:=hA b (by rw [q]; simp)
        subst e'
        rw [hK (by rw [q]; simp)] at e; cases e)
    have hM : Mod K mg (Bu s₁.heap H):=⟨hKb,nsK hns,⟨mb,nsK hb,hbb⟩,let ⟨mc,h1,h2⟩:=ab3; ⟨mc,nsK h1,h2⟩⟩
    have e0 : Ac P w K mg (Bu s₁.heap H) callerA [] s₁ H:=⟨rfl,hM,fun b o e=>Od e,Nat.le_of_eq (JN _ _),trivial,fun b hb=>absurd (show b ∈ ([] : List Addr) from hb) (by simp),hok,.of_eq hg⟩
    refine codeAny_mono ((F _ hKb (nsK hns)).run callerA [] s₁ H ⟨[.ref a],[]⟩ [.ref a] [.ref a] _ _ hr e0 (Wi s₁ (.ref a)) (.cons rfl .nil) (hsp H hO hS)) fun r s' h=>?_
    cases r with
    | error e=>exact (hCX H e s' h).elim
    | ok fl =>
      cases fl with
      | next=>exact False.elim h
      | brk=>exact False.elim h
      | cont=>exact False.elim h
      | ret u =>
        obtain ⟨v,H',os,bare,un,ab5,r',q⟩:=h
        have q' : v = .bl true:=q
        subst q'
        obtain rfl : u = Value.bool true:=r'
        refine ⟨rfl,OldK.of_keep fun b o e=>?_,os,bare⟩
        cases q : H b with
        | none=>exact un.keep b o e q (by intro z; exact absurd (show b ∈ ([] : List Addr) from z) (by simp)) (by simp)
        | some u =>
          rcases hO b with z | ⟨ob,xs,z⟩
          · rw [q] at z; cases z
          · have z2:=un.sP b ob _ z
            obtain ⟨e1,_⟩:=hok b _ z
            obtain ⟨e2,_⟩:=ab5 b _ z2
            rw [e] at e1; cases e1
            exact e2
  cases hk : K.lookup a with
  | some o =>
    have e:=KX a o hk
    rw [ha] at e
    cases e
    refine core (fun _=>none) (fun _=>.inl rfl) (.inr ⟨_,vs.toArray,_,hk,rfl,rfl,rfl,by rw [List.size_toArray,ab4]; exact hl,by simpa using rv⟩) (fun b u z=>by have z' : (none : Option HO) = some u:=z; cases z') (fun b z=>absurd rfl z) fun z=>absurd rfl z
  | none =>
    refine core (fun b=>if b = a then some (.frz { cls:=.type "list",data:=.seq vs.toArray } (.lst (ns.map V.int))) else none) (fun b=>?_) (.inl (.inr ⟨{ cls:=.type "list",data:=.seq vs.toArray },if_pos rfl⟩)) (fun b u z=>?_) (fun b z=>?_) fun _=>hk
    · by_cases hb : b = a
      · exact .inr ⟨_,_,if_pos hb⟩
      · exact .inl (if_neg hb)
    · by_cases hb : b = a
      · have z':=(if_pos hb).symm.trans z
        cases z'
        subst hb
        exact ⟨ha,by rw [List.length_map]; exact hl,vs,_,rv,ha⟩
      · have z':=(if_neg hb).symm.trans z
        cases z'
    · by_cases hb : b = a
      · exact hb
      · exact absurd (if_neg hb) z
end L2
namespace L2
open PySem PySem.Spec PyProof.Rows
theorem Oq {l : PySem.W.OpenLaw} {n k : Nat} {q : Program} {loose : List Str} {XP : (Str → Option Value) → Heap → Prop} {YP : World → Heap → Prop} {d : DefRec} {K : Params → PySem.W.Frag} {CX : World → CXT} {sp : World → Sp} {x : Str}
    (hn : l.most = some n) (hn2 : n ≤ sizeLine) (hdf : d.params.defaults = []) (hr : Room k callerA)
    (hY : ∀ (w : World) (h : Heap),YP w h → (K w.params).In h)
    (F : ∀ (w : World) (mg : Str → Option Value) (fa : Addr) (h : Heap),(K w.params).In h → h.Ns mainGlobals mg → mg d.name = some (.ref fa) →
      ∃ fd : FuncData,(∀ (s : Shared) (u : Value),BindsTo s fd ⟨[u],[]⟩ [(x,u)]) ∧
        ∀ base : Heap,(K w.params).In base → base.Ns mainGlobals mg → aw l.prog w (K w.params) mg base (CX w) k fa fd [x] (sp w))
    (hsp : ∀ (w : World) (H : Hp) (a : Addr) (ns : List Int),ns.length ≤ n → RH H → SqL (K w.params) H a (ns.map V.int) → sp w [.ref a] H (fun v _=>v = .bl true) fun _ _ _=>False)
    (hCX : ∀ (w : World) (H : Hp) (s : Shared) (e : Value) (s' : Shared),CX w [] H s (fun _ _ _=>False) e s' → False) :
    PySem.W.WalkO q loose XP YP l.row.toRowW d [] (fun f vs=>PySem.call f vs):=by
  refine Att.C2 hn hdf fun w s₀ s₁ mg mb fa o pm cd doc a vs ns G Y ho hd hcd hmg RG hints hlen hg=>?_
  have KX:=hY w _ Y
  obtain ⟨fd,hb,hF⟩:=F w mg fa _ KX G.T.g hmg
  exact LI KX G.T.g G.T.b G.T.builtins G.T.nolimit hg RG hints (Nat.le_trans hlen hn2) hr hF hb (fun H hO hS=>hsp w H a ns hlen hO hS) fun H e s'=>hCX w H s₁ e s'
end L2
namespace L2
open PySem PySem.Spec PyProof.Rows
def inClass (s : Stmt) (j : Nat) : Stmt:=match s with
  | .ClassDef _ _ _ body _ _ _ _ _ _ _=>body.getD j (.Pass ⟨0,0,0,0⟩)
  | _=>.Pass ⟨0,0,0,0⟩
def az (s : Stmt) : Arguments:=match s with
  | .FunctionDef _ a _ _ _ _ _ _ _ _=>a
  | _=>{ posonlyargs:=[],args:=[],vararg:=none,kwonlyargs:=[],kw_defaults:=[],kwarg:=none,defaults:=[] }
def ax (s : Stmt) : List Stmt:=match s with
  | .FunctionDef _ _ b _ _ _ _ _ _ _=>b
  | _=>[]
def af (s : Stmt) : Scope:=match s with
  | .FunctionDef _ _ _ _ _ _ sc _ _ _=>sc
  | _=>{ kind:=.function,names:=[],isGenerator:=false,isCoroutine:=false }
abbrev CX0 : CXT:=fun _ _ _ _ _ _=>False
abbrev E0 : XK:=fun _ _ _=>False
theorem bh {X : Cx} : Passes CX0 X E0:=fun _ _ _ _ _ _ _ h=>h.elim
structure Fun (K : PySem.W.Frag) (x qual : Str) (st : Stmt) (f : Addr) (fd : FuncData) : Prop where
  ex : ∃ (oc : Value) (od : Option Addr) (kV doc pm : Value) (an : Option Addr) (cdv ct : Value) (osl : Array (Option Value)),
    fd = PySem.W.fnOf x qual (az st) (ax st) (af st) .none kV doc pm an cdv ct ∧ K.lookup f = some ⟨oc,od,.func fd,osl⟩ ∧ PySem.W.codeIn K cdv qual = true
  kp : PySem.W.keepIn K (.ref f) = true
section
variable {P : Program} {w : World} {K : PySem.W.Frag} {mg : Str → Option Value} {base : Heap}
theorem Fun.ok {x qual : Str} {st : Stmt} {f : Addr} {fd : FuncData} {N ps : List Str} {k : Nat} {sp : Sp} (F : Fun K x qual st f fd) (S : aB N ps (af st)) (len : ∀ vs H Q E,sp vs H Q E → vs.length = ps.length)
    (CZ : ∀ (cdv : Value) (A : Around) (outer : List Env) (s : Shared) (H : Hp) (vs : List V) (Q : VK) (E : XK),Room k (A.deeper (envOfC qual (af st) s.heap.objs.size f cdv)) → sp vs H Q E →
      ∃ t,PSs (tY CX0 P w K mg base N qual (af st) f cdv A outer s H E).nox (ax st) t ∧ t { nx:=fun _ H'=>Q .non H',rt:=Q } (start N vs) H) : aw P w K mg base CX0 (k + 1) f fd ps sp:=by
  obtain ⟨oc,od,kV,doc,pm,an,cdv,ct,osl,rfl,lk,hcd⟩:=F.ex
  refine PX lk hcd S len fun A outer s H vs Q E hr hsp=>?_
  obtain ⟨t,h,q⟩:=CZ cdv A outer s H vs Q E hr hsp
  exact ⟨t,h.nox,q⟩
theorem Fun.binds {x qual : Str} {st : Stmt} {f : Addr} {fd : FuncData} {ps : List Str} (F : Fun K x qual st f fd)
    (h : ∀ (kV doc pm : Value) (an : Option Addr) (cdv ct : Value) (us : List Value),us.length = ps.length → bindArgs (PySem.W.fnOf x qual (az st) (ax st) (af st) .none kV doc pm an cdv ct) ⟨us,[]⟩ = pure (ps.zip us)) : Binds K fd ps []:=by
  obtain ⟨oc,od,kV,doc,pm,an,cdv,ct,osl,rfl,lk,hcd⟩:=F.ex
  exact .all (h kV doc pm an cdv ct)
theorem aU {x qual : Str} {st : Stmt} {f : Addr} {oc : Value} {od an : Option Addr} {osl : Array (Option Value)} {kV doc pm cdv ct : Value} (l : K.lookup f = some ⟨oc,od,.func (PySem.W.fnOf x qual (az st) (ax st) (af st) .none kV doc pm an cdv ct),osl⟩)
    (c : PySem.W.codeIn K cdv qual = true) (k : PySem.W.keepIn K (.ref f) = true) : Fun K x qual st f (PySem.W.fnOf x qual (az st) (ax st) (af st) .none kV doc pm an cdv ct):=⟨⟨oc,od,kV,doc,pm,an,cdv,ct,osl,rfl,l,c⟩,k⟩
end
section
variable {X : Cx}
theorem pv (i : Nat) {x : Str} {pos : Pos} (hN : X.N[i]? = some x:=by rfl) (hv : Vis X.env.scope x:=by first | exact Or.inl rfl | exact Or.inr (Or.inl rfl) | exact Or.inr (Or.inr rfl)) (hd : (x == ("__debug__" : Str)) = false:=by decide)
    (hcd : (x == ("__classdict__" : Str)) = false:=by decide) : PE X (.Name x pos) (VR i):=Rc hN hv hd hcd
end
theorem eD {A B : Prop} (h : B) : if false = true then A else B:=by
  rw [if_neg Bool.false_ne_true]
  exact h
theorem jO {A B : Prop} (h : A) : if true = true then A else B:=by
  rw [if_pos rfl]
  exact h
theorem n5 {c A B : Prop} [Decidable c] (h1 : c → A) (h2 : ¬ c → B) : if c then A else B:=by
  by_cases h : c
  · rw [if_pos h]
    exact h1 h
  · rw [if_neg h]
    exact h2 h
def bQ (H H' : Hp) : Prop:=∀ b o,H b = some o → H' b = some o
theorem bQ.refl (H : Hp) : bQ H H:=fun _ _ h=>h
theorem bQ.trans {H H1 H2 : Hp} (a : bQ H H1) (b : bQ H1 H2) : bQ H H2:=fun c o h=>b c o (a c o h)
theorem bQ.free {H H' : Hp} (e : bQ H H') {l : Addr} (h : H' l = Option.none) : H l = Option.none:=by
  cases q : H l with
  | none=>rfl
  | some o =>
    rw [e l o q] at h
    cases h
theorem bQ.seq {K : PySem.W.Frag} {H H' : Hp} {a : Addr} {xs : List V} (e : bQ H H') (h : SqL K H a xs) : SqL K H' a xs:=by
  rcases h with (h | ⟨o,h⟩) | h
  · exact .inl (.inl (e _ _ h))
  · exact .inl (.inr ⟨o,e _ _ h⟩)
  · exact .inr h
end L2
set_option maxHeartbeats 4000000
namespace L2
open PySem PySem.Spec PyProof.Rows
theorem Gu : bootBuiltins "len" = some (.builtin "len"):=by decide +kernel
theorem bV : bootBuiltins "isinstance" = some (.builtin "isinstance"):=by decide +kernel
theorem RI : bootBuiltins "max" = some (.builtin "max"):=by decide +kernel
theorem RJ : bootBuiltins "any" = some (.builtin "any"):=by decide +kernel
theorem RK : bootBuiltins "all" = some (.builtin "all"):=by decide +kernel
theorem BJ : bootBuiltins "str" = some (.type "str"):=by decide +kernel
theorem mS : bootBuiltins "list" = some (.type "list"):=by decide +kernel
mutual
def DV (K : PySem.W.Frag) (H : Hp) : PyData → V → Prop
  | .none,x=>x = .non
  | .bool b,x=>x = .bl b
  | .int i,x=>x = .int i
  | .str y,x=>x = .str y
  | .list ds,x=>∃ a xs,x = .ref a ∧ SqL K H a xs ∧ DVs K H ds xs
  | .tuple ds,x=>∃ a xs,x = .ref a ∧ SqT K H a xs ∧ DVs K H ds xs
  | .dict _,_=>False
def DVs (K : PySem.W.Frag) (H : Hp) : List PyData → List V → Prop
  | [],xs=>xs = []
  | d :: ds,xs=>∃ x r,xs = x :: r ∧ DV K H d x ∧ DVs K H ds r
end
section
variable {X : Cx} {pins : List (Addr × Obj)} {σ : St} {H : Hp} {s : Shared}
mutual
theorem DV.reads (I : Inv X pins σ H s) : ∀ (d : PyData) {x : V} {u : Value},DV X.K H d x → RelV x u → ∃ as,Reads s.heap u d as
  | .none,_,_,h,r=>by
    have h':=h; unfold DV at h'; subst h'; cases r; exact ⟨_,.none⟩
  | .bool b,_,_,h,r=>by
    have h':=h; unfold DV at h'; subst h'; cases r; exact ⟨_,.bool b⟩
  | .int i,_,_,h,r=>by
    have h':=h; unfold DV at h'; subst h'; obtain ⟨t,rfl⟩:=r; exact ⟨_,.int i t⟩
  | .str y,_,_,h,r=>by
    have h':=h; unfold DV at h'; subst h'; obtain ⟨t,rfl⟩:=r; exact ⟨_,.str y t⟩
  | .list ds,_,_,h,r=>by
    have h':=h; unfold DV at h'
    obtain ⟨a,xs,rfl,hq,hs⟩:=h'
    cases r
    obtain ⟨its,rv,⟨o,n,e,c,_,dt⟩,_⟩:=I.list hq
    obtain ⟨as,q⟩:=DVs.reads I ds hs rv
    exact ⟨_,.list e c dt (by simpa using q)⟩
  | .tuple ds,_,_,h,r=>by
    have h':=h; unfold DV at h'
    obtain ⟨a,xs,rfl,hq,hs⟩:=h'
    cases r
    obtain ⟨its,rv,⟨o,e,c,n,dt⟩,_⟩:=I.tuple hq
    obtain ⟨as,q⟩:=DVs.reads I ds hs rv
    exact ⟨_,.tuple e c dt (by simpa using q)⟩
  | .dict _,_,_,h,_=>by
    have h':=h; unfold DV at h'; exact h'.elim
theorem DVs.reads (I : Inv X pins σ H s) : ∀ (ds : List PyData) {xs : List V} {us : List Value},DVs X.K H ds xs → Vals xs us → ∃ as,ReadsAll s.heap us ds as
  | [],_,_,h,r=>by
    have h':=h; unfold DVs at h'; subst h'; cases r; exact ⟨_,.nil⟩
  | d :: ds,_,_,h,r=>by
    have h':=h; unfold DVs at h'
    obtain ⟨x,q,rfl,h1,h2⟩:=h'
    cases r with
    | cons r1 r2 =>
      obtain ⟨as,e1⟩:=DV.reads I d h1 r1
      obtain ⟨bs,e2⟩:=DVs.reads I ds h2 r2
      exact ⟨_,.cons e1 e2⟩
end
def Wj (K : PySem.W.Frag) : R2:=fun x y H Q=>∃ d e,DV K H d x ∧ DV K H e y ∧ SeqAt.shaped d = true ∧ SeqAt.shaped e = true ∧ Q (.bl (PyData.eqv d e)) H
def ab6 (K : PySem.W.Frag) : R2:=fun x y H Q=>∃ d e,DV K H d x ∧ DV K H e y ∧ SeqAt.shaped d = true ∧ SeqAt.shaped e = true ∧ Q (.bl (!PyData.eqv d e)) H
theorem Gv (hu : X.A.units + 64 < cLine) : OpR X (compareOp .Eq) (Wj X.K):=by
  intro pins s σ H x y v u Q I rx ry h
  obtain ⟨d,e,hd,he,sd,se,q⟩:=h
  obtain ⟨as,r1⟩:=DV.reads I d hd rx
  obtain ⟨bs,r2⟩:=DV.reads I e he ry
  exact eq_dataH r1 r2 sd se hu ⟨.bl _,H,I,rfl,q⟩
theorem Gw (hu : X.A.units + 64 < cLine) : OpR X (compareOp .NotEq) (ab6 X.K):=by
  intro pins s σ H x y v u Q I rx ry h
  obtain ⟨d,e,hd,he,sd,se,q⟩:=h
  obtain ⟨as,r1⟩:=DV.reads I d hd rx
  obtain ⟨bs,r2⟩:=DV.reads I e he ry
  exact ne_dataH r1 r2 sd se hu ⟨.bl _,H,I,rfl,q⟩
end
theorem C3 (K : PySem.W.Frag) (H : Hp) : ∀ ws : List Str,DVs K H (ws.map PyData.str) (ws.map V.str)
  | []=>by unfold DVs; rfl
  | w :: ws=>by
    show DVs K H (PyData.str w :: ws.map PyData.str) _
    unfold DVs
    exact ⟨_,_,rfl,by unfold DV; rfl,C3 K H ws⟩
theorem IT {K : PySem.W.Frag} {H : Hp} {a : Addr} {ws : List Str} (h : SqL K H a (ws.map V.str)) : DV K H (.list (ws.map PyData.str)) (.ref a):=by
  unfold DV
  exact ⟨a,_,rfl,h,C3 K H ws⟩
theorem wg : ∀ ws : List Str,(∀ w ∈ ws,PyData.strOk w = true) → PyData.canLayAll0 (ws.map PyData.str) = true
  | [],_=>by simp [PyData.canLayAll0]
  | w :: ws,h=>by
    simp only [List.map_cons,PyData.canLayAll0,PyData.canLay0,Bool.and_eq_true]
    exact ⟨h w List.mem_cons_self,wg ws fun v hv=>h v (List.mem_cons_of_mem _ hv)⟩
theorem yC : ∀ ws : List Str,PyData.depthAll (ws.map PyData.str) ≤ 1
  | []=>by simp [PyData.depthAll]
  | w :: ws=>by
    have:=yC ws
    simp only [List.map_cons,PyData.depthAll,PyData.depth]
    omega
theorem yD : ∀ {ys : List Str} {us : List Value},Vals (ys.map V.str) us → StrsAre us ys
  | [],_,.nil=>.nil
  | y :: ys,_,.cons r t=>by
    obtain ⟨tk,rfl⟩:=r
    exact .cons y tk (yD t)
theorem qA : ∀ l : List (Str × Tok),Vals ((l.map (·.1)).map V.str) (strValues l)
  | []=>.nil
  | p :: l=>.cons ⟨p.2,rfl⟩ (qA l)
section
variable {X : Cx}
def rJoin (K : PySem.W.Frag) : V → List V → Hp → VK → Prop:=fun x vs H Q=>∃ sep a ys,x = .str sep ∧ vs = [.ref a] ∧ SqL K H a (ys.map V.str) ∧ (ys.map (·.length)).sum + ys.length * sep.length ≤ 16777216 ∧ Q (.str (Str.join sep ys)) H
theorem IU : MtR X "str.join" (rJoin X.K):=by
  intro pins s σ H x vs v us Q I rx rv h
  obtain ⟨sep,a,ys,rfl,rfl,hq,hz,q⟩:=h
  obtain ⟨t,rfl⟩:=rx
  obtain ⟨u,rfl,ru⟩:=rv.one
  cases ru
  obtain ⟨its,r,pl,_⟩:=I.list hq
  refine join_list pl.isList (yD (by simpa using r)) hz fun t' k=>?_
  rw [show Txt.join sep ys = Str.join sep ys from StrLaws.glued_eq_join sep ys]
  exact ⟨.str _,H,I.tok _,⟨_,rfl⟩,q⟩
def RL : V → List V → Hp → VK → Prop:=fun x vs H Q=>∃ z y,x = .str z ∧ vs = [.str y] ∧ (y.length == 0) = false ∧ z.length + 2 ≤ sizeLine ∧ ∀ p,H p = none → Q (.ref p) (upd H p (.lst ((Txt.split z y).map V.str)))
theorem LJ : MtR X "str.split" RL:=by
  intro pins s σ H x vs v us Q I rx rv h
  obtain ⟨x,y,rfl,rfl,hy,hsz,q⟩:=h
  obtain ⟨t,rfl⟩:=rx
  obtain ⟨_,rfl,u,rfl⟩:=rv.one
  have hn : (Builtin.Str.partsBetween x (Builtin.Str.occurrences x y 0 x.length (x.length + 1)) y.length).length ≤ sizeLine:=by
    have e1:=StrLaws.occ_length_le x y 0 x.length (x.length + 1)
    rw [length_partsBetween]; omega
  have fin : ∀ (l : List (Str × Tok)) (tk : Nat),l.map (·.1) = Txt.split x y → (Txt.split x y).length ≤ sizeLine →
      EP X pins σ Q (.ref s.heap.objs.size) { s with heap:=s.heap.push { cls:=.type "list",data:=.seq (strValues l).toArray },toks:=tk }:=fun l tk e hz=>by
    refine ⟨.ref _,_,I.Wg (t':=tk) (ys:=(Txt.split x y).map V.str) (by rw [← e]; exact qA l) (by rw [List.length_map]; exact hz),rfl,q _ I.fresh⟩
  have Wk : 1 ≤ sizeLine:=by omega
  cases h1 : (decide (x.length < y.length) || decide (Builtin.Str.strKind x < Builtin.Str.strKind y))
  · cases hf : (Builtin.Str.occurrences x y 0 x.length (x.length + 1)).isEmpty
    · refine call_meets F.slot_str_split (typeIs_str _ _ _) F.entry_str_split (F.args_str_split_2 _ _) (meets_str_split_sep x y t u h1 hy hf (by omega) hn) ?_
      have e : Txt.split x y = Builtin.Str.partsBetween x (Builtin.Str.occurrences x y 0 x.length (x.length + 1)) y.length:=(if_neg (ne_true_of_eq_false h1)).trans (if_neg (ne_true_of_eq_false hf))
      show wants (EP X pins σ Q) X.xe _ { s with toks:=_,heap:=s.heap.push { cls:=.type "list",data:=.seq (strsFrom s.toks (Builtin.Str.partsBetween x (Builtin.Str.occurrences x y 0 x.length (x.length + 1)) y.length)).toArray } }
      rw [strsFrom_eq]
      exact fin (numbered s.toks _) _ ((numbered_texts _ _).trans e.symm) (by rw [e]; exact hn)
    · have e : Txt.split x y = [x]:=(if_neg (ne_true_of_eq_false h1)).trans (if_pos hf)
      exact call_meets F.slot_str_split (typeIs_str _ _ _) F.entry_str_split (F.args_str_split_2 _ _) (meets_str_split_not_found x y t u h1 hy hf)
        (fin [(x,t)] s.toks e.symm (by rw [e]; exact Wk))
  · have e : Txt.split x y = [x]:=if_pos h1
    exact call_meets F.slot_str_split (typeIs_str _ _ _) F.entry_str_split (F.args_str_split_2 _ _) (meets_str_split_cannot_occur x y t u h1)
      (fin [(x,t)] s.toks e.symm (by rw [e]; exact Wk))
def RM : V → Value
  | .ty n=>.type n
  | .ref a=>.ref a
  | _=>.none
def isC : V → Bool
  | .ty _=>true
  | .ref _=>true
  | _=>false
theorem yE : hV X (.builtin "isinstance") (fun xs H Q=>∃ x c t b,xs = [x,c] ∧ isC c = true ∧ sS X.K H x t ∧ PySem.W.kitOne X.K t (RM c) = some b ∧ Q (.bl b) H):=by
  intro pins s σ H xs us Q I r h
  obtain ⟨x,c,t,b,rfl,hc,ty,e,q⟩:=h
  obtain ⟨u,w',rfl,rx,rc⟩:=vals2 r
  have fin : ∀ tk,EP X pins σ Q (.bool b) { s with toks:=tk }:=fun tk=>⟨.bl b,H,I.tok _,rfl,q⟩
  cases c with
  | ty n=>cases rc; exact AI I rx ty e fin
  | ref a=>cases rc; exact AI I rx ty e fin
  | _=>exact absurd (show false = true from hc) Bool.false_ne_true
end
section
variable {X : Cx}
theorem BK : OpR X (binaryOp .Add) (fun x y H Q=>∃ l b xs zs,x = .ref l ∧ y = .ref b ∧ H l = some (.lst xs) ∧ H b = some (.lst zs) ∧ xs.length + zs.length ≤ sizeLine ∧ ∀ p,H p = none → Q (.ref p) (upd H p (.lst (xs ++ zs)))):=RF
end
theorem iz (a b : Str) : (a ++ b).cps.toList = a.cps.toList ++ b.cps.toList:=by
  show (a.cps ++ b.cps).toList = _
  simp
theorem C4 (c : Nat) : ∀ (a b p q : List Nat),c ∉ a → c ∉ b → a ++ c :: p = b ++ c :: q → a = b ∧ p = q
  | [],[],p,q,_,_,e=>by simpa using e
  | [],y :: b,p,q,_,hb,e=>by
    have e' : c :: p = y :: (b ++ c :: q):=e
    injection e' with e1 _
    exact absurd (by rw [e1]; exact List.mem_cons_self) hb
  | x :: a,[],p,q,ha,_,e=>by
    have e' : x :: (a ++ c :: p) = c :: q:=e
    injection e' with e1 _
    exact absurd (by rw [← e1]; exact List.mem_cons_self) ha
  | x :: a,y :: b,p,q,ha,hb,e=>by
    have e' : x :: (a ++ c :: p) = y :: (b ++ c :: q):=e
    injection e' with e1 e2
    obtain ⟨h1,h2⟩:=C4 c a b p q (fun h=>ha (List.mem_cons_of_mem _ h)) (fun h=>hb (List.mem_cons_of_mem _ h)) e2
    exact ⟨by rw [e1,h1],h2⟩
theorem BL {a b : Str} (h : a.cps.toList = b.cps.toList) : a = b:=by
  cases a; cases b
  have:=Array.toList_inj.mp h
  subst this; rfl
theorem jg (c : Nat) (x y : Str) (r : List Str) : (Str.join ⟨#[c]⟩ (x :: y :: r)).cps.toList = x.cps.toList ++ c :: (Str.join ⟨#[c]⟩ (y :: r)).cps.toList:=by
  show ((x ++ ⟨#[c]⟩) ++ Str.join ⟨#[c]⟩ (y :: r)).cps.toList = _
  rw [iz,iz]
  simp
theorem C5 (c : Nat) : ∀ (vs ws : List Str),vs ≠ [] → ws ≠ [] → (∀ v ∈ vs,c ∉ v.cps.toList) → (∀ w ∈ ws,c ∉ w.cps.toList) → Str.join ⟨#[c]⟩ vs = Str.join ⟨#[c]⟩ ws → vs = ws
  | [],_,h,_,_,_,_=>absurd rfl h
  | _,[],_,h,_,_,_=>absurd rfl h
  | [x],[y],_,_,_,_,e=>by rw [show x = y from e]
  | [x],y :: z :: r,_,_,hv,_,e=>by
    have e1:=congrArg (fun t : Str=>t.cps.toList) e
    have e2 : x.cps.toList = y.cps.toList ++ c :: (Str.join ⟨#[c]⟩ (z :: r)).cps.toList:=e1.trans (jg c y z r)
    exact absurd (by rw [e2]; exact List.mem_append_right _ List.mem_cons_self) (hv x List.mem_cons_self)
  | x :: z :: r,[y],_,_,_,hw,e=>by
    have e1:=congrArg (fun t : Str=>t.cps.toList) e
    have e2 : x.cps.toList ++ c :: (Str.join ⟨#[c]⟩ (z :: r)).cps.toList = y.cps.toList:=(jg c x z r).symm.trans e1
    exact absurd (by rw [← e2]; exact List.mem_append_right _ List.mem_cons_self) (hw y List.mem_cons_self)
  | x :: x2 :: r,y :: y2 :: q,_,_,hv,hw,e=>by
    have e1:=congrArg (fun t : Str=>t.cps.toList) e
    have e2:=(jg c x x2 r).symm.trans (e1.trans (jg c y y2 q))
    obtain ⟨h1,h2⟩:=C4 c _ _ _ _ (hv x List.mem_cons_self) (hw y List.mem_cons_self) e2
    have h3:=C5 c (x2 :: r) (y2 :: q) (List.cons_ne_nil _ _) (List.cons_ne_nil _ _) (fun v h=>hv v (List.mem_cons_of_mem _ h)) (fun w h=>hw w (List.mem_cons_of_mem _ h)) (BL h2)
    rw [BL h1,h3]
theorem LK (x y : Str) : Txt.split x y ≠ []:=by
  unfold Txt.split
  split
  · exact List.cons_ne_nil _ _
  · split
    · exact List.cons_ne_nil _ _
    · rw [StrLaws.partsBetween_eq]
      intro h
      have:=congrArg List.length h
      revert this
      cases (Builtin.Str.occurrences x y 0 x.length (x.length + 1)) <;> simp [StrLaws.partsFrom]
theorem Gx {c : Nat} {ws : List Str} (h0 : ws ≠ []) (h : ∀ w ∈ ws,c ∉ w.cps.toList) : Txt.split (Str.join ⟨#[c]⟩ ws) ⟨#[c]⟩ = ws :=
  C5 c _ _ (LK _ _) h0 (StrLaws.split_free _ c) h (StrLaws.join_split _ _)
theorem rO (c : Nat) : ∀ ws : List Str,(Str.join ⟨#[c]⟩ ws).length ≤ (ws.map (·.length)).sum + ws.length
  | []=>Nat.zero_le _
  | [x]=>by show x.length ≤ _; simp
  | x :: y :: r=>by
    have ih:=rO c (y :: r)
    have e : (Str.join ⟨#[c]⟩ (x :: y :: r)).length = x.length + 1 + (Str.join ⟨#[c]⟩ (y :: r)).length:=by
      have:=congrArg List.length (jg c x y r)
      rw [List.length_append,List.length_cons] at this
      have l1 : ∀ z : Str,z.cps.toList.length = z.length:=fun z=>by simp [Str.length]
      rw [l1,l1,l1] at this
      omega
    simp only [List.map_cons,List.sum_cons,List.length_cons] at ih ⊢
    omega
theorem Ae {c : Nat} : ∀ {ws : List Str},ws ≠ [] → (∀ w ∈ ws,1 ≤ w.length) → 1 ≤ (Str.join ⟨#[c]⟩ ws).length
  | [],h,_=>absurd rfl h
  | [x],_,h=>h x List.mem_cons_self
  | x :: y :: r,_,h=>by
    have h1:=h x List.mem_cons_self
    have:=congrArg List.length (jg c x y r)
    rw [List.length_append] at this
    have l1 : ∀ z : Str,z.cps.toList.length = z.length:=fun z=>by simp [Str.length]
    rw [l1,l1] at this
    omega
theorem dj {b : Bool} {A B : Prop} (hb : b = true) (h : A) : if b = true then A else B:=by
  subst hb; exact jO h
theorem aN {b : Bool} {A B : Prop} (hb : b = false) (h : B) : if b = true then A else B:=by
  subst hb; exact eD h
theorem aH {H : Hp} {p : Addr} {o : HO} (h : H p = none) : bQ H (upd H p o):=fun b u e=>by
  rw [aq (aV e h)]; exact e
theorem bQ.own {H H' : Hp} {p : Addr} {o : HO} (s : bQ H H') (h : H p = none) : bQ H (upd H' p o):=fun b u e=>by
  rw [aq (aV e h)]; exact s b u e
theorem bQ.new {H H' : Hp} {p : Addr} {o : HO} (s : bQ H H') (h : H' p = none) : bQ H (upd H' p o):=s.trans (aH h)
theorem bQ.nn {H H' : Hp} (s : bQ H H') {p : Addr} {o : HO} (h : H p = none) (e : H' p = some o) {b : Addr} {u : HO} (eb : H b = some u) : b ≠ p:=aV eb h
theorem C6 (xs : List V) (k : Nat) : iR xs (some (k : Int)) none = xs.drop k:=by
  unfold iR
  rw [HT.tZ,HT.C0]
  by_cases h : k ≤ xs.length
  · rw [Nat.min_eq_left h]
    exact List.take_of_length_le (by rw [List.length_drop]; exact Nat.le_refl _)
  · have h' : xs.length ≤ k:=by omega
    rw [Nat.min_eq_right h',List.drop_of_length_le h',List.drop_of_length_le (Nat.le_refl _)]
    simp
theorem LL {α : Type} {xs : List α} {i : Int} {n : Nat} (hn : xs.length = n) (h0 : 0 ≤ i) (h1 : i < n) : ∃ c,atI xs i = some c ∧ c ∈ xs:=by
  have hi : i.toNat < xs.length:=by omega
  have e : ((i.toNat : Nat) : Int) = i:=by omega
  refine ⟨xs[i.toNat],?_,List.getElem_mem hi⟩
  have q:=oY (List.getElem?_eq_getElem hi)
  rw [e] at q
  exact q
end L2
namespace L2
open PySem PySem.Spec PyProof.Rows
def fB (scope outer : Scope) : Scope :=
  { scope with names:=scope.names.map fun (n,k)=>if (k == .free && outer.kind == .function && outer.names.lookup n == some .cell) then (n,.cell) else (n,k) }
structure dM (scope outer : Scope) (x : Str) (N M : List Str) : Prop where
  kind : scope.kind = .function
  LM : outer.kind = .function
  BM : ∀ y ∈ scope.names,y.2 ≠ .cell
  names : ∀ y ∈ scope.names,y.2 = .local → scope.names.lookup y.1 = some .local
  hx : scope.names.lookup x = some .local
  free : ∀ y ∈ scope.names,y.2 = .free → outer.names.lookup y.1 = some .cell
  nl : ∀ n ∈ M,(fB scope outer).names.lookup n ≠ some .local
  ndM : M.Nodup
  nd : N.Nodup
  len : M.length = N.length
  rel : ∀ i : Nat,i < N.length → M[i]? = N[i]? ∨ M[i]? = some Str.empty
  em : (fB scope outer).names.lookup Str.empty = none
theorem dM.mem {scope outer : Scope} {x : Str} {N M : List Str} (S : dM scope outer x N M) {n : Str} {k : NameKind} (h : (fB scope outer).names.lookup n = some k) (hk : k = .cell ∨ k = .free) :
    k = .cell ∧ (n,NameKind.free) ∈ scope.names ∧ outer.names.lookup n = some .cell:=by
  obtain ⟨⟨n',k'⟩,hm,e⟩:=List.mem_map.mp (PySem.mem_of_lookup h)
  dsimp only at e
  by_cases hc : (k' == NameKind.free && outer.kind == .function && outer.names.lookup n' == some .cell) = true
  · rw [if_pos hc] at e
    injection e with e1 e2
    subst e1 e2
    rw [Bool.and_eq_true,Bool.and_eq_true] at hc
    have hk' : k' = .free:=beq_iff_eq.mp hc.1.1
    subst hk'
    exact ⟨rfl,hm,beq_iff_eq.mp hc.2⟩
  · rw [if_neg hc] at e
    injection e with e1 e2
    subst e1 e2
    rcases hk with z | z
    · exact absurd z (S.BM _ hm)
    · subst z
      exfalso
      refine hc ?_
      rw [S.free _ hm rfl,S.LM]
      rfl
theorem BN {env : Env} {f : Str × NameKind → List (Str × Addr) → Sem (ForInStep (List (Str × Addr)))}
    (h1 : ∀ n k r,k ≠ NameKind.free → f (n,k) r = pure (.yield r)) (h2 : ∀ n r c,env.cells.lookup n = some c → f (n,.free) r = pure (.yield ((n,c) :: r))) :
    ∀ (ns : List (Str × NameKind)) (acc : List (Str × Addr)),(∀ y ∈ ns,y.2 = .free → ∃ c,env.cells.lookup y.1 = some c) → (∀ n c,acc.lookup n = some c → env.cells.lookup n = some c) →
      ∃ cl,(forIn ns acc f : Sem (List (Str × Addr))) = pure cl ∧ (∀ n c,cl.lookup n = some c → env.cells.lookup n = some c) ∧ (∀ n c,acc.lookup n = some c → (cl.lookup n).isSome = true) ∧ ∀ y ∈ ns,y.2 = .free → (cl.lookup y.1).isSome = true
  | [],acc,_,ha=>⟨acc,by simp,ha,fun n c e=>by rw [e]; rfl,fun y hy=>nomatch hy⟩
  | (n,k) :: ns,acc,hn,ha=>by
    by_cases hk : k = NameKind.free
    · subst hk
      obtain ⟨c,hc⟩:=hn (n,.free) List.mem_cons_self rfl
      have ha' : ∀ m d,((n,c) :: acc).lookup m = some d → env.cells.lookup m = some d:=fun m d e=>by
        rw [List.lookup_cons] at e
        split at e
        · rename_i hb
          have : m = n:=beq_iff_eq.mp hb
          subst this
          rw [← Option.some.inj e]; exact hc
        · exact ha m d e
      obtain ⟨cl,e,p1,p2,p3⟩:=BN h1 h2 ns ((n,c) :: acc) (fun y hy=>hn y (List.mem_cons_of_mem _ hy)) ha'
      have hnn : (cl.lookup n).isSome = true:=p2 n c (by simp [List.lookup_cons])
      refine ⟨cl,?_,p1,fun m d em=>?_,fun y hy hf=>?_⟩
      · rw [List.forIn_cons,h2 n acc c hc,pure_bind]; exact e
      · by_cases hm : m = n
        · subst hm; exact hnn
        · exact p2 m d (by rw [List.lookup_cons,show (m == n) = false from beq_eq_false_iff_ne.mpr hm]; exact em)
      · rcases List.mem_cons.mp hy with rfl | hy
        · exact hnn
        · exact p3 y hy hf
    · obtain ⟨cl,e,p1,p2,p3⟩:=BN h1 h2 ns acc (fun y hy=>hn y (List.mem_cons_of_mem _ hy)) ha
      refine ⟨cl,?_,p1,p2,fun y hy hf=>?_⟩
      · rw [List.forIn_cons,h1 n k acc hk,pure_bind]; exact e
      · rcases List.mem_cons.mp hy with rfl | hy
        · exact absurd hf hk
        · exact p3 y hy hf
theorem AR {scope : Scope} {env : Env} (h : ∀ y ∈ scope.names,y.2 = .free → ∃ c,env.cells.lookup y.1 = some c) :
    ∃ cl,closureFor scope env = pure cl ∧ (∀ n c,cl.lookup n = some c → env.cells.lookup n = some c) ∧ ∀ y ∈ scope.names,y.2 = .free → (cl.lookup y.1).isSome = true:=by
  unfold closureFor
  obtain ⟨cl,e,p1,_,p3⟩:=BN (env:=env) (f:=fun x r=>match x with | (name,kind)=>if (kind == NameKind.free) = true then do let a ← cellOf env name; pure (.yield ((name,a) :: r)) else pure (.yield r))
    (fun n k r hk=>by
      have : (k == NameKind.free) = false:=beq_eq_false_iff_ne.mpr hk
      simp only [this,Bool.false_eq_true,if_false])
    (fun n r c hc=>by
      simp only [beq_self_eq_true,if_true]
      unfold cellOf
      rw [hc]
      rw [pure_bind])
    scope.names [] h (fun n c e=>by simp at e)
  refine ⟨cl,?_,p1,p3⟩
  have e':=congrArg (fun z : Sem (List (Str × Addr))=>z >>= fun cs=>pure cs) e
  simp only [pure_bind] at e'
  exact e'
def iS (X : Cx) (x : Str) (M : List Str) (scope : Scope) (cl : List (Str × Addr)) (C : Addr) (s : Shared) (H : Hp) (fp : List Addr) : Cx :=
  { X with N:=x :: M,s₀:=s,H₀:=H,env:=compEnvC scope cl C X.env,outer:=X.stack,ex:=fp,fn:=fun _=>false,pn:=[],xe:=fun _ _=>False }
def t7 (J : It) (te : TE) (σ : St) (D : Addr) (H1 : Hp) (Q : VK) : Prop:=∃ W : Nat → Nat → List V → Hp → Prop,(∃ m,W 0 m [] (upd H1 D (.lst []))) ∧ ∀ i m ys H2,W i m ys H2 →
  H2 D = some (.lst ys) ∧ ((J.stop i H2 ∧ Q (.ref D) H2) ∨ (J.go i H2 ∧ ys.length < sizeLine ∧ ∀ x H3,J.yld i H2 x H3 → te (some x :: σ) H3 fun y H4=>H4 D = some (.lst ys) ∧ ∃ m',m' < m ∧ W (i + 1) m' (ys ++ [y]) (upd H4 D (.lst (ys ++ [y])))))
def LN (wi : TI) (te : TE) : TE:=fun σ H Q=>wi σ H fun J H1=>∀ D,H1 D = none → t7 J te σ D H1 Q
section
variable {X : Cx} {pins : List (Addr × Obj)} {σ : St} {H : Hp} {s : Shared} {elt iter : Expr} {x : Str} {px pos : Pos} {scope : Scope} {wi : TI} {te : TE} {Q : VK} {M : List Str}
theorem Ot {cl : List (Str × Addr)} {C : Addr} {fp : List Addr} (S : dM scope X.env.scope x X.N M) (I : Inv X pins σ H s) (hC : s.heap.objs.size ≤ C) (p1 : ∀ n c,cl.lookup n = some c → X.env.cells.lookup n = some c)
    (p3 : ∀ y ∈ scope.names,y.2 = .free → (cl.lookup y.1).isSome = true) (f2 : ∀ b ∈ fp,j7 X pins H b) (fo : ∀ b ∈ fp,b < s.heap.objs.size) : (iS X x M scope cl C s H fp).Ok where
  mod:=I.ok.mod
  kind:=S.kind
  glob:=I.ok.glob
  blt:=I.ok.blt
  above:=hC
  inj:=fun y z c h1 h2=>I.ok.inj y z c (p1 y c h1) (p1 z c h2)
  has:=fun y hy=>by
    have hy' : (fB scope X.env.scope).names.lookup y = some .cell ∨ (fB scope X.env.scope).names.lookup y = some .free:=hy
    have hm : (y,NameKind.free) ∈ scope.names:=by
      rcases hy' with z | z
      · exact (S.mem z (.inl rfl)).2.1
      · exact (S.mem z (.inr rfl)).2.1
    exact Option.isSome_iff_exists.mp (p3 _ hm rfl)
  cab:=fun y c h=>absurd h Bool.false_ne_true
  hd:=I.ok.hd
  frames:=I.ok.frames
  stk:=.inl rfl
  exf:=fun b hb=>⟨Nat.ne_of_lt (Nat.lt_of_lt_of_le (fo b hb) hC),fun y c e=>(f2 b hb).2.2.2.2.1 y c (p1 y c e)⟩
  bs:=I.bs
  bsz:=Nat.le_trans I.ok.bsz I.sz
  F8:=fun b o e hb=>by
    rcases (f2 b hb).2.2.2.1 with z | z
    · exact I.ok.F8 b o e z
    · exact absurd (Nat.lt_of_lt_of_le (Heap.lt_size (I.ok.bs b o e).1) z) (Nat.lt_irrefl _)
  F9:=fun b hb z=>by
    rcases List.mem_cons.mp (I.Bv b z) with e | e
    · exact (f2 b hb).2.1 e
    · exact (f2 b hb).2.2.1 e
  sQ:=I.stack
  frf:=I.Bw
theorem LO {cl : List (Str × Addr)} {C D : Addr} {fp : List Addr} {h₁ : Heap} {tk : Nat} {m : Str → Option Value} (S : dM scope X.env.scope x X.N M) (I : Inv X pins σ H s) (hC : s.heap.objs.size ≤ C) (hD : s.heap.objs.size ≤ D) (hDC : D ≠ C)
    (p1 : ∀ n c,cl.lookup n = some c → X.env.cells.lookup n = some c)
    (p3 : ∀ y ∈ scope.names,y.2 = .free → (cl.lookup y.1).isSome = true) (f2 : ∀ b ∈ fp,j7 X pins H b) (fo : ∀ b ∈ fp,b < s.heap.objs.size)
    (old : ∀ b o,s.heap.get? b = some o → h₁.get? b = some o) (hn : h₁.Ns C m) (hl : h₁.get? D = some { cls:=.type "list",data:=.seq ([] : List Value).toArray }) :
    Inv (iS X x M scope cl C s H fp) [] (none :: σ) (upd H D (.lst [])) { s with heap:=h₁,toks:=tk }:=by
  have cellK : ∀ c v,s.heap.IsCell c v → h₁.IsCell c v:=fun c v ⟨o,e,d⟩=>⟨o,old c o e,d⟩
  refine ⟨Ot S I hC p1 p3 f2 fo,rfl,I.bare,Un.laid old hD (I.hok.fresh hD),⟨m,hn,fun i n v h1 h2 h3=>?_⟩,fun y c e=>?_,?_,fun y c e=>?_,fun p hp=>absurd (show p ∈ ([] : List (Addr × Obj)) from hp) (by simp),I.hok.laid old hD ⟨Nat.zero_le _,[],0,.nil,hl⟩,?_⟩
  · cases i with
    | zero =>
      have h2' : (none : Option V) = some v:=by simpa using h2
      cases h2'
    | succ i =>
      have h0' : M[i]? = some n:=by simpa [iS] using h1
      have h2' : σ[i]? = some (some v):=by simpa using h2
      have h3' : (fB scope X.env.scope).names.lookup n = some .local ∨ (fB scope X.env.scope).names.lookup n = some .cell ∨ (fB scope X.env.scope).names.lookup n = some .free:=h3
      have tW : (fB scope X.env.scope).names.lookup n = some .cell ∧ (n,NameKind.free) ∈ scope.names ∧ X.env.scope.names.lookup n = some .cell:=by
        rcases h3' with z | z | z
        · exact absurd z (S.nl n (List.mem_of_getElem? h0'))
        · exact ⟨z,(S.mem z (.inl rfl)).2⟩
        · exact absurd (S.mem z (.inr rfl)).1 (by decide)
      have h1' : X.N[i]? = some n:=by
        have hi : i < X.N.length:=by rw [← S.len]; exact (List.getElem?_eq_some_iff.mp h0').1
        rcases S.rel i hi with z | z
        · rw [← z]; exact h0'
        · rw [h0'] at z
          have e : n = Str.empty:=Option.some.inj z
          rw [e,S.em] at tW
          cases tW.1
      obtain ⟨m0,hn0,hl0⟩:=I.loc
      obtain ⟨u,r,l⟩:=hl0 i n v h1' h2' (.inr (.inl tW.2.2))
      refine ⟨u,r,.inr ⟨.inl tW.1,?_⟩⟩
      obtain ⟨c,hc⟩:=Option.isSome_iff_exists.mp (p3 _ tW.2.1 rfl)
      refine ⟨c,hc,?_⟩
      rcases l with ⟨k,_⟩ | ⟨_,c',hc',z⟩
      · have k' : X.env.scope.names.lookup n = some .local:=k
        rw [tW.2.2] at k'; cases k'
      · rw [p1 n c hc] at hc'
        cases hc'
        exact cellK c _ z
  · obtain ⟨v,z⟩:=I.cell y c (p1 y c e)
    exact ⟨v,cellK c v z⟩
  · show (upd H D (.lst [])) C = none
    rw [aq (Ne.symm hDC)]
    exact I.hok.fresh hC
  · obtain ⟨v,z⟩:=I.cell y c (p1 y c e)
    rw [aq (Nat.ne_of_lt (Nat.lt_of_lt_of_le z.lt hD))]
    exact I.nX y c (p1 y c e)
  · show (none :: σ).length = (x :: M).length
    rw [List.length_cons,List.length_cons,I.len,S.len]
theorem AS {cl : List (Str × Addr)} {RR : Value → Addr → Result → Shared → Prop} (S : dM scope X.env.scope x X.N M) (hc : X.calm = true) (hi : PI X (.Name x px) iter wi)
    (he : ∀ cl C s H fp,PE (iS X x M scope cl C s H fp) elt te) (I : Inv X pins σ H s) (h : LN wi te σ H Q)
    (p1 : ∀ n c,cl.lookup n = some c → X.env.cells.lookup n = some c) (p3 : ∀ y ∈ scope.names,y.2 = .free → (cl.lookup y.1).isSome = true)
    (hRR : ∀ D C H' s' o m,Inv X (pins ++ [(C,o)]) σ H' s' → s'.heap.get? C = some o → s'.heap.Ns C m → X.s₀.heap.objs.size ≤ C → (∀ y c,X.env.cells.lookup y = some c → c ≠ C) → (∀ p ∈ X.pn ++ pins,p.1 ≠ C) → Q (.ref D) H' → RR (.ref D) C (.ok .next) s') :
    wpAny (model X.prog X.w) X.A (eval iter X.env) (fun xv s₁=>wpAny (model X.prog X.w) X.A (pyIter xv) (fun it s₂=>wpAny (model X.prog X.w) X.A (newList []) (fun acc s₃ =>
      wpAny (model X.prog X.w) X.A (newFunctionEnv scope X.env.globals cl [] X.env.qual none .none (some X.env)) (fun Wl s₄ =>
        codeAny (model X.prog X.w) X.A (.compStart (.ListComp elt [⟨.Name x px,iter,[],0⟩] scope pos) 0 it acc { Wl with scope:=relabel scope X.env }) (RR acc Wl.locals) s₄) X.xe s₃) X.xe s₂) X.xe s₁) X.xe s:=by
  refine thn (hi pins s σ H _ I h) fun v s1 h1=>thn h1 fun itv s2 h2=>?_
  obtain ⟨it,fp,tn,J,H2,rfl,I2,T,st2,f2,q⟩:=h2
  refine wpAny_newObj_type (wpAny_newFunctionEnv S.BM (by intro y hy; simp at hy) (fun h₁ hns₁ hsb₁=>?_) S.kind)
  dsimp only at hns₁ hsb₁ ⊢
  generalize hHH : s2.heap.push { cls:=.type "list",dict:=none,data:=.seq ([] : List Value).toArray } = HH at hns₁ hsb₁ ⊢
  have hCs : HH.objs.size = s2.heap.objs.size + 1:=by rw [← hHH,Heap.size_push]
  have hDC : s2.heap.objs.size ≠ HH.objs.size:=by rw [hCs]; exact Nat.ne_of_lt (Nat.lt_succ_self _)
  have Wm : s2.heap.objs.size ≤ HH.objs.size:=by rw [hCs]; exact Nat.le_succ _
  have below : ∀ b,b < s2.heap.objs.size → b ≠ HH.objs.size:=fun b hb=>by rw [hCs]; exact Nat.ne_of_lt (Nat.lt_succ_of_lt hb)
  have old : ∀ b o,s2.heap.get? b = some o → h₁.get? b = some o:=fun b o e=>hsb₁.extBut b o (below b (Heap.lt_size e)) (Heap.get?_push_of_some _ (hHH ▸ Heap.get?_push_of_some _ e))
  have Ou : h₁.get? s2.heap.objs.size = some { cls:=.type "list",data:=.seq ([] : List Value).toArray }:=hsb₁.extBut _ _ hDC (Heap.get?_push_of_some _ (hHH ▸ Heap.get?_push_size _ rfl))
  have fo : ∀ b ∈ fp,b < s2.heap.objs.size:=fun b hb=>by
    obtain ⟨o,e,_⟩:=T.obj _ _ st2 b hb
    exact Heap.lt_size e
  have IY:=LO (tk:=s2.toks + ([] : List (Str × Value)).length) S I2 Wm (Nat.le_refl _) hDC p1 p3 f2 fo old hns₁ Ou
  have st1 : tn 0 h₁:=T.keep _ _ _ st2 fun b _ o e=>old b o e
  obtain ⟨W,⟨m0,w0⟩,turn⟩:=q _ (I2.hok.fresh (Nat.le_refl _))
  generalize hC : HH.objs.size = C at *
  generalize hDD : s2.heap.objs.size = D at *
  have ndY : (iS X x M scope cl C s2 H2 fp).N.Nodup:=by
    refine List.nodup_cons.mpr ⟨fun hm=>S.nl x hm (lookup_relabel_local S.hx),S.ndM⟩
  have stat : ∀ {H' : Hp},(∀ b ∈ fp,H' b = none) → ∀ b ∈ fp,j7 (iS X x M scope cl C s2 H2 fp) [] H' b:=fun hn b hb =>
    ⟨hn b hb,below b (fo b hb),IY.ok.F9 b hb,.inl hb,fun y c e=>(f2 b hb).2.2.2.2.1 y c (p1 y c e),fun p hp=>absurd (show p ∈ ([] : List (Addr × Obj)) from hp) (by simp)⟩
  have loop : codeAny (model X.prog X.w) X.A (.compLoop (.ListComp elt [⟨.Name x px,iter,[],0⟩] scope pos) 0 (.ref it) (.ref D) (compEnvC scope cl C X.env)) (RR (.ref D) C) { s2 with heap:=h₁,toks:=s2.toks + ([] : List (Str × Value)).length }:=by
    refine codeAny_compLoop_tests (fun n s'=>∃ i v0 ys H',Inv (iS X x M scope cl C s2 H2 fp) [] (v0 :: σ) H' s' ∧ tn i s'.heap ∧ (∀ b ∈ fp,H' b = none) ∧ W i n ys H') ?_ m0 ⟨0,none,[],_,IY,st1,fun b hb=>?_,w0⟩
    · rintro n s3 ⟨i,v0,ys,H3,I3,st3,fr3,w3⟩
      obtain ⟨hDl,hw⟩:=turn i n ys H3 w3
      rcases hw with ⟨stop,qn⟩ | ⟨go,hsz,step⟩
      · refine thn (T.done (iS X x M scope cl C s2 H2 fp) rfl rfl rfl hc i [] s3 _ H3 _ I3 (stat fr3) st3 stop) fun r s4 ⟨hr,I4⟩=>?_
        subst hr
        obtain ⟨m4,hn4,_⟩:=I4.loc
        obtain ⟨oC,es4,ep4,e4,r4⟩:=id hn4
        have Wn : s2.heap.objs.size ≤ C:=by rw [hDD]; exact Wm
        have IX : Inv X pins σ H3 s4:=I2.Lj (ch:=fp) I4.os I4.base I4.hok I4.bare fun b hb=>⟨(f2 b hb).2.2.2.1,(f2 b hb).2.1,(f2 b hb).2.2.2.2.1,(f2 b hb).2.2.2.2.2⟩
        have fC:=I2.BB (H':=H3) Wn I4.free
        have IX2 : Inv X (pins ++ [(C,oC)]) σ H3 s4:=IX.Bx fun p hp=>(List.mem_append.mp hp).elim (fun z=>IX.pin p (List.mem_append_right _ z)) fun z=>by
          have e : p = (C,oC):=by simpa using z
          subst e
          exact ⟨e4,fC.1,fC.2.1,fC.2.2.1,fun v z=>by rw [r4.1] at z; cases z⟩
        exact hRR D C H3 s4 oC m4 IX2 e4 hn4 (Nat.le_trans I2.sz Wn) fC.2.2.2.2.1 fC.2.2.2.2.2 qn
      · refine thn (T.item (iS X x M scope cl C s2 H2 fp) rfl rfl rfl hc i [] s3 _ H3 _ I3 (stat fr3) st3 go) fun r s4 ⟨u,hr,h4⟩=>?_
        subst hr
        have e0 : ∀ k : Sem Unit,(letOwnedTupleGo (.Name x px) (.ref it) u >>= fun _=>k) = k:=fun k=>by
          rw [show letOwnedTupleGo (.Name x px) (.ref it) u = pure () from rfl,pure_bind]
        show wpAny _ _ (assign (.Name x px) (compEnvC scope cl C X.env) u) _ _ s4
        rw [← e0 (assign (.Name x px) (compEnvC scope cl C X.env) u)]
        refine wpAny_bind (thn h4 fun _ s5 ⟨xv,H5,I5,r5,y5,st5,fr5⟩=>?_)
        have I5':=I5.pinned (stat fr5) (T.obj _ _ st5)
        have hxl : (iS X x M scope cl C s2 H2 fp).env.scope.names.lookup x = some .local:=lookup_relabel_local S.hx
        refine wpAny_assign_Name (nY (X:=iS X x M scope cl C s2 H2 fp) (i:=0) I5' ndY rfl (Or.inl hxl) r5 (fun s6 I6=>?_) (.inr hxl))
        refine wpAny_tests_nil ?_
        rw [if_pos rfl]
        refine wpAny_mono (he cl C s2 H2 fp _ s6 _ H5 _ I6 (step xv H5 y5)) (fun y s7 ⟨yv,H7,I7,r7,hD7,m',hm',w7⟩=>?_) (fun _ _ f=>f.elim)
        refine wpAny_mono (gR (X:=iS X x M scope cl C s2 H2 fp) _ s7 _ H7 (.ref D) [yv] (.ref D) [y] (fun _ H8=>H8 = upd H7 D (.lst (ys ++ [yv]))) I7 rfl (.cons r7 .nil) ⟨D,ys,yv,rfl,rfl,hD7,hsz,rfl⟩)
          (fun _ s8 ⟨_,H8,I8,_,e8⟩=>?_) (fun _ _ f=>f.elim)
        subst e8
        refine ⟨m',hm',i + 1,some xv,ys ++ [yv],_,I8.lG,T.keep _ _ _ st5 fun b hb o e=>(I8.pin (b,o) (List.mem_append_right _ (List.mem_append_right _ (oX hb e)))).1,fun b hb=>?_,w7⟩
        obtain ⟨o,e,d⟩:=T.obj _ _ st5 b hb
        exact (I8.pin (b,o) (List.mem_append_right _ (List.mem_append_right _ (oX hb e)))).2.1
    · show (upd H2 D (.lst [])) b = none
      rw [aq (Nat.ne_of_lt (fo b hb))]
      exact (f2 b hb).1
  exact codeAny_compStart_list loop (T.self _ 0 _ _ _ st1 loop)
theorem t8 (S : dM scope X.env.scope x X.N M) (hc : X.calm = true) (hi : PI X (.Name x px) iter wi) (he : ∀ cl C s H fp,PE (iS X x M scope cl C s H fp) elt te)
    (hs : ∀ x,foldedSetIterable iter X.env x = pure x:=by intro _; rfl) : PE X (.ListComp elt [⟨.Name x px,iter,[],0⟩] scope pos) (LN wi te):=by
  intro pins s σ H Q I h
  obtain ⟨cl,LP,p1,p3⟩:=AR (scope:=scope) (env:=X.env) (fun y hy hf=>I.ok.has y.1 (.inl (S.free y hy hf)))
  rw [eval_ListComp]
  refine wpAny_comprehension_free (use:=none) rfl hs LP S.kind S.names (AS (RR:=fun acc C=>compPost (model X.prog X.w) X.A X.xe none (EP X pins σ Q) acc C) S hc hi he I h p1 p3 ?_)
  intro D C H' s' o m I' e hn h0 h1 h2 q
  refine ⟨m,hn,fun h' hs'=>?_⟩
  have pC:=I'.pin (C,o) (List.mem_append_right _ (List.mem_append_right _ (by simp)))
  have IX : Inv X pins σ H' s':=I'.lG
  exact ⟨.ref D,H',IX.turned (t':=s'.toks) (fun b ob hb e=>(hs'.2 b hb).trans e) pC.2.1 pC.2.2.1 (.inr h0) h1 h2,rfl,q⟩
theorem Gy {i : Nat} {y : Str} {py Wo : Pos} (S : dM scope X.env.scope x X.N M) (hc : X.calm = true) (hj : X.N[i]? = some y) (hy : Loc X.env.scope y) (hi : PI X (.Name x px) iter wi) (he : ∀ cl C s H fp,PE (iS X x M scope cl C s H fp) elt te)
    (hsw : swapsWith (.ListComp elt [⟨.Name x px,iter,[],0⟩] scope pos) (some (.Name y py)) Wo.line X.env = pure true:=by rfl)
    (hf : X.fn y = true ∨ X.env.scope.names.lookup y = some .local:=by first | exact .inl rfl | exact .inr rfl | assumption)
    (hs : ∀ x,foldedSetIterable iter X.env x = pure x:=by intro _; rfl) : PS X (.Assign [.Name y py] (.ListComp elt [⟨.Name x px,iter,[],0⟩] scope pos) Wo) (Rh (LN wi te) (qu i)):=by
  intro pins s σ H D I h
  obtain ⟨cl,LP,p1,p3⟩:=AR (scope:=scope) (env:=X.env) (fun y hy hf=>I.ok.has y.1 (.inl (S.free y hy hf)))
  rw [exec_Assign_Name_used _ _ _ _ hsw]
  refine wpAny_bind (wpAny_standAt (wpAny_bind ?_))
  show wpAny _ _ (do let _ ← comprehension (.ListComp elt [⟨.Name x px,iter,[],0⟩] scope pos) scope X.env _ (newList []) false (eval iter X.env) (some (assign (.Name y py) X.env))) _ _ s
  refine wpAny_bind (wpAny_mono (wpAny_comprehension_free (use:=some (assign (.Name y py) X.env)) (Q:=fun _ s'=>SP X pins D .next s') rfl hs LP S.kind S.names
    (AS (RR:=fun acc C=>compPost (model X.prog X.w) X.A X.xe (some (assign (.Name y py) X.env)) (fun _ s'=>SP X pins D .next s') acc C) S hc hi he I h p1 p3 ?_)) (fun _ s' hq=>wpAny_pure (wpAny_pure hq)) fun _ _ e=>e)
  intro Dd C H' s' o m I' e hn h0 h1 h2 q
  show wpAny _ _ (assign (.Name y py) X.env (.ref Dd)) _ _ s'
  refine wpAny_assign_Name (nY I' S.nd hj hy (v:=.ref Dd) rfl (fun s'' I''=>?_) hf)
  have pC:=I''.pin (C,o) (List.mem_append_right _ (List.mem_append_right _ (by simp)))
  obtain ⟨o',es,ep,e0,r⟩:=hn
  rw [e] at e0
  cases e0
  have IX : Inv X pins _ H' s'':=I''.lG
  refine ⟨m,⟨o,es,ep,pC.1,r⟩,fun h' hs'=>?_⟩
  exact ⟨_,H',IX.turned (t':=s''.toks) (fun b ob hb e=>(hs'.2 b hb).trans e) pC.2.1 pC.2.2.1 (.inr h0) h1 h2,q⟩
def gz (D : Addr) (n : Nat) (Pv : Nat → List V → Hp → Prop) (i : Nat) (ys : List V) : VK:=fun y H4=>H4 D = some (.lst ys) ∧ ∃ m',m' < n - i ∧ m' = n - (i + 1) ∧ i + 1 ≤ n ∧ Pv (i + 1) (ys ++ [y]) (upd H4 D (.lst (ys ++ [y])))
theorem gz.mk {D : Addr} {n : Nat} {Pv : Nat → List V → Hp → Prop} {i : Nat} {ys : List V} {y : V} {H4 : Hp} (hi : i < n) (h1 : H4 D = some (.lst ys)) (h2 : Pv (i + 1) (ys ++ [y]) (upd H4 D (.lst (ys ++ [y])))) : gz D n Pv i ys y H4 :=
  ⟨h1,n - (i + 1),by omega,rfl,hi,h2⟩
theorem rP {K : PySem.W.Frag} {a D : Addr} {xs : List V} {te : TE} {Q : VK} {σ : St} {H1 : Hp} (Pv : Nat → List V → Hp → Prop) (h0 : Pv 0 [] (upd H1 D (.lst []))) (hz : xs.length ≤ sizeLine)
    (hl : ∀ i ys H2,i ≤ xs.length → Pv i ys H2 → SqL K H2 a xs ∧ H2 D = some (.lst ys) ∧ ys.length = i)
    (hs : ∀ i x ys H2,xs[i]? = some x → Pv i ys H2 → te (some x :: σ) H2 (gz D xs.length Pv i ys)) (hd : ∀ ys H2,Pv xs.length ys H2 → Q (.ref D) H2) :
    t7 (Itl K a) te σ D H1 Q:=by
  refine ⟨fun i m ys H=>m = xs.length - i ∧ i ≤ xs.length ∧ Pv i ys H,⟨xs.length,by simp,Nat.zero_le _,h0⟩,?_⟩
  rintro i m ys H2 ⟨rfl,hi,p⟩
  obtain ⟨q,q2,q3⟩:=hl i ys H2 hi p
  refine ⟨q2,?_⟩
  by_cases hlt : i < xs.length
  · refine .inr ⟨⟨xs,xs[i],q,by simp [hlt]⟩,by omega,fun x H3 y=>?_⟩
    obtain ⟨e,y⟩:=y
    subst e
    exact hs i x ys _ (y xs q) p
  · have e : i = xs.length:=by omega
    subst e
    exact .inl ⟨⟨xs,q,Nat.le_refl _⟩,hd ys H2 p⟩
theorem Gz {lo : Int} {n : Nat} {D : Addr} {te : TE} {Q : VK} {σ : St} {H1 : Hp} (Pv : Nat → List V → Hp → Prop) (h0 : Pv 0 [] (upd H1 D (.lst []))) (hz : n ≤ sizeLine)
    (hl : ∀ i ys H2,i ≤ n → Pv i ys H2 → H2 D = some (.lst ys) ∧ ys.length = i)
    (hs : ∀ i ys H2,i < n → Pv i ys H2 → te (some (.int (lo + i)) :: σ) H2 (gz D n Pv i ys)) (hd : ∀ ys H2,Pv n ys H2 → Q (.ref D) H2) :
    t7 (Itr lo n) te σ D H1 Q:=by
  refine ⟨fun i m ys H=>m = n - i ∧ i ≤ n ∧ Pv i ys H,⟨n,by simp,Nat.zero_le _,h0⟩,?_⟩
  rintro i m ys H2 ⟨rfl,hi,p⟩
  obtain ⟨q2,q3⟩:=hl i ys H2 hi p
  refine ⟨q2,?_⟩
  by_cases hlt : i < n
  · refine .inr ⟨hlt,by omega,fun x H3 y=>?_⟩
    obtain ⟨e,y⟩:=y
    subst e y
    exact hs i ys _ hlt p
  · have e : i = n:=by omega
    subst e
    exact .inl ⟨Nat.le_refl _,hd ys H2 p⟩
end
end L2
namespace L2
open PySem PySem.Spec PyProof.Rows
structure MkN (K : PySem.W.Frag) (C : Addr) : Prop where
  makes : PySem.W.makesIn K C = true
  init : PySem.W.findIn K (.ref C) "__init__" = some (some (.builtin "object.__init__"))
  kp : PySem.W.keepIn K (.ref C) = true
def RN (C : Addr) : TE:=fun _ H Q=>∀ x dx,H x = none → H dx = none → dx ≠ x → Q (.ref x) (upd (upd H dx (.own x)) x (.ins C dx []))
section
variable {X : Cx} {C : Addr} {x : Str} {p pos : Pos}
theorem n6 (M : MkN X.K C) (hg : Gl X x) (hm : X.mg x = some (.ref C)) (hdb : (x == ("__debug__" : Str)) = false:=by decide) : PE X (.Call (.Name x p) [] [] pos) (RN C):=by
  intro pins s σ H Q I h
  refine wpAny_Call_Name_kw (kT I hg hm ?_ hdb)
  refine PySem.W.callWith_K0 I.kIn M.kp (wpAny_call ?_)
  have I2:=Inv.made (C:=C) I
  have q:=h (s.heap.objs.size + 1) s.heap.objs.size (I.hok.fresh (Nat.le_succ _)) (I.hok.fresh (Nat.le_refl _)) (Nat.ne_of_lt (Nat.lt_succ_self _))
  have fin : EP X pins σ Q (.ref (s.heap.objs.size + 1)) { s with heap:=(s.heap.push PySem.W.emptyDict).push (PySem.W.instObj C s.heap.objs.size) }:=⟨.ref _,_,I2,rfl,q⟩
  have X1:=I.kIn
  have e2 : ((s.heap.push PySem.W.emptyDict).push (PySem.W.instObj C s.heap.objs.size)).get? (s.heap.objs.size + 1) = some (PySem.W.instObj C s.heap.objs.size):=by
    have:=Heap.get?_push_size (s.heap.push PySem.W.emptyDict) (o:=PySem.W.instObj C s.heap.objs.size) rfl
    rwa [Heap.size_push] at this
  clear I2 q h I
  obtain ⟨hh,g,d,t,os⟩:=s
  have Y:=PySem.W.makes_of (M:=model X.prog X.w) X1 M.makes
  refine PySem.W.make_core Y (PySem.W.looks_findIn X1 M.init) (fun self=>PySem.W.Looks.of_pure (PySem.W.oi_bind self)) (.inr ⟨rfl,rfl⟩) ?_
  have t1 : PySem.W.Looks (model X.prog X.w) ((hh.push PySem.W.emptyDict).push (PySem.W.instObj C hh.objs.size)) (typeOf (.ref (hh.objs.size + 1))) (.ref C):=(PySem.W.Looks.ld e2).andThen .now
  have t2 : PySem.W.Looks (model X.prog X.w) ((hh.push PySem.W.emptyDict).push (PySem.W.instObj C hh.objs.size)) (isInstance (.ref (hh.objs.size + 1)) (.type "object")) true:=t1.andThen (Y.top.keeps fun b o e=>Heap.get?_push_of_some _ (Heap.get?_push_of_some _ e))
  refine codeAny_call_builtin PySem.W.oi_plain PySem.W.entry_oi (@PySem.W.check_slot (model X.prog X.w) _ _ _ "object.__init__" "object" "__init__" (.ref (hh.objs.size + 1)) [] [] _ PySem.W.oi_kind PySem.W.oi_split t2 (PySem.W.oi_args (.ref (hh.objs.size + 1))) ?_)
  show wpAny _ _ (Builtin.«object.__init__» ⟨[.ref (hh.objs.size + 1)],[]⟩) _ _ _
  rw [PySem.W.oi_run]
  exact wpAny_pure (And.intro rfl fin)
end
structure Wq (P : Params) (K : PySem.W.Frag) (a : Addr) : Prop where
  ex : ∃ es n,K.lookup a = some ⟨.type "dict",none,.dict es n,#[]⟩ ∧ PySem.W.KeysLit P es.toList
section
variable {X : Cx}
theorem LQ : IxR X (fun x y H Q=>∃ a z v u,x = .ref a ∧ y = .str z ∧ Wq X.w.params X.K a ∧ PySem.W.nsIn X.K a z = some (some u) ∧ RelV v u ∧ Q v H):=by
  intro value slice pins s σ H x y v u Q I rx ry h hs
  obtain ⟨a,z,w',u',rfl,rfl,⟨es,n,hl,hk⟩,e,r,q⟩:=h
  cases rx
  obtain ⟨t,rfl⟩:=ry
  have hm:=PySem.W.mapOf_K (prog:=X.prog) I.kIn hl hk
  exact tail_any hm.typeIs slot_dict_getitem.lookup (wpAny_getItem_of (strKind_is X.prog X.w z t) hm (PySem.W.find_K hl e) ⟨w',H,I.tok _,r,q⟩) hs
end
theorem IV (K : PySem.W.Frag) (H : Hp) : ∀ bs : List Bool,DVs K H (bs.map PyData.bool) (bs.map V.bl)
  | []=>by unfold DVs; rfl
  | b :: bs=>by
    show DVs K H (PyData.bool b :: bs.map PyData.bool) _
    unfold DVs
    exact ⟨_,_,rfl,by unfold DV; rfl,IV K H bs⟩
theorem LR {K : PySem.W.Frag} {H : Hp} {a : Addr} {bs : List Bool} (h : SqL K H a (bs.map V.bl)) : DV K H (.list (bs.map PyData.bool)) (.ref a):=by
  unfold DV
  exact ⟨a,_,rfl,h,IV K H bs⟩
theorem yF : ∀ vs ws : List Bool,PyData.eqvAll (vs.map PyData.bool) (ws.map PyData.bool) = decide (vs = ws)
  | [],[]=>by simp [PyData.eqvAll]
  | [],_ :: _=>by simp [PyData.eqvAll]
  | _ :: _,[]=>by simp [PyData.eqvAll]
  | a :: r,b :: t=>by
    simp only [List.map_cons,PyData.eqvAll,PyData.eqv,yF r t]
    by_cases h : a = b <;> by_cases h' : r = t <;> simp [h,h']
theorem yG : ∀ ws : List Bool,PyData.canLayAll0 (ws.map PyData.bool) = true
  | []=>by simp [PyData.canLayAll0]
  | w :: ws=>by
    simp only [List.map_cons,PyData.canLayAll0,PyData.canLay0,Bool.and_eq_true]
    exact ⟨trivial,yG ws⟩
theorem AU : ∀ ws : List Bool,PyData.depthAll (ws.map PyData.bool) ≤ 1
  | []=>by simp [PyData.depthAll]
  | w :: ws=>by
    have:=AU ws
    simp only [List.map_cons,PyData.depthAll,PyData.depth]
    omega
theorem yH (ws : List Bool) : SeqAt.shaped (.list (ws.map PyData.bool)) = true:=by
  have h1:=AU ws
  have h2 : PyData.depth (.list (ws.map PyData.bool)) ≤ 64:=by simp only [PyData.depth]; omega
  show (PyData.canLay0 (.list (ws.map PyData.bool)) && decide (PyData.depth (.list (ws.map PyData.bool)) ≤ 64)) = true
  rw [Bool.and_eq_true]
  exact ⟨by simp only [PyData.canLay0]; exact yG ws,decide_eq_true h2⟩
theorem Ov (ws : List Bool) : PyData.eqv (.list (ws.map PyData.bool)) (.list (ws.map PyData.bool)) = true:=by
  show PyData.eqvAll _ _ = true
  rw [yF]; exact decide_eq_true rfl
end L2
namespace L2
open PySem PySem.Spec PyProof.Rows
theorem Ow (bs : List Bool) : (List.range bs.length).any (fun i=>bs.getD i false) = bs.any id:=by
  have e : (List.range bs.length).map (fun i=>bs.getD i false) = bs:=by
    apply List.ext_getElem
    · simp
    · intro i h1 h2; simp [h2]
  calc _ = ((List.range bs.length).map (fun i=>bs.getD i false)).any id:=by rw [List.any_map]; rfl
    _ = _:=by rw [e]
theorem Ox (bs : List Bool) : (List.range bs.length).all (fun i=>bs.getD i false) = bs.all id:=by
  have e : (List.range bs.length).map (fun i=>bs.getD i false) = bs:=by
    apply List.ext_getElem
    · simp
    · intro i h1 h2; simp [h2]
  calc _ = ((List.range bs.length).map (fun i=>bs.getD i false)).all id:=by rw [List.all_map]; rfl
    _ = _:=by rw [e]
theorem yI : ∀ {bs : List Bool} {us : List Value},Vals (bs.map V.bl) us → us = bs.map Value.bool
  | [],_,.nil=>rfl
  | b :: bs,_,.cons r t=>by
    cases r
    rw [yI t]; rfl
section
variable {X : Cx}
theorem LS (hc : X.calm = true) : hV X (.builtin "any") (fun xs H Q=>∃ (p : Addr) (bs : List Bool),xs = [.ref p] ∧ SqL X.K H p (bs.map V.bl) ∧ Q (.bl (bs.any id)) H):=by
  intro pins s σ H xs us Q I r h
  obtain ⟨p,bs,rfl,hq,q⟩:=h
  obtain ⟨u,rfl,rx⟩:=vals1 r
  cases rx
  obtain ⟨its,rv,pl,hz⟩:=I.list hq
  obtain rfl:=yI rv
  refine call_any_walk (wpAny_pyIter_list pl.isList ?_)
  obtain ⟨o,n,e,_⟩:=id pl
  have hlt : p < s.heap.objs.size:=Heap.lt_size e
  refine ⟨s.heap.objs.size,_,_,_,_,_,fun i=>bs.getD i false,rfl,Walks.list (A:=X.A.in1) (show X.A.in1.handled = none from I.ok.hd hc) s.heap.objs.size p (Nat.ne_of_lt hlt) (bs.map Value.bool).toArray,⟨⟨_,Heap.get?_push_size _ rfl,rfl,rfl⟩,pl.isList.at fun o e=>Heap.get?_push_of_some _ e⟩,?_,fun h' tk kk=>?_⟩
  · intro i v s' Q' E' hv q'
    have hv' : v = Value.bool (bs.getD i false):=by
      have h2 : (bs.map Value.bool)[i]? = some v:=by simpa using hv
      rw [List.getElem?_map] at h2
      cases hb : bs[i]? with
      | none=>rw [hb] at h2; cases h2
      | some b =>
        rw [hb] at h2
        rw [List.getD_eq_getElem?_getD,hb]
        exact (Option.some.inj h2).symm
    rw [hv']
    exact wpAny_truthy_bool q'
  · have I1 : Inv X pins σ H { s with heap:=h',toks:=tk }:=I.kept fun b o e=>kk b o (by simp; exact Nat.ne_of_lt (Heap.lt_size e)) (Heap.get?_push_of_some _ e)
    refine ⟨.bl _,H,I1,rfl,?_⟩
    have e1 : (bs.map Value.bool).toArray.size = bs.length:=by simp
    rw [e1,Ow]
    exact q
theorem LU (hc : X.calm = true) : hV X (.builtin "all") (fun xs H Q=>∃ (p : Addr) (bs : List Bool),xs = [.ref p] ∧ SqL X.K H p (bs.map V.bl) ∧ Q (.bl (bs.all id)) H):=by
  intro pins s σ H xs us Q I r h
  obtain ⟨p,bs,rfl,hq,q⟩:=h
  obtain ⟨u,rfl,rx⟩:=vals1 r
  cases rx
  obtain ⟨its,rv,pl,hz⟩:=I.list hq
  obtain rfl:=yI rv
  refine call_all_walk (wpAny_pyIter_list pl.isList ?_)
  obtain ⟨o,n,e,_⟩:=id pl
  have hlt : p < s.heap.objs.size:=Heap.lt_size e
  refine ⟨s.heap.objs.size,_,_,_,_,_,fun i=>bs.getD i false,rfl,Walks.list (A:=X.A.in1) (show X.A.in1.handled = none from I.ok.hd hc) s.heap.objs.size p (Nat.ne_of_lt hlt) (bs.map Value.bool).toArray,⟨⟨_,Heap.get?_push_size _ rfl,rfl,rfl⟩,pl.isList.at fun o e=>Heap.get?_push_of_some _ e⟩,?_,fun h' tk kk=>?_⟩
  · intro i v s' Q' E' hv q'
    have hv' : v = Value.bool (bs.getD i false):=by
      have h2 : (bs.map Value.bool)[i]? = some v:=by simpa using hv
      rw [List.getElem?_map] at h2
      cases hb : bs[i]? with
      | none=>rw [hb] at h2; cases h2
      | some b =>
        rw [hb] at h2
        rw [List.getD_eq_getElem?_getD,hb]
        exact (Option.some.inj h2).symm
    rw [hv']
    exact wpAny_truthy_bool q'
  · have I1 : Inv X pins σ H { s with heap:=h',toks:=tk }:=I.kept fun b o e=>kk b o (by simp; exact Nat.ne_of_lt (Heap.lt_size e)) (Heap.get?_push_of_some _ e)
    refine ⟨.bl _,H,I1,rfl,?_⟩
    have e1 : (bs.map Value.bool).toArray.size = bs.length:=by simp
    rw [e1,Ox]
    exact q
end
end L2
set_option maxHeartbeats 4000000
namespace L2
open PySem PySem.Spec PyProof.Rows
def Ws (X : Cx) (pins : List (Addr × Obj)) (H : Hp) (h : Heap) (e : Addr) (vs : Array Value) : Option Value → Prop
  | none=>vs[1]? = some .none
  | some m=>∃ (T : Addr) (oT : Obj) (ts : Array Value),vs[1]? = some (.ref T) ∧ T ≠ e ∧ j7 X pins H T ∧ h.get? T = some oT ∧ oT.data = .fields ts ∧ ts[3]? = some m
structure XAt (X : Cx) (pins : List (Addr × Obj)) (H : Hp) (h : Heap) (e : Addr) (cls : Value) (xd : Option Addr) (m : Option Value) : Prop where
  ok : j7 X pins H e
  ex : ∃ (sl : Array (Option Value)) (vs : Array Value),h.get? e = some ⟨cls,xd,.fields vs,sl⟩ ∧ 1 < vs.size ∧ Ws X pins H h e vs m
def MOk (_ : Cx) (m : Option Value) : Prop:=m = none ∨ m = some .none ∨ ∃ v,m = some v
def XP (X : Cx) (pins : List (Addr × Obj)) (σ : St) (E : XK) (e : Value) (s' : Shared) : Prop :=
  ∃ (ea : Addr) (cls : Value) (xd : Option Addr) (m : Option Value) (H' : Hp),e = .ref ea ∧ Inv X pins σ H' s' ∧ XAt X pins H' s'.heap ea cls xd m ∧ MOk X m ∧ E cls xd H'
abbrev SXK:=St → XK
def XPS (X : Cx) (pins : List (Addr × Obj)) (E : SXK) (e : Value) (s' : Shared) : Prop:=∃ σ',XP X pins σ' (E σ') e s'
structure Fr1 (X : Cx) : Prop where
  stk : X.stack = X.env :: X.outer
  fr : X.env.frame = some X.env.locals
section
variable {X : Cx} {pins : List (Addr × Obj)} {σ : St} {H H' : Hp} {s : Shared} {e : Addr} {cls : Value} {xd : Option Addr} {m : Option Value}
theorem j7.ab7 {b : Addr} (I : Inv X pins σ H s) (f : j7 X pins H' b) : b ∉ frs X.stack:=fun z=>by
  rcases List.mem_cons.mp (I.Bv b z) with q | q
  · exact f.2.1 q
  · exact f.2.2.1 q
theorem j7.drop {pl : List (Addr × Obj)} {b : Addr} (f : j7 X (pins ++ pl) H b) : j7 X pins H b :=
  ⟨f.1,f.2.1,f.2.2.1,f.2.2.2.1,f.2.2.2.2.1,fun p hp=>f.2.2.2.2.2 p ((List.mem_append.mp hp).elim (fun z=>List.mem_append_left _ z) fun z=>List.mem_append_right _ (List.mem_append_left _ z))⟩
theorem j7.clear {b : Addr} (f : j7 X pins H b) : j7 X [] H b :=
  ⟨f.1,f.2.1,f.2.2.1,f.2.2.2.1,f.2.2.2.2.1,fun p hp=>f.2.2.2.2.2 p ((List.mem_append.mp hp).elim (fun z=>List.mem_append_left _ z) fun z=>nomatch z)⟩
theorem XAt.drop {pl : List (Addr × Obj)} {h : Heap} (x : XAt X (pins ++ pl) H h e cls xd m) : XAt X pins H h e cls xd m:=by
  obtain ⟨ok,sl,vs,he,hz,hm⟩:=x
  refine ⟨ok.drop,sl,vs,he,hz,?_⟩
  cases m with
  | none=>exact hm
  | some m=>obtain ⟨T,oT,ts,a,b,c,d⟩:=hm; exact ⟨T,oT,ts,a,b,c.drop,d⟩
theorem XAt.clear {h : Heap} (x : XAt X pins H h e cls xd m) : XAt X [] H h e cls xd m:=by
  obtain ⟨ok,sl,vs,he,hz,hm⟩:=x
  refine ⟨ok.clear,sl,vs,he,hz,?_⟩
  cases m with
  | none=>exact hm
  | some m=>obtain ⟨T,oT,ts,a,b,c,d⟩:=hm; exact ⟨T,oT,ts,a,b,c.clear,d⟩
theorem XP.drop {pl : List (Addr × Obj)} {E : XK} {v : Value} (x : XP X (pins ++ pl) σ E v s) : XP X pins σ E v s:=by
  obtain ⟨ea,cls,xd,m,H',rfl,I,hx,hm,q⟩:=x
  exact ⟨ea,cls,xd,m,H',rfl,I.lG,hx.drop,hm,q⟩
theorem RO {h' : Heap} (I : Inv X pins σ H s) (he : j7 X pins H e) (k1 : ∀ b o,b ∉ frs X.stack → b ≠ e → s.heap.get? b = some o → h'.get? b = some o)
    (k2 : ∀ b o,b ≠ e → s.heap.get? b = some o → ∃ sl,h'.get? b = some { o with slots:=sl }) : Un (frs X.stack) [e] H H s.heap h' ∧ HOk X.prog X.w H h':=by
  refine ⟨⟨fun b o q _ hb hx=>k1 b o hb (by simpa using hx) q,fun b o q _ _ hx=>k2 b o (by simpa using hx) q,fun b o _ n _=>n,fun b o q hx=>?_,fun _ _ q=>q,fun _ _ _ q=>q,fun _ ps q=>⟨#[],by rw [q]; simp⟩⟩,fun a o q=>?_⟩
  · obtain ⟨sl,z⟩:=k2 b o (by simpa using hx) q
    exact ⟨_,z⟩
  · refine (I.hok a o q).Ab (fun b u hb r=>k1 b u (fun z=>?_) (fun z=>?_) r) (fun _ z=>z) (fun _ _ z=>z)
    · have n:=I.Bw b z
      rcases hb with rfl | hb
      · rw [q] at n; cases n
      · rw [hb] at n; cases n
    · have n:=he.1
      rw [← z] at n
      rcases hb with rfl | hb
      · rw [q] at n; cases n
      · rw [hb] at n; cases n
theorem Oy {h' : Heap} (I : Inv X pins σ H s) (he : j7 X pins H e) (k1 : ∀ b o,b ∉ frs X.stack → b ≠ e → s.heap.get? b = some o → h'.get? b = some o)
    (k2 : ∀ b o,b ≠ e → s.heap.get? b = some o → ∃ sl,h'.get? b = some { o with slots:=sl }) : Inv X pins σ H { s with heap:=h' }:=by
  obtain ⟨u,ok⟩:=RO I he k1 k2
  refine I.call (g':=s.gens) (t':=s.toks) (d':=s.drawn) u ok I.bare fun b hb=>?_
  obtain rfl : b = e:=by simpa using hb
  exact ⟨he.2.2.2.1,he.2.1,he.2.2.2.2.1,he.2.2.2.2.2⟩
theorem IW {M : Model} {A : Around} {E : Value → Shared → Prop} {head : Value} {Oz : Bool} {sl : Array (Option Value)} {vs : Array Value} {Q : Unit → Shared → Prop} (F : Fr1 X) (hA : A.frames = some X.stack) (I : Inv X pins σ H s) (ok : j7 X pins H e)
    (he : s.heap.get? e = some ⟨cls,xd,.fields vs,sl⟩) (hz : 1 < vs.size) (h : ∀ s',Inv X pins σ H s' → XAt X pins H s'.heap e cls xd (some (rawInt X.env.locals)) → Q () s') :
    wpAny M A (do let a ← frameOf X.env; let pl ← entryPlaceOf X.env.locals Oz; let b ← EntryCells.newEntry head a .none (rawInt X.env.locals) .none pl; setField (.ref e) 1 b) Q E s:=by
  have nE : e ∉ frs X.stack:=ok.ab7 I
  have fs:=I.stack
  rw [F.stk] at hA fs nE
  refine wpAny_bind (wpAny_frameOf_fun hA fs F.fr fun h₁ so=>?_)
  refine wpAny_bind (wpAny_entryPlaceOf fun pl hpl=>?_)
  unfold EntryCells.newEntry newFields
  refine wpAny_bind (wpAny_newObj_type ?_ (hpl.sizeOk5 _ _ _ _ _))
  generalize ht : ([head,.ref X.env.locals,.none,rawInt X.env.locals,.none] ++ (if pl.isEmpty then List.replicate 6 Value.none else pl)).toArray = ts
  have t3 : ts[3]? = some (rawInt X.env.locals):=by rw [← ht]; simp
  have e1 : h₁.get? e = some ⟨cls,xd,.fields vs,sl⟩:=(so.2.1 e nE).trans he
  have e2:=Heap.get?_push_of_some (h:=h₁) { cls:=.type "traceback",dict:=none,data:=.fields ts } e1
  refine wpAny_setField e2 rfl hz ?_
  have sz : h₁.objs.size = s.heap.objs.size:=so.1
  have nT : h₁.objs.size ≠ e:=Nat.ne_of_gt (Heap.lt_size e1)
  have k0 : ∀ b o,b ≠ e → h₁.get? b = some o → ((h₁.push { cls:=.type "traceback",dict:=none,data:=.fields ts }).update e (Obj.mapFields (·.setIfInBounds 1 (Value.ref h₁.objs.size)))).get? b = some o:=fun b o hb q =>
    (Heap.get?_update_other _ _ (Ne.symm hb)).trans (Heap.get?_push_of_some _ q)
  have I':=Oy (h':=(h₁.push { cls:=.type "traceback",dict:=none,data:=.fields ts }).update e (Obj.mapFields (·.setIfInBounds 1 (Value.ref h₁.objs.size)))) I ok
    (fun b o hb hbe q=>k0 b o hbe ((so.2.1 b (by rw [← F.stk]; exact hb)).trans q)) (fun b o hbe q=>by obtain ⟨sl,z⟩:=so.2.2 b o q; exact ⟨sl,k0 b _ hbe z⟩)
  have fT : j7 X pins H h₁.objs.size:=I.BB (by rw [sz]; exact Nat.le_refl _) (by rw [sz]; exact I.fresh)
  have gE : ((h₁.push { cls:=.type "traceback",dict:=none,data:=.fields ts }).update e (Obj.mapFields (·.setIfInBounds 1 (Value.ref h₁.objs.size)))).get? e = some ⟨cls,xd,.fields (vs.setIfInBounds 1 (Value.ref h₁.objs.size)),sl⟩ :=
    Heap.get?_update_self (Obj.mapFields (·.setIfInBounds 1 (Value.ref h₁.objs.size))) e2 rfl
  have gT : ((h₁.push { cls:=.type "traceback",dict:=none,data:=.fields ts }).update e (Obj.mapFields (·.setIfInBounds 1 (Value.ref h₁.objs.size)))).get? h₁.objs.size = some { cls:=.type "traceback",dict:=none,data:=.fields ts } :=
    (Heap.get?_update_other _ _ (Ne.symm nT)).trans (Heap.get?_push_size h₁ rfl)
  exact h _ I' ⟨ok,sl,_,gE,by simpa using hz,h₁.objs.size,_,ts,by simp [hz],nT,fT,gT,rfl,t3⟩
theorem t9 {M : Model} {A : Around} {E : Value → Shared → Prop} {f : Option Addr} {mv : Value} {Q : Unit → Shared → Prop} (I : Inv X pins σ H s) (x : XAt X pins H s.heap e cls xd (some mv))
    (h : ∀ s',Inv X pins σ H s' → XAt X pins H s'.heap e cls xd (some (f.elim .none fun b=>rawInt b)) → Q () s') : wpAny M A (setFlight (.ref e) f) Q E s:=by
  obtain ⟨ok,sl,vs,he,hz,T,oT,ts,h1,nT,fT,hT,hd,h3⟩:=x
  unfold setFlight
  refine wpAny_bind (wpAny_field he rfl h1 ?_)
  rw [if_pos (show (Value.ref T != Value.none) = true by simp)]
  have z3 : 3 < ts.size:=(Array.getElem?_eq_some_iff.mp h3).1
  refine wpAny_setField hT hd z3 ?_
  have other : ∀ b,b ≠ T → (s.heap.update T (Obj.mapFields (·.setIfInBounds 3 (f.elim Value.none fun b=>rawInt b)))).get? b = s.heap.get? b:=fun b hb=>Heap.get?_update_other _ _ (Ne.symm hb)
  have I':=I.turned (t':=s.toks) (h':=s.heap.update T (Obj.mapFields (·.setIfInBounds 3 (f.elim Value.none fun b=>rawInt b)))) (fun b o hb q=>(other b hb).trans q) fT.1 fT.2.1 fT.2.2.2.1 fT.2.2.2.2.1 fT.2.2.2.2.2
  exact h _ I' ⟨ok,sl,vs,(other e (Ne.symm nT)).trans he,hz,T,_,_,h1,nT,fT,Heap.get?_update_self _ hT (Obj.isFreed_of_fields (Obj.data_mapFields hd _)),Obj.data_mapFields hd _,by simp [z3]⟩
theorem LV {M : Model} {A : Around} {E : Value → Shared → Prop} {Q : Unit → Shared → Prop} (F : Fr1 X) (hA : A.frames = some X.stack) (I : Inv X pins σ H s) (x : XAt X pins H s.heap e cls xd m) (hm : MOk X m)
    (h : ∀ s',Inv X pins σ H s' → XAt X pins H s'.heap e cls xd (some (rawInt X.env.locals)) → Q () s') : wpAny M A (noteFrame (.ref e) X.env) Q E s:=by
  obtain ⟨ok,sl,vs,he,hz,hv⟩:=x
  unfold noteFrame
  simp only [F.fr]
  cases m with
  | none =>
    refine wpAny_bind (wpAny_field he rfl hv ?_)
    rw [if_neg (by decide)]
    exact IW F hA I ok he hz h
  | some mv =>
    obtain ⟨T,oT,ts,h1,nT,fT,hT,hd,h3⟩:=hv
    refine wpAny_bind (wpAny_field he rfl h1 ?_)
    rw [if_pos (show (Value.ref T != Value.none) = true by simp)]
    refine wpAny_bind (wpAny_field hT hd h3 ?_)
    by_cases hmv : mv = rawInt X.env.locals
    · subst hmv
      rw [if_pos (show (rawInt X.env.locals == rawInt X.env.locals) = true by simp)]
      exact wpAny_pure (h s I ⟨ok,sl,vs,he,hz,T,oT,ts,h1,nT,fT,hT,hd,h3⟩)
    · rw [if_neg (show ¬ (mv == rawInt X.env.locals) = true from fun z=>hmv (beq_iff_eq.mp z))]
      have z3 : 3 < ts.size:=(Array.getElem?_eq_some_iff.mp h3).1
      refine wpAny_bind (wpAny_setField hT hd z3 ?_)
      have other : ∀ b,b ≠ T → (s.heap.update T (Obj.mapFields (·.setIfInBounds 3 Value.none))).get? b = s.heap.get? b:=fun b hb=>Heap.get?_update_other _ _ (Ne.symm hb)
      have I':=I.turned (t':=s.toks) (h':=s.heap.update T (Obj.mapFields (·.setIfInBounds 3 Value.none))) (fun b o hb q=>(other b hb).trans q) fT.1 fT.2.1 fT.2.2.2.1 fT.2.2.2.2.1 fT.2.2.2.2.2
      exact IW F hA I' ok ((other e (Ne.symm nT)).trans he) hz h
end
abbrev CXX (P : Program) (w : World) : CXT:=fun outer H s E e s'=>∃ (ea T : Addr) (cls : Value) (xd : Option Addr) (H' : Hp),e = .ref ea ∧ s'.os = s.os ∧ AllBare s'.gens ∧ Un (frs outer) [] H H' s.heap s'.heap ∧ HOk P w H' s'.heap ∧
  (H' ea = none ∧ s.heap.objs.size ≤ ea) ∧ (H' T = none ∧ s.heap.objs.size ≤ T) ∧ T ≠ ea ∧
  (∃ (sl : Array (Option Value)) (vs : Array Value) (oT : Obj) (ts : Array Value),s'.heap.get? ea = some ⟨cls,xd,.fields vs,sl⟩ ∧ 1 < vs.size ∧ vs[1]? = some (.ref T) ∧ s'.heap.get? T = some oT ∧ oT.data = .fields ts ∧ ts[3]? = some .none) ∧ E cls xd H'
section
variable {X : Cx} {pins : List (Addr × Obj)} {σ : St} {H : Hp} {s s' : Shared}
theorem RP {E : XK} {e : Value} (I : Inv X pins σ H s) (h : CXX X.prog X.w X.stack H s E e s') : XP X pins σ E e s':=by
  obtain ⟨ea,T,cls,xd,H',rfl,os,bare,un,hok,⟨e1,e2⟩,⟨t1,t2⟩,ne,⟨sl,vs,oT,ts,g1,g2,g3,g4,g5,g6⟩,q⟩:=h
  have I' : Inv X pins σ H' s':=I.Lj (ch:=[]) os un hok bare fun b z=>absurd z (by simp)
  exact ⟨ea,cls,xd,some .none,H',rfl,I',⟨I.BB e2 e1,sl,vs,g1,g2,T,oT,ts,g3,ne,I.BB t2 t1,g4,g5,g6⟩,.inr (.inl rfl),q⟩
theorem BO : Passes (CXX X.prog X.w) X E0:=fun _ _ _ _ _ _ _ ⟨_,_,_,_,_,_,_,_,_,_,_,_,_,_,z⟩=>z.elim
end
section
variable {P : Program} {w : World} {K : PySem.W.Frag} {mg : Str → Option Value} {base : Heap} {k : Nat} {f : Addr} {fd : FuncData} {ps : List Str} {sp : Sp}
theorem aw.calm (F : aw P w K mg base (CXX P w) k f fd ps sp) (h : ∀ vs H Q E,sp vs H Q E → sp vs H Q E0) : aw P w K mg base CX0 k f fd ps sp:=by
  refine ⟨F.len,fun A outer s H args us vs Q E hr he hb hv hs=>codeAny_mono (F.run A outer s H args us vs Q E0 hr he hb hv (h _ _ _ _ hs)) fun r s' q=>?_⟩
  cases r with
  | error e=>obtain ⟨_,_,_,_,_,_,_,_,_,_,_,_,_,_,z⟩:=q; exact z.elim
  | ok fl=>cases fl <;> exact q
theorem OA {N : List Str} {qual : Str} {scope : Scope} {cd : Value} {A : Around} {outer : List Env} {s s' : Shared} {H : Hp} {E : XK} {e : Value} {pins : List (Addr × Obj)}
    (h : XPS (tY (CXX P w) P w K mg base N qual scope f cd A outer s H E) pins (fun _=>E) e s') : (tY (CXX P w) P w K mg base N qual scope f cd A outer s H E).xe e s':=by
  obtain ⟨σ',ea,cls,xd,m,H',rfl,I,hx,hm,q⟩:=h
  have fr : (tY (CXX P w) P w K mg base N qual scope f cd A outer s H E).A.frames = some (tY (CXX P w) P w K mg base N qual scope f cd A outer s H E).stack:=I.ok.frames
  have F1 : Fr1 (tY (CXX P w) P w K mg base N qual scope f cd A outer s H E):=⟨rfl,rfl⟩
  show wpAny _ _ (leaving (tY (CXX P w) P w K mg base N qual scope f cd A outer s H E).env (.ref ea)) _ _ s'
  unfold leaving
  refine wpAny_bind (LV F1 fr I hx hm fun s1 I1 x1=>t9 I1 x1 fun s2 I2 x2=>?_)
  obtain ⟨ok,sl,vs,he,hz,T,oT,ts,h1,nT,fT,hT,hd,h3⟩:=x2
  have old : ∀ {b : Addr},j7 (tY (CXX P w) P w K mg base N qual scope f cd A outer s H E) pins H' b → s.heap.objs.size ≤ b:=fun {b} z=>by
    rcases z.2.2.2.1 with y | y
    · exact absurd (show b ∈ ([] : List Addr) from y) (by simp)
    · exact y
  exact ⟨ea,T,cls,xd,H',rfl,I2.os,I2.bare,I2.base,I2.hok,⟨ok.1,old ok⟩,⟨fT.1,old fT⟩,nT,⟨sl,vs,oT,ts,he,hz,h1,hT,hd,h3⟩,q⟩
end
abbrev TEX:=St → Hp → VK → XK → Prop
abbrev TAX:=St → Hp → (List V → Hp → Prop) → XK → Prop
abbrev TSX:=Ends → SXK → St → Hp → Prop
def PEX (X : Cx) (e : Expr) (t : TEX) : Prop :=
  ∀ (pins : List (Addr × Obj)) (s : Shared) (σ : St) (H : Hp) (Q : VK) (E : XK),Inv X pins σ H s → t σ H Q E → wpAny (model X.prog X.w) X.A (eval e X.env) (EP X pins σ Q) (XP X pins σ E) s
def PAX (X : Cx) (es : List Expr) (t : TAX) : Prop :=
  ∀ (pos : Pos) (pins : List (Addr × Obj)) (s : Shared) (σ : St) (H : Hp) (Q : List V → Hp → Prop) (E : XK),Inv X pins σ H s → t σ H Q E → wpAny (model X.prog X.w) X.A (spliced (backTo pos (starEach es X.env))) (AP X pins σ Q) (XP X pins σ E) s
def PSX (X : Cx) (st : Stmt) (t : TSX) : Prop :=
  ∀ (pins : List (Addr × Obj)) (s : Shared) (σ : St) (H : Hp) (D : Ends) (E : SXK),Inv X pins σ H s → t D E σ H → wpAny (model X.prog X.w) X.A (exec st X.env) (SP X pins D) (XPS X pins E) s
def C7 (X : Cx) (st : List Stmt) (t : TSX) : Prop :=
  ∀ (pins : List (Addr × Obj)) (s : Shared) (σ : St) (H : Hp) (D : Ends) (E : SXK),Inv X pins σ H s → t D E σ H → wpAny (model X.prog X.w) X.A (execs st X.env) (SP X pins D) (XPS X pins E) s
section
variable {X : Cx} {e : Expr} {es : List Expr} {st : Stmt} {sts : List Stmt} {te : TE} {ta : TA} {ts : TS} {pos : Pos}
theorem EP.eK {pins : List (Addr × Obj)} {σ : St} {Q : VK} {u : Value} {s' : Shared} {W : Value → Shared → Prop} (h : EP (X.nZ W) pins σ Q u s') : EP X pins σ Q u s':=by
  obtain ⟨v,H',I,r,q⟩:=h; exact ⟨v,H',I.eK,r,q⟩
theorem px (h : PE X.nox e te) : PEX X e (fun σ H Q _=>te σ H Q):=fun pins s σ H Q _ I hw =>
  wpAny_mono (h pins s σ H Q (I.nZ _) hw) (fun _ _ q=>q.eK) fun _ _ z=>False.elim z
theorem pax (h : PA X.nox es ta) : PAX X es (fun σ H Q _=>ta σ H Q):=fun pos pins s σ H Q _ I hw =>
  wpAny_mono (h pos pins s σ H Q (I.nZ _) hw) (fun _ _ ⟨vs,H',I',r,q⟩=>⟨vs,H',I'.eK,r,q⟩) fun _ _ z=>False.elim z
theorem psx (h : PS X.nox st ts) : PSX X st (fun D _ σ H=>ts D σ H):=fun pins s σ H D _ I hw =>
  wpAny_mono (h pins s σ H D (I.nZ _) hw) (fun _ _ q=>q.eK) fun _ _ z=>False.elim z
theorem qB (h : PSs X.nox sts ts) : C7 X sts (fun D _ σ H=>ts D σ H):=fun pins s σ H D _ I hw =>
  wpAny_mono (h pins s σ H D (I.nZ _) hw) (fun _ _ q=>q.eK) fun _ _ z=>False.elim z
theorem aL {t1 t2 : TSX} (h1 : PSX X st t1) (h2 : C7 X sts t2) : C7 X (st :: sts) (fun D E σ H=>t1 { D with nx:=t2 D E } E σ H):=by
  intro pins s σ H D E I h
  refine wpAny_execs_cons (thn (h1 pins s σ H { D with nx:=t2 D E } E I h) fun f s1 q=>?_)
  cases f with
  | next =>
    obtain ⟨σ',H',I',q⟩:=q
    exact h2 pins s1 σ' H' D E I' q
  | ret v=>exact q
  | brk=>exact q
  | cont=>exact q
theorem bq {t1 : TSX} (h1 : PSX X st t1) : C7 X [st] t1:=by
  intro pins s σ H D E I h
  refine wpAny_execs_cons (thn (h1 pins s σ H D E I h) fun f s1 q=>?_)
  cases f with
  | next=>exact wpAny_execs_nil q
  | ret v=>exact q
  | brk=>exact q
  | cont=>exact q
theorem eM {c : Expr} {a b : List Stmt} {tc : TT} {t1 t2 : TSX} (hc : PT X.nox c tc) (ha : C7 X a t1) (hb : C7 X b t2) : PSX X (.If c a b pos) (fun D E σ H=>tc σ H fun d H1=>if d = true then t1 D E σ H1 else t2 D E σ H1):=by
  intro pins s σ H D E I h
  refine wpAny_If (wpAny_mono (hc pins s σ H _ (I.nZ _) h) (fun d s1 ⟨H1,I1,q1⟩=>?_) fun _ _ z=>False.elim z)
  cases d with
  | true=>exact ha pins s1 σ H1 D E I1.eK q1
  | false=>exact hb pins s1 σ H1 D E I1.eK q1
theorem lI {t : TEX} (he : PEX X e t) (hs : swapsWith e none pos.line X.env = pure false:=by rfl) : PSX X (.Expr e pos) (fun D E σ H=>t σ H (fun _ H1=>D.nx σ H1) (E σ)):=by
  intro pins s σ H D E I h
  exact wpAny_Expr_any (wpAny_mono (he pins s σ H _ _ I h) (fun v s1 ⟨x,H1,I1,r1,q1⟩=>⟨σ,H1,I1,q1⟩) fun _ _ z=>⟨σ,z⟩) I.quiet hs
theorem mT {t : TEX} (he : PEX X e t) : PSX X (.Return (some e) pos) (fun D E σ H=>t σ H D.rt (E σ)):=by
  intro pins s σ H D E I h
  exact wpAny_Return_some (wpAny_mono (he pins s σ H _ _ I h) (fun v s1 ⟨x,H1,I1,r1,q1⟩=>⟨x,σ,H1,I1,r1,q1⟩) fun _ _ z=>⟨σ,z⟩)
theorem IZ {i : Nat} {x : Str} {t : TEX} {pos' : Pos} (hN : X.N.Nodup) (hi : X.N[i]? = some x) (hx : Loc X.env.scope x) (he : PEX X e t) (hs : swapsWith e (some (.Name x pos')) pos.line X.env = pure false:=by rfl) (hf : X.fn x = true ∨ X.env.scope.names.lookup x = some .local:=by first | exact .inl rfl | exact .inr rfl | assumption) :
    PSX X (.Assign [.Name x pos'] e pos) (fun D E σ H=>t σ H (fun v H1=>D.nx (σ.set i (some v)) H1) (E σ)):=by
  intro pins s σ H D E I h
  refine wpAny_Assign_Name (wpAny_mono (he pins s σ H _ _ I h) (fun v s1 ⟨y,H1,I1,r1,q1⟩=>?_) fun _ _ z=>⟨σ,z⟩) hs
  exact nY I1 hN hi hx r1 (fun s2 I2=>⟨_,H1,I2,q1⟩) hf
end
section
variable {X : Cx} {k : Nat} {f C : Addr} {fd : FuncData} {ps : List Str} {sp : Sp} {x m : Str} {p pos apos : Pos} {e o : Expr} {es : List Expr} {t : TAX}
theorem BP {pins : List (Addr × Obj)} {σ : St} {H : Hp} {s : Shared} {Q : VK} {E : XK} {us : List Value} {vs : List V} (F : aw X.prog X.w X.K X.mg X.base (CXX X.prog X.w) k f fd ps sp) (hr : Room k X.A) (hb : Binds X.K fd ps [])
    (I : Inv X pins σ H s) (r : Vals vs us) (h : sp vs H Q E) : wpAny (model X.prog X.w) X.A (call (.ref f) us) (EP X pins σ Q) (XP X pins σ E) s:=by
  have hl : (us ++ []).length = ps.length:=by rw [List.append_nil,← r.length]; exact F.len _ _ _ _ h
  have b:=hb s us I.kIn hl
  rw [List.append_nil] at b
  refine wpAny_call (codeAny_mono (F.run X.A X.stack s H ⟨us,[]⟩ us vs Q E hr I.Oh b r h) fun r s' hq=>?_)
  cases r with
  | error e=>exact RP I hq
  | ok fl =>
    cases fl with
    | ret u=>exact I.after hq
    | next=>exact False.elim hq
    | brk=>exact False.elim hq
    | cont=>exact False.elim hq
theorem n8 (F : aw X.prog X.w X.K X.mg X.base (CXX X.prog X.w) k f fd ps sp) (hr : Room k X.A) (hg : Gl X x) (hm : X.mg x = some (.ref f)) (hk : PySem.W.keepIn X.K (.ref f) = true) (hb : Binds X.K fd ps []) (ha : PAX X (e :: es) t)
    (hdb : (x == ("__debug__" : Str)) = false:=by decide) (he : starEach (e :: es) X.env = (false,eval e X.env) :: starEach es X.env:=by rfl) (hpl : (backTo pos (starEach es X.env)).any (·.1) = false:=by rfl) :
    PEX X (.Call (.Name x p) (e :: es) [] pos) (fun σ H Q E=>t σ H (fun vs H1=>sp vs H1 Q E) E):=by
  intro pins s σ H Q E I h
  refine wpAny_Call_Name_kw (kT I hg hm ?_ hdb)
  exact PySem.W.callWith_K (h₀:=X.base) I.ok.mod.kin hk (thn (ha pos pins s σ H _ E I h) fun us s1 ⟨vs,H1,I1,r,q⟩=>⟨I1.kIn,BP F hr hb I1 r q⟩) he hpl
theorem lJ {pl : Sem Bool} {ta : TEX} (he : PEX X o ta) (c : Cls X.K C) (hm : Meth X.K C m f) (F : aw X.prog X.w X.K X.mg X.base (CXX X.prog X.w) k f fd ps sp) (hr : Room k X.A) (hb : Binds X.K fd ps []) (ha : PAX X (e :: es) t)
    (hst : starEach (e :: es) X.env = (false,eval e X.env) :: starEach es X.env:=by rfl) (hpl : (backTo pos (starEach es X.env)).any (·.1) = false:=by rfl)
    (ht : eval (.Call (.Attribute o m apos) (e :: es) [] pos) X.env = (do
      let ov ← eval o X.env
      standAt apos.atName
      let (f,first) ← holding [ov] (getMethod ov m pl)
      callWith pos f first (backTo pos (starEach (e :: es) X.env)) (backToKw pos (keywordEach [] X.env))):=by rfl) :
    PEX X (.Call (.Attribute o m apos) (e :: es) [] pos) (fun σ H Q E=>ta σ H (fun x H1=>∃ a dx fs,x = .ref a ∧ H1 a = some (.ins C dx fs) ∧ fs.lookup m = none ∧ t σ H1 (fun vs H2=>sp (x :: vs) H2 Q E) E) E):=by
  intro pins s σ H Q E I h
  refine PySem.W.methodCall_KW (pl:=pl) (thn (he pins s σ H _ E I h) fun u s1 ⟨x,H1,I1,rx,a,dx,fs,ex,ea,l,q⟩=>?_) ht
  subst ex
  obtain rfl : u = Value.ref a:=rx
  refine jf I1 ea c hm l ?_
  exact PySem.W.callWith_K (first:=[.ref a]) (h₀:=X.base) I.ok.mod.kin hm.kp (thn (ha pos pins s1 σ H1 _ E I1 q) fun us s2 ⟨vs,H2,I2,r,q2⟩=>⟨I2.kIn,BP (us:=.ref a :: us) (vs:=.ref a :: vs) F hr hb I2 (.cons rfl r) q2⟩) hst hpl
theorem rQ {pl : Sem Bool} {ta : TEX} (he : PEX X o ta) (c : Cls X.K C) (hm : Meth X.K C m f) (F : aw X.prog X.w X.K X.mg X.base (CXX X.prog X.w) k f fd ps sp) (hr : Room k X.A) (hb : Binds X.K fd ps [])
    (ht : eval (.Call (.Attribute o m apos) [] [] pos) X.env = (do
      let ov ← eval o X.env
      standAt apos.atName
      let (f,first) ← holding [ov] (getMethod ov m pl)
      callWith pos f first (backTo pos (starEach [] X.env)) (backToKw pos (keywordEach [] X.env))):=by rfl) :
    PEX X (.Call (.Attribute o m apos) [] [] pos) (fun σ H Q E=>ta σ H (fun x H1=>∃ a dx fs,x = .ref a ∧ H1 a = some (.ins C dx fs) ∧ fs.lookup m = none ∧ sp [x] H1 Q E) E):=by
  intro pins s σ H Q E I h
  refine PySem.W.methodCall_KW (pl:=pl) (thn (he pins s σ H _ E I h) fun u s1 ⟨x,H1,I1,rx,a,dx,fs,ex,ea,l,q⟩=>?_) ht
  subst ex
  obtain rfl : u = Value.ref a:=rx
  refine jf I1 ea c hm l ?_
  exact PySem.W.callWith_K0 (first:=[.ref a]) I1.kIn hm.kp (BP (us:=[.ref a]) (vs:=[.ref a]) F hr hb I1 (.cons rfl .nil) q)
end
section
variable {P : Program} {w : World} {K : PySem.W.Frag} {mg : Str → Option Value} {base : Heap}
theorem Fun.okX {x qual : Str} {st : Stmt} {f : Addr} {fd : FuncData} {N ps : List Str} {k : Nat} {sp : Sp} (F : Fun K x qual st f fd) (S : aB N ps (af st)) (len : ∀ vs H Q E,sp vs H Q E → vs.length = ps.length)
    (CZ : ∀ (cdv : Value) (A : Around) (outer : List Env) (s : Shared) (H : Hp) (vs : List V) (Q : VK) (E : XK),Room k (A.deeper (envOfC qual (af st) s.heap.objs.size f cdv)) → sp vs H Q E →
      ∃ t,C7 (tY (CXX P w) P w K mg base N qual (af st) f cdv A outer s H E) (ax st) t ∧ t { nx:=fun _ H'=>Q .non H',rt:=Q } (fun _=>E) (start N vs) H) : aw P w K mg base (CXX P w) (k + 1) f fd ps sp:=by
  obtain ⟨oc,od,kV,doc,pm,an,cdv,ct,osl,rfl,lk,hcd⟩:=F.ex
  refine PX lk hcd S len fun A outer s H vs Q E hr hsp=>?_
  obtain ⟨t,h,q⟩:=CZ cdv A outer s H vs Q E hr hsp
  exact ⟨fun D σ H=>t D (fun _=>E) σ H,fun pins s1 σ H1 D I hw=>wpAny_mono (h pins s1 σ H1 D _ I hw) (fun _ _ z=>z) fun _ _ z=>OA z,q⟩
end
end L2
set_option maxHeartbeats 4000000
namespace L2
open PySem PySem.Spec PyProof.Rows
def xo (a : Addr) (cls : Value) (xd : Option Addr) : HO:=.ext fun h=>∃ (sl : Array (Option Value)) (vs : Array Value),h.get? a = some ⟨cls,xd,.fields vs,sl⟩
abbrev hcx (X : Cx) (e : Addr) : Cx:={ X with A:=X.A.mark (some (.ref e)),calm:=false,xe:=fun _ _=>False }
section
variable {X : Cx} {pins : List (Addr × Obj)} {σ : St} {H : Hp} {s : Shared} {e : Addr} {cls : Value} {xd : Option Addr} {m : Option Value}
theorem LW (I : Inv X pins σ H s) (e : Addr) : Inv (hcx X e) pins σ H s :=
  ⟨⟨I.ok.mod,I.ok.kind,I.ok.glob,I.ok.blt,I.ok.above,I.ok.inj,I.ok.has,I.ok.cab,fun z=>absurd (show false = true from z) Bool.false_ne_true,I.ok.frames,I.ok.stk,I.ok.exf,I.ok.bs,I.ok.bsz,I.ok.F8,I.ok.F9,I.ok.sQ,I.ok.frf⟩,I.os,I.bare,I.base,I.loc,I.cell,I.free,I.nX,I.pin,I.hok,I.len⟩
theorem yi (ok : X.Ok) (I : Inv (hcx X e) pins σ H s) : Inv X pins σ H s:=⟨ok,I.os,I.bare,I.base,I.loc,I.cell,I.free,I.nX,I.pin,I.hok,I.len⟩
theorem OB (I : Inv X pins σ H s) (x : XAt X pins H s.heap e cls xd m) : Inv X pins σ (upd H e (xo e cls xd)) s:=by
  obtain ⟨ok,sl,vs,he,hz,_⟩:=x
  have nb : ∀ b u,H b = some u → b ≠ e:=fun b u q z=>by rw [z,ok.1] at q; cases q
  have hk : HOk X.prog X.w (upd H e (xo e cls xd)) s.heap:=fun b u q=>by
    by_cases hb : b = e
    · subst hb
      rw [ae] at q
      cases q
      exact ⟨⟨sl,vs,he⟩,⟨_,he⟩,fun h1 h2 ⟨sl',vs',z⟩ k=>⟨sl',vs',k _ z⟩⟩
    · rw [aq hb] at q
      exact (I.hok b u q).Ab (fun c v _ r=>r) (fun c r=>by rw [aq (nb c _ r)]; exact r) fun c xs r=>by rw [aq (nb c _ r)]; exact r
  exact I.step (g':=s.gens) (t':=s.toks) (d':=s.drawn) (h':=s.heap) (ch:=[e]) (fun b hb=>by
      obtain rfl : b = e:=by simpa using hb
      exact ⟨ok.2.2.2.1,ok.2.1,ok.2.2.2.2.1,ok.2.2.2.2.2⟩)
    (fun _ _ _ _ _ q _=>q) (fun b o _ _ _ q _=>⟨o.slots,q⟩) (fun b o hb _ n=>by rw [aq (by simpa using hb)]; exact n) (fun b o _ q=>⟨o,q⟩)
    (fun b xs q=>by rw [aq (nb b _ q)]; exact q) (fun b o u q=>by rw [aq (nb b _ q)]; exact q) (fun b ps q=>⟨#[],by rw [aq (nb b _ q),q]; simp⟩) (fun _ q=>q) hk I.bare
theorem BQ {M : Model} {A : Around} {E : Value → Shared → Prop} {n : Str} {i : Nat} {pos : Pos} {Q : Unit → Shared → Prop} (I : Inv X pins σ H s) (hN : X.N.Nodup) (hi : X.N[i]? = some n) (hl : X.env.kindOf n = some .local)
    (h : ∀ s',Inv X pins (σ.set i none) H s' → Q () s') : wpAny M A (do bindName X.env n .none; unbindBehindTheSuite X.env n pos) Q E s:=by
  obtain ⟨mm,hn,ab8⟩:=I.loc
  refine wpAny_nameGoes_keeps hl hn (by rw [I.ok.kind]; rfl) fun h' v hn' sb=>h _ ?_
  have ol : ∃ o,s.heap.get? X.env.locals = some o ∧ H X.env.locals = none:=by obtain ⟨o,_,_,ho,_⟩:=hn; exact ⟨o,ho,I.free⟩
  have keep : ∀ b o,b ≠ X.env.locals → s.heap.get? b = some o → h'.get? b = some o:=fun b o hb q=>(sb.2 b hb).trans q
  have below : ∀ {b : Addr} {o : Obj},X.s₀.heap.get? b = some o → b ≠ X.env.locals:=fun {b o} q=>Nat.ne_of_lt (Nat.lt_of_lt_of_le (Heap.lt_size q) I.ok.above)
  refine ⟨I.ok,I.os,I.bare,⟨fun b o q nn hb hx=>keep b o (below q) (I.base.keep b o q nn hb hx),fun b o q nn hb hx=>?_,I.base.free,fun b o q hx=>?_,I.base.tU,I.base.sP,I.base.tV⟩,⟨_,hn',fun j y w e1 e2 e3=>?_⟩,fun y c ec=>?_,I.free,I.nX,fun p hp=>?_,fun b u q=>?_,by rw [List.length_set]; exact I.len⟩
  · obtain ⟨sl,z⟩:=I.base.slot b o q nn hb hx
    exact ⟨sl,keep b _ (below q) z⟩
  · obtain ⟨o',z⟩:=I.base.there b o q hx
    exact ⟨o',keep b _ (below q) z⟩
  · have hj : j ≠ i:=fun z=>by
      subst z
      by_cases hlt : j < σ.length
      · rw [List.getElem?_set_self hlt] at e2; cases e2
      · rw [List.getElem?_eq_none_iff.mpr (by rw [List.length_set]; omega)] at e2; cases e2
    rw [List.getElem?_set_ne (Ne.symm hj)] at e2
    obtain ⟨u,r,q⟩:=ab8 j y w e1 e2 e3
    refine ⟨u,r,?_⟩
    rcases q with ⟨k,z⟩ | ⟨k,c,z,hc⟩
    · have : y ≠ n:=fun z=>hj (yx hN e1 (z ▸ hi))
      exact .inl ⟨k,by simp only [this,if_false]; exact z⟩
    · obtain ⟨o,ho,hd⟩:=hc
      exact .inr ⟨k,c,z,o,keep c o (I.cne y c z) ho,hd⟩
  · obtain ⟨v',o,ho,hd⟩:=I.cell y c ec
    exact ⟨v',o,keep c o (I.cne y c ec) ho,hd⟩
  · obtain ⟨a1,a2,a3,a4,a5⟩:=I.pin p hp
    exact ⟨keep p.1 p.2 a3 a1,a2,a3,a4,a5⟩
  · refine (I.hok b u q).Ab (fun c v hc r=>keep c v (fun z=>?_) r) (fun _ z=>z) fun _ _ z=>z
    have fr:=I.free
    rw [← z] at fr
    rcases hc with rfl | hc
    · rw [q] at fr; cases fr
    · rw [hc] at fr; cases fr
end
abbrev THX:=Ends → SXK → St → XK
def PHX (X : Cx) (hs : List ExceptHandler) (t : THX) : Prop :=
  ∀ (pins : List (Addr × Obj)) (s : Shared) (σ : St) (H : Hp) (D : Ends) (E : SXK) (ea : Addr) (cls : Value) (xd : Option Addr),Inv X pins σ H s → XAt X pins H s.heap ea cls xd (some .none) → t D E σ cls xd H →
    wpAny (model X.prog X.w) X.A (handleBy (.ref ea) X.env hs) (SP X pins D) (XPS X pins E) s
section
variable {X : Cx} {x n : Str} {C : Addr} {np pos : Pos} {b₀ : Stmt} {PY : List Stmt} {rest : List ExceptHandler} {ts : TS} {tr : THX}
theorem OC (F : Fr1 X) : PHX X [] (fun _ E σ cls xd H=>E σ cls xd H):=by
  intro pins s σ H D E ea cls xd I hx h
  refine wpAny_handleBy_nil ?_
  unfold PySem.passOn
  obtain ⟨ok,sl,vs,he,hz,T,oT,ts,h1,r⟩:=id hx
  refine wpAny_bind (wpAny_field he rfl h1 ?_)
  rw [if_neg (show ¬ ((Value.ref T == Value.none) = true) by simp)]
  have step : wpAny (model X.prog X.w) X.A (do setFlight (.ref ea) X.env.frame; throw (.ref ea) : Sem Flow) (SP X pins D) (XPS X pins E) s :=
    wpAny_bind (t9 I hx fun s2 I2 x2=>wpAny_throw ⟨σ,ea,cls,xd,_,H,rfl,I2,x2,by rw [F.fr]; exact .inr (.inr ⟨_,rfl⟩),h⟩)
  first
    | exact step
    | exact wpAny_bind (wpAny_pure step)
theorem Wt {pins : List (Addr × Obj)} {s : Shared} {σ : St} {H : Hp} {ea : Addr} {cls : Value} {xd : Option Addr} {b : Bool} {E : Value → Shared → Prop} {R : Bool → Shared → Prop} (I : Inv X pins σ H s) (hx : XAt X pins H s.heap ea cls xd (some .none))
    (hg : Gl X x) (hm : X.mg x = some (.ref C)) (eb : PySem.W.exmOne X.K cls (.ref C) = some b) (h : R b s) (hd : (x == ("__debug__" : Str)) = false:=by decide) :
    wpAny (model X.prog X.w) (X.A.mark (some (.ref ea))) (eval (.Name x np) X.env) (fun c s₁=>wpAny (model X.prog X.w) (X.A.mark (some (.ref ea))) (excMatches (.ref ea) c) R E s₁) E s:=by
  obtain ⟨_,sl,vs,he,_⟩:=hx
  refine kT (LW I ea) hg hm ?_ hd
  have lt : PySem.W.Looks (model X.prog X.w) s.heap (typeOf (.ref ea)) cls:=(PySem.W.Looks.ld he).andThen .now
  exact PySem.W.exm_one I.kIn lt eb _ _ _ s (fun _ _ q=>q) h
def LX (D : Ends) (i : Nat) : Ends:={ nx:=fun σ H=>D.nx (σ.set i none) H,rt:=D.rt,bk:=fun σ H=>D.bk (σ.set i none) H,ct:=fun σ H=>D.ct (σ.set i none) H }
theorem RQ {i : Nat} (hN : X.N.Nodup) (hi : X.N[i]? = some n) (hl : X.env.scope.names.lookup n = some .local) (hg : Gl X x) (hm : X.mg x = some (.ref C)) (hs : ∀ e,PSs (hcx X e) (b₀ :: PY) ts) (hr : PHX X rest tr) (hd : (x == ("__debug__" : Str)) = false:=by decide) :
    PHX X (.ExceptHandler (some (.Name x np)) (some n) (b₀ :: PY) pos :: rest) (fun D E σ cls xd H=>∃ b,PySem.W.exmOne X.K cls (.ref C) = some b ∧ if b = true then ∀ ea,H ea = none → ts (LX D i) (σ.set i (some (.ref ea))) (upd H ea (xo ea cls xd)) else tr D E σ cls xd H):=by
  intro pins s σ H D E ea cls xd I hx h
  obtain ⟨b,eb,h⟩:=h
  refine wpAny_handleBy_cons (codeAny_handlers_test (Wt I hx hg hm eb ?_ hd)) (by intro q; cases q)
  cases b with
  | true =>
    refine codeAny_handlers_suite_as (t9 I hx fun s1 I1 x1=>?_)
    refine nY (X:=hcx X ea) (v:=.ref ea) (LW (OB I1 x1) ea) hN hi (.inl hl) rfl (fun s2 I2=>?_) (.inr hl)
    refine wpAny_mono (hs ea pins s2 _ _ (LX D i) I2 (h ea hx.ok.1)) (fun f s3 q=>?_) fun _ _ z=>False.elim z
    show wpAny _ _ _ _ _ _
    cases f with
    | next=>obtain ⟨σ',H',I',q⟩:=q; exact BQ (yi I.ok I') hN hi hl fun s4 I4=>⟨_,H',I4,q⟩
    | brk=>obtain ⟨σ',H',I',q⟩:=q; exact BQ (yi I.ok I') hN hi hl fun s4 I4=>⟨_,H',I4,q⟩
    | cont=>obtain ⟨σ',H',I',q⟩:=q; exact BQ (yi I.ok I') hN hi hl fun s4 I4=>⟨_,H',I4,q⟩
    | ret u=>obtain ⟨v,σ',H',I',r,q⟩:=q; exact BQ (yi I.ok I') hN hi hl fun s4 I4=>⟨v,_,H',I4,r,q⟩
  | false=>exact hr pins s σ H D E ea cls xd I hx h
theorem OD {body : List Stmt} {h₀ : ExceptHandler} {hs : List ExceptHandler} {tb : TSX} {th : THX} (F : Fr1 X) (hb : C7 X body tb) (hh : PHX X (h₀ :: hs) th) :
    PSX X (.Try body (h₀ :: hs) [] [] pos) (fun D E σ H=>tb D (fun σ' cls xd H'=>th D E σ' cls xd H') σ H):=by
  intro pins s σ H D E I h
  refine wpAny_Try_except (wpAny_mono (hb pins s σ H D _ I h) (fun f s1 q=>?_) (fun v s1 q=>?_))
  · cases f with
    | next=>exact wpAny_execs_nil q
    | ret v=>exact q
    | brk=>exact q
    | cont=>exact q
  · obtain ⟨σ',ea,cls,xd,m,H',rfl,I1,hx,hm,q⟩:=q
    exact LV F I1.ok.frames I1 hx hm fun s2 I2 x2=>t9 I2 x2 fun s3 I3 x3=>hh pins s3 σ' H' D E ea cls xd I3 x3 q
end
structure GaX (K : PySem.W.Frag) (C : Addr) : Prop where
  ga : PySem.W.findIn K (.ref C) "__getattribute__" = some (some (.builtin "BaseException.__getattribute__"))
  hk : PySem.W.findIn K (.ref C) "__getattr__" = some none
  mb : PySem.W.mroIn K C (.type "BaseException") = some true
theorem C8 : Slot "ValueError" "__getattribute__" "BaseException.__getattribute__":=F.attr_ValueError.ga
section
variable {prog : Program} {w : World} {A : Around} {E : Value → Shared → Prop} {s : Shared} {K : PySem.W.Frag} {x C : Addr} {ox : Obj} {od : Option Obj} {name : Str}
theorem LY {M : Model} {PZ : Value} {Q : Unit → Shared → Prop} (X : K.In s.heap) (I : PySem.W.InstAt s.heap x ox C od) (t : GaX K C) (hq : Q () s) :
    wpAny M A (checkBuiltinCall "BaseException.__getattribute__" ⟨[.ref x,PZ],[]⟩) Q E s:=by
  have hk : builtinKind "BaseException.__getattribute__" = some .slot:=by decide +kernel
  have RS : splitId "BaseException.__getattribute__" = some ("BaseException","__getattribute__"):=by decide +kernel
  have L0:=I.type (M:=M)
  have L1:=PySem.W.looks_mroIn (M:=M) X t.mb
  have ha:=F.args_bexc_ga (.ref x) PZ
  obtain ⟨hh,g,d,tt,os⟩:=s
  simp only [checkBuiltinCall,hk,RS]
  refine wpAny_bind ?_
  unfold isInstance
  refine wpAny_bind (L0.at (L1.at ?_))
  repeat (any_goals (first | assumption | wp_step))
def adW (v : Value) (Q : Value → Shared → Prop) : Fin → Shared → Prop:=fun fin s'=>match fin with | .done (.ret u)=>u = v ∧ Q u s' | _=>False
theorem LZ {tk : Tok} {v : Value} {Q : Fin → Shared → Prop} (X : K.In s.heap) (I : PySem.W.InstAt s.heap x ox C od) (hf : PySem.W.findObj K C od name = some (.value v)) (hq : Q (.done (.ret v)) s) :
    wpAny (model prog w) A (Builtin.«object.__getattribute__» ⟨[.ref x,.str name tk],[]⟩) Q E s:=by
  obtain ⟨hh,g,d,tt,os⟩:=s
  have L0:=I.type (M:=model prog w)
  have L1:=PySem.W.looks_find (M:=model prog w) X I hf
  unfold Builtin.«object.__getattribute__»
  refine wpAny_bind (wpAny_pure (wpAny_bind (wpAny_pure (wpAny_bind (L0.at (wpAny_bind (L1.at ?_)))))))
  exact wpAny_pure hq
theorem J0 {tk : Tok} {g a : Value} {P : Value → Shared → Prop} (X : K.In s.heap) (I : PySem.W.InstAt s.heap x ox C od) (hf : PySem.W.findObj K C od name = some (.bind g a)) (h : wpAny (model prog w) A (call g [a,.ref x,.ref C]) P E s) :
    wpAny (model prog w) A (Builtin.«object.__getattribute__» ⟨[.ref x,.str name tk],[]⟩) (fun fin s'=>match fin with | .done (.ret v)=>P v s' | _=>False) E s:=by
  obtain ⟨hh,gg,d,tt,os⟩:=s
  have L0:=I.type (M:=model prog w)
  have L1:=PySem.W.looks_find (M:=model prog w) X I hf
  unfold Builtin.«object.__getattribute__»
  refine wpAny_bind (wpAny_pure (wpAny_bind (wpAny_pure (wpAny_bind (L0.at (wpAny_bind (L1.at ?_)))))))
  show wpAny _ _ (holding [a] (call g [a,.ref x,.ref C]) >>= ret) _ _ _
  exact wpAny_bind (wpAny_holding (wpAny_mono h (fun v s' z=>wpAny_pure z) fun _ _ z=>z))
theorem P0 {tk : Tok} {fill ex : Bool} {Q : Value → Shared → Prop} (X : K.In s.heap) (I : PySem.W.InstAt s.heap x ox C od) (t : GaX K C)
    (h : wpAny (model prog w) A.in1 (Builtin.«object.__getattribute__» ⟨[.ref x,.str name tk],[]⟩) (fun fin s'=>match fin with | .done (.ret v)=>PySem.W.handedIn v = true ∧ Q v s' | _=>False) (fun _ _=>False) s) :
    wpAny (model prog w) A (getAttrBy (.ref x) (.str name tk) fill ex) Q E s:=by
  obtain ⟨hh,g,d,tt,os⟩:=s
  have L0:=I.type (M:=model prog w)
  have L1:=PySem.W.looks_findIn (M:=model prog w) X t.ga
  have L2:=PySem.W.looks_findIn (M:=model prog w) X t.hk
  unfold getAttrBy
  refine wpAny_holding (wpAny_bind (L0.at (wpAny_bind (L1.at ?_))))
  show wpAny _ _ (if (onTheHeap (Value.ref C) && Value.builtin "BaseException.__getattribute__" == Value.builtin "object.__getattribute__") = true then _ else getAttrByItsOwn _ _ _ _ _ _) _ _ _
  rw [if_neg (by rw [show (Value.builtin "BaseException.__getattribute__" == Value.builtin "object.__getattribute__") = false from by decide +kernel]; exact fun z=>Bool.noConfusion z)]
  unfold getAttrByItsOwn hookBefore callGetattribute boundAndCalled
  refine wpAny_bind ?_
  show wpAny _ _ (typeLookup (.ref C) "__getattr__") _ _ _
  refine L2.at ?_
  refine wpAny_bind (wpAny_attempt (wpAny_holding ?_))
  rw [if_neg (by cases ex <;> decide)]
  refine wpAny_bind (wpAny_of_eq (C8.bind _) ?_)
  show wpAny _ _ (call (.builtin "BaseException.__getattribute__") [.ref x,.str name tk]) _ _ _
  refine wpAny_call (codeAny_call_builtin C8.plain F.entry_bexc_ga (LY X I t (wpAny_mono h (fun fin s' z=>?_) fun _ _ z=>z.elim)))
  rcases fin with (_ | _ | _ | _) | _ <;> first | exact PySem.W.handed_on z.1 z.2 | exact z.elim
end
structure jb (K : PySem.W.Frag) (C : Addr) : Prop where
  ga : GaX K C
  cd : (PySem.W.clsIn K C).isSome = true
  ha : PySem.W.findIn K (.ref C) "__class__" = some (some (.builtin "object.__class__"))
  hn : PySem.W.specialIn K (.builtin "object.__class__") "__get__" = some (some (.builtin "getset_descriptor.__get__"))
  htk : PySem.W.takesIn K (.builtin "object.__class__") = some true
  hm : PySem.W.mroIn K C (.type "object") = some true
theorem L3 {K : PySem.W.Frag} {C : Addr} (t : jb K C) (od : Option Obj) : PySem.W.findObj K C od "__class__" = some (.bind (.builtin "getset_descriptor.__get__") (.builtin "object.__class__")):=by
  obtain ⟨cd,hc⟩:=Option.isSome_iff_exists.mp t.cd
  unfold PySem.W.findObj
  rw [hc,Option.bind_some,t.ha,Option.bind_some]
  simp [t.hn,t.htk]
theorem yj {K : PySem.W.Frag} {C x : Addr} {ox : Obj} {od : Option Obj} (t : jb K C) : PySem.W.KitX K (.ref x) (.ref C) (fun h=>PySem.W.InstAt h x ox C od) where
  ty:=fun _ _ _ I=>I.type
  it:=fun _ _ X _=>by
    obtain ⟨cd,hc⟩:=Option.isSome_iff_exists.mp t.cd
    unfold PySem.W.clsIn at hc
    split at hc
    · rename_i ho
      exact fun A' Q' E' s' k q=>by
        unfold isType loadHead
        exact wpAny_bind (wpAny_loadPart (k _ _ (X _ _ ho)) (wpAny_pure q))
    · cases hc
  ne:=fun h tp dd its n sl X htp=>by
    obtain ⟨cd,hc⟩:=Option.isSome_iff_exists.mp t.cd
    refine Bool.eq_false_iff.mpr fun q=>?_
    obtain rfl : C = tp:=Value.ref.inj (beq_iff_eq.mp q)
    unfold PySem.W.clsIn at hc
    split at hc
    · rename_i ho
      cases (X _ _ ho).symm.trans htp
    · cases hc
  ca:=fun {prog w A E Q s} X I k=>by
    unfold getAttr? getAttrBy?
    refine wpAny_bind (wpAny_mkText (wpAny_bind (wpAny_attempt (P0 (s:={ s with toks:=s.toks + 1 }) X I t.ga (wpAny_mono (J0 (s:={ s with toks:=s.toks + 1 }) X I (L3 t _) (P:=fun v s'=>v = .ref C ∧ s' = { s with toks:=s.toks + 1 }) (E:=fun _ _=>False)
      (wpAny_call (PySem.W.class_get (s:={ s with toks:=s.toks + 1 }) (ox:=ox) X I t.hm ⟨rfl,rfl⟩))) (fun fin s' z=>?_) fun _ _ z=>z)))))
    rcases fin with (_ | _ | _ | _) | _ <;> first | (obtain ⟨rfl,rfl⟩:=z; exact ⟨rfl,wpAny_pure k⟩) | exact z.elim
section
variable {X : Cx} {pins : List (Addr × Obj)} {σ : St} {H : Hp} {s : Shared}
theorem OE {ea C : Addr} (I : Inv X pins σ H s) (h : H ea = some (xo ea (.ref C) none)) : ∃ ox,PySem.W.InstAt s.heap ea ox C none:=by
  obtain ⟨⟨sl,vs,e⟩,_⟩:=(show dF X.prog X.w H s.heap ea (xo ea (.ref C) none) from I.hok _ _ h)
  exact ⟨_,e,rfl,rfl,trivial⟩
theorem J1 : hV X (.builtin "isinstance") (fun xs H Q=>∃ ea c C b,xs = [.ref ea,c] ∧ isC c = true ∧ H ea = some (xo ea (.ref C) none) ∧ jb X.K C ∧ PySem.W.kitOne X.K (.ref C) (RM c) = some b ∧ Q (.bl b) H):=by
  intro pins s σ H xs us Q I r h
  obtain ⟨ea,c,C,b,rfl,hc,hx,ty,e,q⟩:=h
  obtain ⟨u,w',rfl,rx,rc⟩:=vals2 r
  cases rx
  obtain ⟨ox,J⟩:=OE I hx
  have fin : ∀ tk,EP X pins σ Q (.bool b) { s with toks:=tk }:=fun tk=>⟨.bl b,H,I.tok _,rfl,q⟩
  cases c with
  | ty n=>cases rc; exact PySem.W.kia_one (yj ty) I.kIn J e (fun z=>nomatch z) fin
  | ref a=>cases rc; exact PySem.W.kia_one (yj ty) I.kIn J e (fun z=>nomatch z) fin
  | _=>exact absurd (show false = true from hc) Bool.false_ne_true
end
end L2
set_option maxHeartbeats 4000000
namespace L2
open PySem PySem.Spec PyProof.Rows
section
variable {prog : Program} {w : World} {A : Around} {E : Value → Shared → Prop} {h : Heap} {g : Array GenState} {d : Drawn} {t : Nat} {os : OsState}
variable {nm q : Str} {C N : Addr} {bs bm bmB : List Value} {hdct : Bool} {sn : List Str} {sub : List Value} {ab : Bool} {col : Option Bool} {dd : Option Addr} {k0 k1 k2 k3 k5 : Option Value} {B nid iid : String}
abbrev mU (h : Heap) (C : Addr) (us : List Value) : Heap:=(h.push { cls:=.type "tuple",data:=.seq us.toArray }).push ⟨.ref C,none,.fields #[.ref h.objs.size,.none,.none,.none,.bool false,.none],#[]⟩
theorem fO {us : List Value} {b : Addr} {o : Obj} (e : h.get? b = some o) : (mU h C us).get? b = some o:=Heap.get?_push_of_some _ (Heap.get?_push_of_some _ e)
theorem yJ {us : List Value} : (mU h C us).get? (h.objs.size + 1) = some ⟨.ref C,none,.fields #[.ref h.objs.size,.none,.none,.none,.bool false,.none],#[]⟩:=by
  have:=Heap.get?_push_size (h.push { cls:=.type "tuple",data:=.seq us.toArray }) (o:=⟨.ref C,none,.fields #[.ref h.objs.size,.none,.none,.none,.bool false,.none],#[]⟩) rfl
  rwa [Heap.size_push] at this
theorem GA (F : ExcBaseFacts B nid iid bmB) (T : OwnTail h bmB bm) {mN : Str → Option Value} {us : List Value} {Q : Fin → Shared → Prop}
    (kC : h.get? C = some (excClassObj nm q C N bs bm hdct sn sub ab col dd k0 k1 k2 k3 k5 nid)) (kN : h.Ns N mN) (kI : mN "__init__" = none) (hz : us.length ≤ sizeLine)
    (hq : ∀ h',(∀ b o,h.get? b = some o → h'.get? b = some o) → (∃ tp,h'.get? (h.objs.size + 1) = some ⟨.ref C,none,.fields #[.ref tp,.none,.none,.none,.bool false,.none],#[]⟩) → Q (.done (.ret (.ref (h.objs.size + 1)))) ⟨h',g,d,t,os⟩) :
    wpAny (model prog w) A (Builtin.«type.__call__» ⟨.ref C :: us,[]⟩) Q E ⟨h,g,d,t,os⟩:=by
  repeat (first | with_reducible refine wpAny_loadPart_at kC ?_ | with_reducible refine wpAny_madeBy_exc kC ?_ | wp_step)
  refine codeAny_call_builtin_code (Code.quiet_builtin _ F.quiet) (wpAny_check_new_subT F T kC (codeAny_exc_new_subT F T kC ?_ hz))
  show wpAny _ _ _ _ _ _
  have kC1 : (mU h C us).get? C = _:=fO kC
  have kN1 : (mU h C us).Ns N mN:=kN.keeps fun b o e=>fO e
  have T1 : OwnTail (mU h C us) bmB bm:=T.keeps fun b o e=>fO e
  have kE:=yJ (h:=h) (C:=C) (us:=us)
  have self : (Value.ref C :: bm).contains (.ref C) = true:=by simp
  unfold isInstance
  repeat (first | with_reducible refine wpAny_loadPart_at kE ?_ | (with_reducible refine wpAny_isSubtype_exc kC1 ?_; rw [self]) | wp_step)
  show wpAny _ _ (typeLookup (.ref C) _) _ _ _
  refine wpAny_typeLookup_tail kC1 kN1 T1 F.mroIs F.init.lookup ?_
  rw [kI]
  refine wpAny_holding (wpAny_bind (wpAny_of_eq (F.init.bind _) ?_))
  refine wpAny_bind (wpAny_call (codeAny_call_builtin F.init.plain F.initEntry (wpAny_check_init_subT F T1 kC1 kE rfl ?_)))
  wp_walk
  refine hq _ (fun b o e=>?_) ⟨h.objs.size + 2,?_⟩
  · rw [Heap.get?_update_other _ _ (Nat.ne_of_gt (Nat.lt_succ_of_lt (Heap.lt_size e)))]
    exact Heap.get?_push_of_some _ (fO e)
  · refine (Heap.get?_update_self _ (Heap.get?_push_of_some _ kE) rfl).trans ?_
    simp only [Heap.size_push]
    rfl
theorem J2 (F : ExcBaseFacts B nid iid bmB) (T : OwnTail h bmB bm) {mN : Str → Option Value} {us : List Value} {Q : Value → Shared → Prop}
    (kC : h.get? C = some (excClassObj nm q C N bs bm hdct sn sub ab col dd k0 k1 k2 k3 k5 nid)) (kN : h.Ns N mN) (kI : mN "__init__" = none) (hz : us.length ≤ sizeLine)
    (hq : ∀ h',(∀ b o,h.get? b = some o → h'.get? b = some o) → (∃ tp,h'.get? (h.objs.size + 1) = some ⟨.ref C,none,.fields #[.ref tp,.none,.none,.none,.bool false,.none],#[]⟩) → Q (.ref (h.objs.size + 1)) ⟨h',g,d,t,os⟩) :
    wpAny (model prog w) A (call (.ref C) us) Q E ⟨h,g,d,t,os⟩:=by
  have l1:=tc_lookup
  have l2:=tc_bind (.ref C)
  have ty : (⟨h,g,d,t,os⟩ : Shared).TypeIs (.ref C) "type":=⟨_,kC,rfl⟩
  refine wpAny_call (codeAny_of_tree ?_)
  show wpAny _ _ (callAny (.ref C) _) _ _ _
  repeat (any_goals (first | assumption | with_reducible refine wpAny_loadPart_at kC ?_ | wp_step))
  refine ⟨rfl,codeAny_call_builtin_at (Code.quiet_builtin _ (by decide +kernel)) entry_typeCall (wpAny_check_type_call_sub kC (GA F T kC kN kI hz fun h' k e=>?_))⟩
  exact hq h' k e
theorem rR {M : Model} {env : Env} {s : Shared} {x : Sem Value} {Q : Flow → Shared → Prop} (C1 : bm.contains (.type "BaseException") = true) (hh : A.handled = none)
    (hx : wpAny M A x (fun v s₁=>∃ (e : Addr) (xd : Option Addr) (a0 : Value) (sl : Array (Option Value)),v = .ref e ∧ s₁.heap.get? C = some (excClassObj nm q C N bs bm hdct sn sub ab col dd k0 k1 k2 k3 k5 nid) ∧
      s₁.heap.get? e = some ⟨.ref C,xd,.fields #[a0,.none,.none,.none,.bool false,.none],sl⟩ ∧ E (.ref e) s₁) E s) : wpAny M A (raiseStmt env (some x) none) Q E s:=by
  have top : (Value.ref C :: bm).contains (.type "BaseException") = true:=by rw [List.contains_cons,C1,Bool.or_true]
  unfold raiseStmt
  refine wpAny_bind (wpAny_mono hx (fun v s₁ h₁=>?_) fun _ _ z=>z)
  obtain ⟨e,xd,a0,sl,rfl,kC,kE,fin⟩:=h₁
  obtain ⟨hp,g',d',tk,os'⟩:=s₁
  repeat (first | with_reducible refine wpAny_loadPart_at kE ?_ | with_reducible refine wpAny_loadPart_at kC ?_ | (with_reducible refine wpAny_isSubtype_exc kC ?_; rw [top]) | wp_step)
  exact wpAny_raiseNew_none hh fin
end
abbrev pQ : List Value:=[.type "ValueError",.type "Exception",.type "BaseException",.type "object"]
def strKeys (es : Array DictEntry) : Bool:=es.toList.all fun e=>match e.key with | .str _ _=>true | _=>false
structure BR (K : PySem.W.Frag) (N : Addr) : Prop where
  ex : ∃ (c : Value) (dd : Option Addr) (es : Array DictEntry) (n : Nat) (sl : Array (Option Value)),K.lookup N = some ⟨c,dd,.dict es n,sl⟩ ∧ strKeys es = true
  no : PySem.W.nsIn K N "__init__" = some none
theorem BR.ns {K : PySem.W.Frag} {N : Addr} (x : BR K N) {h : Heap} (X : K.In h) : ∃ mN,h.Ns N mN ∧ mN "__init__" = none:=by
  obtain ⟨⟨c,dd,es,n,sl,l,sk⟩,no⟩:=x
  have ns : h.Ns N (nsFind es):=⟨_,es,n,X _ _ l,rfl,fun e he=>by
    have z:=List.all_eq_true.mp sk e (Array.mem_toList_iff.mpr he)
    cases hk : e.key with
    | str y t=>exact ⟨y,t,rfl⟩
    | _=>rw [hk] at z; exact absurd z Bool.false_ne_true,fun _=>rfl⟩
  refine ⟨_,ns,?_⟩
  unfold PySem.W.nsIn at no
  rw [l] at no
  dsimp only at no
  unfold nsFind findBy
  rw [← Array.find?_toList]
  cases hf : es.toList.find? (fun e=>e.key.isStr "__init__") with
  | none=>rfl
  | some e=>rw [hf] at no; cases no
inductive iT (K : PySem.W.Frag) : List Value → Prop
  | base : iT K pQ
  | own {D : Addr} {c0 : Value} {dd : Option Addr} {cd : ClassData} {sl : Array (Option Value)} {tl : List Value} : K.lookup D = some ⟨c0,dd,.cls cd,sl⟩ → BR K cd.ns → iT K tl → iT K (.ref D :: tl)
theorem iT.tail {K : PySem.W.Frag} {bm : List Value} (x : iT K bm) {h : Heap} (X : K.In h) : OwnTail h pQ bm:=by
  induction x with
  | base=>exact .base
  | own l n _ ih =>
    obtain ⟨mA,a,b⟩:=n.ns X
    exact .own (X _ _ l) a b ih
structure C9 (K : PySem.W.Frag) (C : Addr) : Prop where
  ex : ∃ (nm q : Str) (N : Addr) (bs bm : List Value) (hdct : Bool) (sn : List Str) (sub : List Value) (ab : Bool) (col : Option Bool) (dd : Option Addr) (k0 k1 k2 k3 k5 : Option Value),
    K.lookup C = some (excClassObj nm q C N bs bm hdct sn sub ab col dd k0 k1 k2 k3 k5 "ValueError.__new__") ∧ BR K N ∧ iT K bm
section
variable {X : Cx} {x : Str} {C : Addr} {np gy pos : Pos} {e₀ : Expr} {rest : List Expr} {ta : TA}
theorem jh (ek : C9 X.K C) (hc : X.calm = true) (hg : Gl X x) (hm : X.mg x = some (.ref C)) (ha : PA X.nox (e₀ :: rest) ta) (hdb : (x == ("__debug__" : Str)) = false:=by decide)
    (he : starEach (e₀ :: rest) X.env = (false,eval e₀ X.env) :: starEach rest X.env:=by rfl) (hpl : (backTo gy (starEach rest X.env)).any (·.1) = false:=by rfl) :
    PSX X (.Raise (some (.Call (.Name x np) (e₀ :: rest) [] gy)) none pos) (fun _ E σ H=>ta σ H fun vs H1=>vs.length ≤ sizeLine ∧ E σ (.ref C) none H1):=by
  intro pins s σ H D E I h
  obtain ⟨nm,q,N,bs,bm,hdct,sn,sub,ab,col,dd,k0,k1,k2,k3,k5,l,n,T⟩:=ek.ex
  have go : wpAny (model X.prog X.w) X.A (eval (.Call (.Name x np) (e₀ :: rest) [] gy) X.env) (fun v s₁=>∃ (e : Addr) (xd : Option Addr) (a0 : Value) (sl : Array (Option Value)),v = .ref e ∧ s₁.heap.get? C = some (excClassObj nm q C N bs bm hdct sn sub ab col dd k0 k1 k2 k3 k5 "ValueError.__new__") ∧
      s₁.heap.get? e = some ⟨.ref C,xd,.fields #[a0,.none,.none,.none,.bool false,.none],sl⟩ ∧ XPS X pins E (.ref e) s₁) (XPS X pins E) s:=by
    refine wpAny_Call_Name_kw (kT I hg hm ?_ hdb)
    unfold callWith
    rw [he]
    refine wpAny_bind (wpAny_holding (Calls.evalArgs_plain ?_))
    have ha':=ha gy pins s σ H _ (I.nZ _) h
    rw [show X.nox.env = X.env from rfl,he] at ha'
    refine wpAny_mono ha' (fun us s₁ ⟨vs,H1,I1,r,hz,q1⟩=>wpAny_bind (wpAny_standAt ?_)) fun _ _ z=>False.elim z
    have I1':=I1.eK
    have kC:=I1'.kIn _ _ l
    obtain ⟨mN,kN,kI⟩:=n.ns I1'.kIn
    have T1:=T.tail I1'.kIn
    have pl : (backTo gy ((false,eval e₀ X.env) :: starEach rest X.env)).any (·.1) = false:=by
      show (false || (backTo gy (starEach rest X.env)).any (·.1)) = false
      rw [hpl]; rfl
    obtain ⟨hp,g',d',tk,os'⟩:=s₁
    simp only [pl]
    refine wpAny_bind (wpAny_keeperOf_exc kC ?_)
    refine wpAny_bind (J2 (F:=PySem.F.excBase_ValueError) T1 kC kN kI (by rw [List.nil_append,← r.length]; exact hz) fun h' k ⟨tp,ke⟩=>wpAny_bind (wpAny_holding (wpAny_point (wpAny_pure ?_))))
    have I2 : Inv X pins σ H1 ⟨h',g',d',tk,os'⟩:=I1'.kept (t':=tk) k
    refine ⟨_,none,_,#[],rfl,k _ _ kC,ke,σ,_,_,none,none,H1,rfl,I2,⟨I1'.BB (Nat.le_succ _) (I1'.hok.fresh (Nat.le_succ _)),_,_,ke,(by show 1 < 6; decide),rfl⟩,.inl rfl,q1⟩
  rw [arm_exec_Raise]
  have hb : bm.contains (.type "BaseException") = true:=(T.tail I.kIn).hasType (b:=true) (by decide +kernel)
  first
    | exact wpAny_bind (wpAny_standAt (rR (C:=C) (nm:=nm) (q:=q) (N:=N) (bs:=bs) (bm:=bm) (hdct:=hdct) (sn:=sn) (sub:=sub) (ab:=ab) (col:=col) (dd:=dd) (k0:=k0) (k1:=k1) (k2:=k2) (k3:=k3) (k5:=k5) hb (I.ok.hd hc) (wpAny_bind (wpAny_mono go (fun v s₃ h₃=>wpAny_bind (wpAny_standAt (wpAny_pure h₃))) fun _ _ z=>z))))
    | (simp only [evalOpt,Option.map]; exact wpAny_bind (wpAny_standAt (rR (C:=C) (nm:=nm) (q:=q) (N:=N) (bs:=bs) (bm:=bm) (hdct:=hdct) (sn:=sn) (sub:=sub) (ab:=ab) (col:=col) (dd:=dd) (k0:=k0) (k1:=k1) (k2:=k2) (k3:=k3) (k5:=k5) hb (I.ok.hd hc) (wpAny_bind (wpAny_mono go (fun v s₃ h₃=>wpAny_bind (wpAny_standAt (wpAny_pure h₃))) fun _ _ z=>z)))))
end
end L2
set_option maxHeartbeats 4000000
namespace L2
open PySem PySem.Spec PyProof.Rows
theorem AV {α β : Type} (f : α → β) : ∀ (xs : List α) (n : Nat),(xs.eraseIdx n).map f = (xs.map f).eraseIdx n
  | [],_=>rfl
  | _ :: _,0=>rfl
  | x :: xs,n + 1=>by
    show f x :: (xs.eraseIdx n).map f = f x :: (xs.map f).eraseIdx n
    rw [AV f xs n]
section
variable {X : Cx} {pos : Pos}
theorem Vals.insert {xs : List V} {us : List Value} (r : Vals xs us) {y : V} {u : Value} (ry : RelV y u) (k : Nat) : Vals (xs.take k ++ y :: xs.drop k) (us.take k ++ u :: us.drop k):=(r.take k).append (.cons ry (r.drop k))
def OF : V → List V → Hp → VK → Prop:=fun x vs H Q=>∃ (l : Addr) (xs : List V) (i : Int) (k : Nat) (y : V),x = .ref l ∧ vs = [.int i,y] ∧ i = (k : Int) ∧ H l = some (.lst xs) ∧ k ≤ xs.length ∧ xs.length < sizeLine ∧ Q .non (upd H l (.lst (xs.take k ++ y :: xs.drop k)))
theorem J3 : MtM X "list.insert" OF:=by
  intro pins s σ H x vs v us Q I rx rv h
  obtain ⟨l,xs,i,k,y,rfl,rfl,hi,hH,hk,hz,q⟩:=h
  cases rx
  obtain ⟨u1,u2,rfl,r1,r2⟩:=rv.two
  obtain ⟨t,rfl⟩:=r1
  obtain ⟨z,its,n,r,hl,e⟩:=I.BI hH
  have lim : sizeLine = 16777216:=by decide
  have a2 : its.toArray.size ≤ sizeLine:=by rw [List.size_toArray]; omega
  have b : Builtin.List.listFitsIndex i = true:=fitsIndex_both (by omega) (by omega)
  have nb : ¬ (!Builtin.List.listFitsIndex i) = true:=by rw [b]; decide
  refine call_meets F.slot_list_insert ⟨_,e,rfl⟩ F.entry_list_insert (F.args_list_insert_3 _ _ _) (AutoSeq1.list_insert_list_int_val_1 l its.toArray n i t u2 nb a2) ⟨e,?_⟩
  refine ⟨.non,_,I.JX (its':=its.take k ++ u2 :: its.drop k) hH e ?_ (r.insert r2 k) ?_,rfl,q⟩
  · show (its.toArray.extract 0 (if i < 0 then (i + (its.toArray.size : Int)).toNat else min i.toNat its.toArray.size)).push u2 ++ its.toArray.extract (if i < 0 then (i + (its.toArray.size : Int)).toNat else min i.toNat its.toArray.size) = _
    have e1 : (if i < 0 then (i + (its.toArray.size : Int)).toNat else min i.toNat its.toArray.size) = k:=by
      rw [List.size_toArray,if_neg (by omega)]
      omega
    rw [e1]
    apply Array.toList_inj.mp
    simp
    exact List.take_of_length_le (by rw [List.length_drop]; omega)
  · rw [List.length_append,List.length_cons,List.length_take,List.length_drop]
    omega
end
section
variable {X : Cx} {e : Expr} {te : TE} {y : Str} {j : Nat} {p1 p2 pos : Pos}
def tFR (K : PySem.W.Frag) (te : TE) (y : Str) : TE:=fun σ H Q=>te σ H fun x H1=>∃ (a : Addr) (d : PyData),x = .ref a ∧ DV K H1 d x ∧ d.showable = true ∧ d.hasDict = false ∧ d.depth ≤ 60 ∧ d.shown.length + y.length ≤ sizeLine ∧ ∀ z : Str,Q (.str z) H1
theorem len_app (a b : Str) : (a ++ b).length = a.length + b.length:=by
  show (a.cps ++ b.cps).size = _
  simp [Str.length]
theorem Wu (hg : X.A.guards = some []) (hu : X.A.units + 64 < cLine) (he : PE X e te) : PE X (.JoinedStr [.FormattedValue e 114 none p1,.Constant (.str y) j p2] pos) (tFR X.K te y):=by
  intro pins s σ H Q I h
  refine wpAny_JoinedStr ?_
  show Joins _ _ _ [eval (.FormattedValue e 114 none p1) X.env,eval (.Constant (.str y) j p2) X.env] _ _ _
  refine wpAny_FormattedValue_repr (thn (he pins s σ H _ I h) fun v s1 ⟨x,H1,I1,r1,a,d,e1,hd,sh,nd,dp,sz,q⟩=>?_)
  subst e1
  obtain rfl : v = Value.ref a:=r1
  obtain ⟨as,rd⟩:=DV.reads I1 d hd rfl
  refine pyReprObj_of_reads (h₀:=s1.heap) rd sh (fun z=>absurd z (by rw [nd]; decide)) hg (by omega) (fun _ _ z=>z) (fun h' u tk hk=>?_) (by omega)
  have I2 : Inv X pins σ H1 { s1 with heap:=h',toks:=tk }:=I1.kept hk
  have emp : (Str.empty ++ d.shown : Str) = d.shown:=by
    apply BL
    rw [iz]
    rfl
  have go : ∀ (t : Tok) (s2 : Shared),Inv X pins σ H1 s2 → ∃ z t',Value.str d.shown t = .str z t' ∧ (Str.empty ++ z).length ≤ sizeLine ∧ Joins (model X.prog X.w) X.A X.xe [eval (.Constant (.str y) j p2) X.env] (Str.empty ++ z) (fun out s₁=>out.length ≤ sizeLine ∧ EP X pins σ Q (.str out s₁.toks) { s₁ with toks:=s₁.toks + 1 }) s2:=fun t s2 I3=>by
    refine ⟨_,_,rfl,by rw [emp]; omega,Calls.Constant_str ⟨y,_,rfl,?_,?_⟩⟩
    · rw [emp,len_app]; omega
    · refine ⟨by rw [emp,len_app]; omega,.str _,H1,(I3.tok _).tok _,⟨_,rfl⟩,q _⟩
  exact wpAny_formatField_str (go _ _ I2) (go _ _ (I2.tok _)) (by omega)
end
theorem L4 {K : PySem.W.Frag} {a D : Addr} {xs : List V} {te : TE} {Q : VK} {σ : St} {H1 : Hp} (Pv : Nat → List V → Hp → Prop) (h0 : Pv 0 [] (upd H1 D (.lst []))) (hz : xs.length ≤ sizeLine)
    (hl : ∀ i ys H2,i ≤ xs.length → Pv i ys H2 → SqT K H2 a xs ∧ H2 D = some (.lst ys) ∧ ys.length = i)
    (hs : ∀ i x ys H2,xs[i]? = some x → Pv i ys H2 → te (some x :: σ) H2 (gz D xs.length Pv i ys)) (hd : ∀ ys H2,Pv xs.length ys H2 → Q (.ref D) H2) :
    t7 (Itt K a) te σ D H1 Q:=by
  refine ⟨fun i m ys H=>m = xs.length - i ∧ i ≤ xs.length ∧ Pv i ys H,⟨xs.length,by simp,Nat.zero_le _,h0⟩,?_⟩
  rintro i m ys H2 ⟨rfl,hi,p⟩
  obtain ⟨q,q2,q3⟩:=hl i ys H2 hi p
  refine ⟨q2,?_⟩
  by_cases hlt : i < xs.length
  · refine .inr ⟨⟨xs,xs[i],q,by simp [hlt]⟩,by omega,fun x H3 y=>?_⟩
    obtain ⟨e,y⟩:=y
    subst e
    exact hs i x ys _ (y xs q) p
  · have e : i = xs.length:=by omega
    subst e
    exact .inl ⟨⟨xs,q,Nat.le_refl _⟩,hd ys H2 p⟩
theorem d8 {K : PySem.W.Frag} {H H' : Hp} {t : Addr} {xs : List V} (s : bQ H H') (h : SqT K H t xs) : SqT K H' t xs:=by
  rcases h with (h | ⟨o,h⟩) | h
  · exact .inl (.inl (s _ _ h))
  · exact .inl (.inr ⟨o,s _ _ h⟩)
  · exact .inr h
end L2
set_option maxHeartbeats 4000000
namespace L2
open PySem PySem.Spec PySem.Calls PyProof.Rows
theorem L5 {X : Cx} {K : PySem.W.Frag} (ek : X.K = K) : IxR X (Rw K):=by
  subst ek; exact cq
end L2
set_option maxHeartbeats 4000000
namespace L2
open PySem PySem.Spec PySem.Calls PyProof.Rows
def RT (n : Nat) (Cf : Nat → Addr) (m : Str) (spf : Nat → Sp) (E : XK) (ta : TE) : TE:=fun σ H Q=>ta σ H fun x H1=>∃ k,k < n ∧ ∃ a dx fs,x = .ref a ∧ H1 a = some (.ins (Cf k) dx fs) ∧ fs.lookup m = none ∧ spf k [x] H1 Q E
section
variable {X : Cx} {o : Expr} {ta : TE} {m : Str} {apos pos : Pos} {n : Nat} {Cf ff : Nat → Addr} {fdf : Nat → FuncData} {spf : Nat → Sp} {kk : Nat} {ps : List Str} {CX : CXT} {E : XK}
theorem ll {pl : Sem Bool} (he : PE X o ta) (c : ∀ k,k < n → Cls X.K (Cf k)) (hm : ∀ k,k < n → Meth X.K (Cf k) m (ff k)) (F : ∀ k,k < n → aw X.prog X.w X.K X.mg X.base CX kk (ff k) (fdf k) ps (spf k)) (hr : Room kk X.A) (hb : ∀ k,k < n → Binds X.K (fdf k) ps [])
    (hx : Passes CX X E)
    (ht : eval (.Call (.Attribute o m apos) [] [] pos) X.env = (do
      let ov ← eval o X.env
      standAt apos.atName
      let (f,first) ← holding [ov] (getMethod ov m pl)
      callWith pos f first (backTo pos (starEach [] X.env)) (backToKw pos (keywordEach [] X.env))):=by rfl) :
    PE X (.Call (.Attribute o m apos) [] [] pos) (RT n Cf m spf E ta):=by
  intro pins s σ H Q I h
  refine PySem.W.methodCall_KW (pl:=pl) (thn (he pins s σ H _ I h) fun u s1 ⟨x,H1,I1,rx,k,hk,a,dx,fs,ex,ea,l,q⟩=>?_) ht
  subst ex
  obtain rfl : u = Value.ref a:=rx
  refine jf I1 ea (c k hk) (hm k hk) l ?_
  exact PySem.W.callWith_K0 (first:=[.ref a]) I1.kIn (hm k hk).kp (BD (us:=[.ref a]) (vs:=[.ref a]) (dvs:=[]) (F k hk) hr (hb k hk) .nil hx I1 (.cons rfl .nil) q)
theorem Wv {P : Program} {w : World} {K : PySem.W.Frag} {mg : Str → Option Value} {base : Heap} {CX : CXT} {k : Nat} {f : Addr} {fd : FuncData} {ps : List Str} {sp sp' : Sp} (F : aw P w K mg base CX k f fd ps sp) (G : aw P w K mg base CX k f fd ps sp') :
    aw P w K mg base CX k f fd ps (fun vs H Q E=>sp vs H Q E ∨ sp' vs H Q E) :=
  ⟨fun vs H Q E z=>z.elim (F.len vs H Q E) (G.len vs H Q E),fun a b c H d e vs Q E p q r s z=>z.elim (F.run a b c H d e vs Q E p q r s) (G.run a b c H d e vs Q E p q r s)⟩
end
end L2
set_option maxHeartbeats 4000000
set_option maxHeartbeats 4000000
namespace L2
open PySem PySem.Spec PySem.Calls PyProof.Rows
def KeysAre : List DictEntry → List Str → Prop
  | [],ns=>ns = []
  | e :: r,ns=>∃ x xs t,ns = x :: xs ∧ e.key = .str x t ∧ KeysAre r xs
structure I0 (P : Params) (K : PySem.W.Frag) (a : Addr) (ns : List Str) : Prop where
  ex : ∃ es n,K.lookup a = some ⟨.type "dict",none,.dict es n,#[]⟩ ∧ PySem.W.KeysLit P es.toList ∧ KeysAre es.toList ns
  nd : ns.Nodup
  lo : (a == sysModules) = false
theorem GB {prog : Program} {w : World} : ∀ (es : List DictEntry) (ns : List Str),PySem.W.KeysLit w.params es → KeysAre es ns → ∃ kvs : List (Str × Value),Pairs (strKind prog w) es kvs ∧ kvs.map (·.1) = ns:=by
  intro es
  induction es with
  | nil =>
    intro ns _ h
    have h' : ns = []:=h
    subst h'
    exact ⟨[],by first | exact .nil | exact trivial | exact rfl | constructor,rfl⟩
  | cons e r ih =>
    rintro ns ⟨⟨x,t,e1,e2⟩,hk⟩ ⟨y,ys,t',rfl,e3,hr⟩
    obtain ⟨kvs,h1,h2⟩:=ih ys hk hr
    rw [e1] at e3
    injection e3 with e4 _
    subst e4
    exact ⟨(x,e.val) :: kvs,.cons (by rw [e1]; exact strKind_is prog w x t) rfl h1,by rw [List.map_cons,h2]⟩
theorem I0.at {prog : Program} {w : World} {K : PySem.W.Frag} {a : Addr} {ns : List Str} (T : I0 w.params K a ns) : ∃ (kvs : List (Str × Value)) (n : Nat),kvs.map (·.1) = ns ∧ ∀ h : Heap,K.In h → h.DictAt (strKind prog w) a kvs n:=by
  obtain ⟨es,n,hl,hk,ha⟩:=T.ex
  obtain ⟨kvs,h1,h2⟩:=GB (prog:=prog) es.toList ns hk ha
  refine ⟨kvs,n,h2,fun h X=>⟨_,es,X _ _ hl,⟨rfl,rfl,rfl⟩,rfl,fun e he=>?_,h1,by rw [h2]; exact T.nd⟩⟩
  obtain ⟨x,t,e1,e2⟩:=hk.all e (Array.mem_toList_iff.mpr he)
  exact ⟨x,by rw [e1]; exact strKind_is prog w x t,e2⟩
def Dc (n : Nat) (Pv : Nat → List V → Hp → Prop) (i : Nat) (ys : List V) (H4 : Hp) : Prop:=∃ m',m' < n - i ∧ m' = n - (i + 1) ∧ i + 1 ≤ n ∧ Pv (i + 1) ys H4
theorem Dc.mk {n : Nat} {Pv : Nat → List V → Hp → Prop} {i : Nat} {ys : List V} {H4 : Hp} (hi : i < n) (h : Pv (i + 1) ys H4) : Dc n Pv i ys H4:=⟨n - (i + 1),by omega,rfl,hi,h⟩
end L2
set_option maxHeartbeats 4000000
namespace L2
open PySem PySem.Spec PyProof.Rows
inductive RU : List Expr → List Str → Prop
  | nil : RU [] []
  | cons {x : Str} {j : _} {p : Pos} {es : List Expr} {ss : List Str} : RU es ss → RU (.Constant (.str x) j p :: es) (x :: ss)
end L2
set_option maxHeartbeats 4000000
namespace L2
open PySem PySem.Spec PyProof.Rows
structure yK (scope outer : Scope) (xs N M : List Str) : Prop where
  kind : scope.kind = .function
  LM : outer.kind = .function
  BM : ∀ y ∈ scope.names,y.2 ≠ .cell
  names : ∀ y ∈ scope.names,y.2 = .local → scope.names.lookup y.1 = some .local
  hx : ∀ x ∈ xs,scope.names.lookup x = some .local
  free : ∀ y ∈ scope.names,y.2 = .free → outer.names.lookup y.1 = some .cell
  nl : ∀ n ∈ M,(fB scope outer).names.lookup n ≠ some .local
  nd2 : (xs ++ M).Nodup
  nd : N.Nodup
  len : M.length = N.length
  rel : ∀ i : Nat,i < N.length → M[i]? = N[i]? ∨ M[i]? = some Str.empty
  em : (fB scope outer).names.lookup Str.empty = none
theorem yK.mem {scope outer : Scope} {xs : List Str} {N M : List Str} (S : yK scope outer xs N M) {n : Str} {k : NameKind} (h : (fB scope outer).names.lookup n = some k) (hk : k = .cell ∨ k = .free) :
    k = .cell ∧ (n,NameKind.free) ∈ scope.names ∧ outer.names.lookup n = some .cell:=by
  obtain ⟨⟨n',k'⟩,hm,e⟩:=List.mem_map.mp (PySem.mem_of_lookup h)
  dsimp only at e
  by_cases hc : (k' == NameKind.free && outer.kind == .function && outer.names.lookup n' == some .cell) = true
  · rw [if_pos hc] at e
    injection e with e1 e2
    subst e1 e2
    rw [Bool.and_eq_true,Bool.and_eq_true] at hc
    have hk' : k' = .free:=beq_iff_eq.mp hc.1.1
    subst hk'
    exact ⟨rfl,hm,beq_iff_eq.mp hc.2⟩
  · rw [if_neg hc] at e
    injection e with e1 e2
    subst e1 e2
    rcases hk with z | z
    · exact absurd z (S.BM _ hm)
    · subst z
      exfalso
      refine hc ?_
      rw [S.free _ hm rfl,S.LM]
      rfl
theorem OG {X : Cx} {K : PySem.W.Frag} (ek : X.K = K) (hu : X.A.units + 64 < cLine) : OpR X (compareOp .Eq) (Wj K):=by
  subst ek
  exact Gv hu
end L2
set_option maxHeartbeats 4000000
namespace L2
open PySem PySem.Spec PyProof.Rows
abbrev TJ:=St → Hp → Str → (Str → Hp → Prop) → Prop
def PJ (X : Cx) (es : List Expr) (t : TJ) : Prop :=
  ∀ (pins : List (Addr × Obj)) (s : Shared) (σ : St) (H : Hp) (acc : Str) (Q : Str → Hp → Prop),Inv X pins σ H s → t σ H acc Q →
    Joins (model X.prog X.w) X.A X.xe (evalEach es X.env) acc (fun out s1=>∃ H1,Inv X pins σ H1 s1 ∧ out.length ≤ sizeLine ∧ Q out H1) s
theorem Joins.mono {M : Model} {A : Around} {E : Value → Shared → Prop} {Q Q' : Str → Shared → Prop} (hQ : ∀ o s,Q o s → Q' o s) : ∀ {ps : List (Sem Value)} {acc : Str} {s : Shared},Joins M A E ps acc Q s → Joins M A E ps acc Q' s
  | [],_,_,h=>hQ _ _ h
  | _ :: _,_,_,h=>wpAny_mono h (fun _ _ ⟨y,t,e,l,r⟩=>⟨y,t,e,l,Joins.mono hQ r⟩) fun _ _ z=>z
inductive De : V → Str → Prop
  | int {i : Int} : i.natAbs.log2 < 1920 → De (.int i) (toString i)
  | str {x : Str} : De (.str x) x
section
variable {X : Cx} {e : Expr} {es : List Expr} {te : TE} {t : TJ} {y : Str} {j : Nat} {p1 p2 pos : Pos}
theorem u7 : PJ X [] (fun _ H acc Q=>acc.length ≤ sizeLine ∧ Q acc H):=fun _ _ _ H _ _ I h=>⟨H,I,h.1,h.2⟩
theorem lK (h : PJ X es t) : PJ X (.Constant (.str y) j p1 :: es) (fun σ H acc Q=>(acc ++ y).length ≤ sizeLine ∧ t σ H (acc ++ y) Q):=by
  intro pins s σ H acc Q I hw
  show wpAny _ _ (eval (.Constant (.str y) j p1) X.env) _ _ s
  exact Calls.Constant_str ⟨y,_,rfl,hw.1,h pins _ σ H _ Q (I.tok _) hw.2⟩
theorem u9 (he : PE X e te) (h : PJ X es t) : PJ X (.FormattedValue e (-1) none p1 :: es) (fun σ H acc Q=>te σ H fun x H1=>∃ z,De x z ∧ z.length ≤ sizeLine ∧ (acc ++ z).length ≤ sizeLine ∧ t σ H1 (acc ++ z) Q):=by
  intro pins s σ H acc Q I hw
  show wpAny _ _ (eval (.FormattedValue e (-1) none p1) X.env) _ _ s
  refine wpAny_FormattedValue_plain (thn (he pins s σ H _ I hw) fun v s1 ⟨x,H1,I1,r1,z,fz,l1,l2,q⟩=>?_)
  cases fz with
  | int hl =>
    obtain ⟨tk,rfl⟩:=r1
    exact wpAny_formatField_int hl ⟨_,_,rfl,l2,h pins _ σ H1 _ Q ((I1.tok _).tok _) q⟩
  | str =>
    obtain ⟨tk,rfl⟩:=r1
    exact wpAny_formatField_str ⟨_,_,rfl,l2,h pins _ σ H1 _ Q I1 q⟩ ⟨_,_,rfl,l2,h pins _ σ H1 _ Q (I1.tok _) q⟩ l1
theorem AW {e₂ : Expr} (h : PJ X (e :: e₂ :: es) t) : PE X (.JoinedStr (e :: e₂ :: es) pos) (fun σ H Q=>t σ H Str.empty fun z H1=>Q (.str z) H1):=by
  intro pins s σ H Q I hw
  refine wpAny_JoinedStr ?_
  have:=h pins s σ H Str.empty _ I hw
  refine Joins.mono ?_ this
  rintro out s1 ⟨H1,I1,l,q⟩
  exact ⟨l,.str out,H1,I1.tok _,⟨_,rfl⟩,q⟩
end
def xi (a C : Addr) (xd : Option Addr) : HO:=.ext fun h=>∃ a0 : Addr,h.get? a = some ⟨.ref C,xd,.fields #[.ref a0,.none,.none,.none,.bool false,.none],#[]⟩
section
variable {P : Program} {w : World} {H : Hp} {h : Heap} {a C : Addr} {xd : Option Addr}
theorem L6 {a0 : Addr} (e : h.get? a = some ⟨.ref C,xd,.fields #[.ref a0,.none,.none,.none,.bool false,.none],#[]⟩) : dF P w H h a (xi a C xd) :=
  ⟨⟨a0,e⟩,⟨_,e⟩,fun _ _ ⟨b,z⟩ k=>⟨b,k _ z⟩⟩
theorem L7 (x : dF P w H h a (xi a C xd)) : ∃ a0 : Addr,h.get? a = some ⟨.ref C,xd,.fields #[.ref a0,.none,.none,.none,.bool false,.none],#[]⟩:=x.1
end
structure P1 (K : PySem.W.Frag) (D : Addr) : Prop where
  rd : PySem.W.readsIn K D (.type "type") = true
  sp : PySem.W.specialIn K (.ref D) "__getattribute__" = some (some (.builtin "type.__getattribute__"))
  fc : PySem.W.findCls K (.ref D) (.type "type") "__init__" = some (.val (.builtin "ValueError.__init__"))
structure BS (K : PySem.W.Frag) (N f : Addr) : Prop where
  ex : ∃ (c : Value) (dd : Option Addr) (es : Array DictEntry) (n : Nat) (sl : Array (Option Value)),K.lookup N = some ⟨c,dd,.dict es n,sl⟩ ∧ strKeys es = true
  at_ : PySem.W.nsIn K N "__init__" = some (some (.ref f))
theorem BS.ns {K : PySem.W.Frag} {N f : Addr} (x : BS K N f) {h : Heap} (X : K.In h) : ∃ mN,h.Ns N mN ∧ mN "__init__" = some (.ref f):=by
  obtain ⟨⟨c,dd,es,n,sl,l,sk⟩,no⟩:=x
  have ns : h.Ns N (nsFind es):=⟨_,es,n,X _ _ l,rfl,fun e he=>by
    have z:=List.all_eq_true.mp sk e (Array.mem_toList_iff.mpr he)
    cases hk : e.key with
    | str y t=>exact ⟨y,t,rfl⟩
    | _=>rw [hk] at z; exact absurd z Bool.false_ne_true,fun _=>rfl⟩
  refine ⟨_,ns,?_⟩
  unfold PySem.W.nsIn at no
  rw [l] at no
  dsimp only at no
  unfold nsFind findBy
  rw [← Array.find?_toList]
  cases hf : es.toList.find? (fun e=>e.key.isStr "__init__") with
  | none =>
    rw [hf] at no
    dsimp only at no
    by_cases q : es.toList.any (·.refKey) = true
    · rw [if_pos q] at no; cases no
    · rw [if_neg q] at no; cases no
  | some e=>rw [hf] at no; exact Option.some.inj no
structure BU (K : PySem.W.Frag) (C f : Addr) (name : Str) : Prop where
  ex : ∃ (nm q : Str) (N : Addr) (bs bm : List Value) (hdct : Bool) (sn : List Str) (sub : List Value) (ab : Bool) (col : Option Bool) (dd : Option Addr) (k0 k1 k2 k3 k5 : Option Value),
    K.lookup C = some (excClassObj nm q C N bs bm hdct sn sub ab col dd k0 k1 k2 k3 k5 "ValueError.__new__") ∧ iT K bm ∧ hdct = true ∧ BS K N f
  fn : PySem.W.isFn K (.ref f) = true
  sa : PySem.W.findIn K (.ref C) "__setattr__" = some (some (.builtin "object.__setattr__"))
  na : PySem.W.findIn K (.ref C) name = some none
section
variable {X : Cx} {pins : List (Addr × Obj)} {σ : St} {H : Hp} {s : Shared} {C f : Addr} {name : Str}
theorem iT.pass {K : PySem.W.Frag} {bm : List Value} (x : iT K bm) (self : Value) : refuseLoop self "__setattr__" bm = pure ():=by
  induction x with
  | base=>exact PySem.F.store_ValueError.passes self
  | own _ _ _ ih=>rw [refuseLoop_ref]; exact ih
theorem GC {xk : BU X.K C f name} : hV X (.builtin "ValueError.__init__") (fun xs H Q=>∃ ea v,xs = [.ref ea,v] ∧ H ea = some (xi ea C none) ∧ Q .non H):=by
  intro pins s σ H xs us Q I r h
  obtain ⟨ea,v,rfl,hx,q⟩:=h
  obtain ⟨nm,qn,N,bs,bm,hdct,sn,sub,ab,col,dd,k0,k1,k2,k3,k5,l,T,hd,hi⟩:=xk.ex
  obtain ⟨u,u2,rfl,rx,rv⟩:=vals2 r
  cases rx
  obtain ⟨a0,e⟩:=L7 (P:=X.prog) (w:=X.w) (I.hok _ _ hx)
  have kC:=I.kIn _ _ l
  have T1:=T.tail I.kIn
  have F:=PySem.F.excBase_ValueError
  have ha : X.A.handled = X.A.handled:=rfl
  obtain ⟨hp,g,d,tk,os⟩:=s
  dsimp only at e kC T1
  refine wpAny_call (codeAny_call_builtin F.init.plain F.initEntry (wpAny_check_init_subT F T1 kC e rfl ?_))
  wp_walk
  have hE : ea ≠ hp.objs.size:=Nat.ne_of_lt (Heap.lt_size e)
  have e1 : (hp.push { cls:=.type "tuple",data:=.seq #[u2] }).get? ea = _:=Heap.get?_push_of_some _ e
  have k : ∀ b o,b ≠ ea → hp.get? b = some o → ((hp.push { cls:=.type "tuple",data:=.seq #[u2] }).update ea (Obj.mapFields fun x=>x.setIfInBounds 0 (.ref hp.objs.size))).get? b = some o:=fun b o hb q =>
    (Heap.get?_update_other _ _ (Ne.symm hb)).trans (Heap.get?_push_of_some _ q)
  have e2 : ((hp.push { cls:=.type "tuple",data:=.seq #[u2] }).update ea (Obj.mapFields fun x=>x.setIfInBounds 0 (.ref hp.objs.size))).get? ea = some ⟨.ref C,none,.fields #[.ref hp.objs.size,.none,.none,.none,.bool false,.none],#[]⟩:=Heap.get?_update_self _ e1 rfl
  have un : upd H ea (xi ea C none) = H:=by
    funext b
    by_cases z : b = ea
    · rw [z,ae,hx]
    · rw [aq z]
  have I2:=I.write (x:=ea) (e:=ea) (o:=xi ea C none) (t':=tk) (by rw [hx]; exact True.intro) (.inl rfl) k ⟨_,e2⟩ (L6 e2)
  rw [un] at I2
  exact ⟨.non,H,I2,rfl,q⟩
end
end L2
set_option maxHeartbeats 4000000
namespace L2
open PySem PySem.Spec PyProof.Rows PySem.Builtin PySem.Builtin.ObjectAttr
section
variable {prog : Program} {w : World} {A : Around} {E : Value → Shared → Prop} {K : PySem.W.Frag} {x C f : Addr} {name : Str} {v : Value}
theorem L8 {s : Shared} {vs : Array Value} {sl : Array (Option Value)} {Q : Unit → Shared → Prop} (X : K.In s.heap) (xk : BU K C f name) (hx : s.heap.get? x = some ⟨.ref C,none,.fields vs,sl⟩)
    (h : ∀ h' tk,h'.get? x = some ⟨.ref C,some s.heap.objs.size,.fields vs,sl⟩ → h'.Ns1 s.heap.objs.size (fun y=>if y = name then some v else none) → (∀ b o,b ≠ x → s.heap.get? b = some o → h'.get? b = some o) →
      Q () { s with heap:=h',toks:=tk }) : wpAny (model prog w) A (setAttr (.ref x) name v) Q E s:=by
  obtain ⟨nm,qn,N,bs,bm,hdct,sn,sub,ab,col,dd,k0,k1,k2,k3,k5,l,T,hd,hi⟩:=xk.ex
  subst hd
  obtain ⟨hp,g,d,tk,os⟩:=s
  dsimp only at hx h X
  have J : PySem.W.InstAt hp x ⟨.ref C,none,.fields vs,sl⟩ C none:=⟨hx,rfl,rfl,trivial⟩
  have SF:=PySem.F.store_object
  have kC:=X _ _ l
  have hT:=T.tail X
  have hob : (Value.ref C :: bm).contains (.type "object") = true:=by rw [List.contains_cons,hT.hasType (b:=true) (by decide +kernel),Bool.or_true]
  have pass : refuseLoop (.ref x) "__setattr__" (.ref C :: bm) = pure ():=by rw [refuseLoop_ref]; exact T.pass _
  refine PySem.W.set_plain X J xk.sa ?_
  have sb : PySem.W.Looks (model prog w) hp (isInstance (.ref x) (.type "object")) true:=J.type.andThen (PySem.W.looks_mroIn X (by unfold PySem.W.mroIn PySem.W.clsIn; rw [l]; simpa using hob))
  refine codeAny_call_builtin SF.slot.plain SF.entry (@PySem.W.check_slot (model prog w) _ _ ⟨hp,g,d,tk + 1,os⟩ "object.__setattr__" "object" "__setattr__" (.ref x) [.str name tk,v] [] _ SF.kind SF.split sb (SF.args (.ref x) (.str name tk) v) ?_)
  have hm : PySem.W.Looks (model prog w) hp (mroOf (.ref C)) (.ref C :: bm):=(PySem.W.looks_clsIn X (by unfold PySem.W.clsIn; rw [l])).andThen .now
  rw [PySem.W.osa_eq,refuse_eq]
  refine wpAny_bind (wpAny_bind ((J.type (M:=model prog w)).at (wpAny_bind (hm.at ?_))))
  rw [pass]
  refine wpAny_pure (wpAny_bind ((J.type (M:=model prog w)).at (wpAny_bind ((PySem.W.looks_findIn X xk.na).at (wpAny_bind ((show PySem.W.Looks (model prog w) hp (storeTaker? none) none from .now).at ?_))))))
  have hxs : x ≠ hp.objs.size:=Nat.ne_of_lt (Heap.lt_size hx)
  obtain ⟨cd,hcl,hdd⟩ : ∃ cd,PySem.W.clsIn K C = some cd ∧ cd.hasDict = true:=⟨_,by unfold PySem.W.clsIn; rw [l],rfl⟩
  refine wpAny_bind (wpAny_pure (wpAny_bind (wpAny_bind (wpAny_loadPart hx (wpAny_bind ((PySem.W.looks_clsIn X hcl).at ?_))))))
  rw [hdd]
  have hx₁ : (hp.push { cls:=.type "dict",data:=.dict #[] }).get? x = some _:=Heap.get?_push_of_some _ hx
  refine wpAny_bind (wpAny_alloc' ?_)
  refine wpAny_bind (wpAny_update' hx₁ ?_)
  refine wpAny_pure ?_
  have hgd : ((hp.push { cls:=.type "dict",data:=.dict #[] }).update x fun o=>{ cls:=o.cls,dict:=some hp.objs.size,data:=o.data,slots:=o.slots }).get? hp.objs.size
      = some { cls:=.type "dict",data:=.dict #[] } :=
    (Heap.get?_update_ne _ _ _ _ hxs.symm).trans (Heap.get?_push_at rfl rfl)
  have hnd : ((hp.push { cls:=.type "dict",data:=.dict #[] }).update x fun o=>{ cls:=o.cls,dict:=some hp.objs.size,data:=o.data,slots:=o.slots }).Ns hp.objs.size (fun _=>none) :=
    ⟨_,#[],_,hgd,rfl,fun e he=>absurd he (by simp),fun _=>rfl⟩
  show wpAny _ _ (storeInDict hp.objs.size (.str name tk) name v) _ _ _
  unfold storeInDict newKeyGuard
  refine wpAny_bind (wpAny_pure (wpAny_bind (wpAny_nsSet1 (Heap.Ns1.of_empty hnd) fun h' hn' hs=>?_)))
  obtain ⟨oD,esD,epD,hoD,hdD,hcD⟩:=hn'.count (Within.cons name v Within.nil)
  refine wpAny_bind (wpAny_lookBehind hoD (by rw [hdD]; exact pastItsLine_dict (Nat.le_trans hcD (by rw [List.length_cons,List.length_nil,sizeLine_eq]; omega))) ?_)
  refine wpAny_pure (h h' _ ?_ hn' fun b ob hbx hb=>(hs.2 b (Nat.ne_of_lt (Heap.lt_size hb))).trans ((Heap.get?_update_ne _ _ _ _ hbx).trans (Heap.get?_push_of_some _ hb)))
  exact (hs.2 x hxs).trans (Heap.get?_update_self _ hx₁ rfl)
end
end L2
set_option maxHeartbeats 4000000
namespace L2
open PySem PySem.Spec PyProof.Rows
section
variable {prog : Program} {w : World} {A : Around} {E : Value → Shared → Prop} {h : Heap} {g : Array GenState} {d : Drawn} {t : Nat} {os : OsState}
variable {nm q : Str} {C N fI : Addr} {bs bm bmB : List Value} {hdct : Bool} {sn : List Str} {sub : List Value} {ab : Bool} {col : Option Bool} {dd : Option Addr} {k0 k1 k2 k3 k5 : Option Value} {B nid iid : String} {K : PySem.W.Frag}
theorem J4 (X : K.In h) (F : ExcBaseFacts B nid iid bmB) (T : OwnTail h bmB bm) {mN : Str → Option Value} {us : List Value} {Q : Fin → Shared → Prop}
    (kC : h.get? C = some (excClassObj nm q C N bs bm hdct sn sub ab col dd k0 k1 k2 k3 k5 nid)) (kN : h.Ns N mN) (kI : mN "__init__" = some (.ref fI)) (hf : PySem.W.typeIn K (.ref fI) = some (.type "function")) (hz : us.length ≤ sizeLine)
    (hq : wpAny (model prog w) A (call (.ref fI) (.ref (h.objs.size + 1) :: us)) (fun r s'=>r = .none ∧ Q (.done (.ret (.ref (h.objs.size + 1)))) s') E ⟨mU h C us,g,d,t,os⟩) :
    wpAny (model prog w) A (Builtin.«type.__call__» ⟨.ref C :: us,[]⟩) Q E ⟨h,g,d,t,os⟩:=by
  repeat (first | with_reducible refine wpAny_loadPart_at kC ?_ | with_reducible refine wpAny_madeBy_exc kC ?_ | wp_step)
  refine codeAny_call_builtin_code (Code.quiet_builtin _ F.quiet) (wpAny_check_new_subT F T kC (codeAny_exc_new_subT F T kC ?_ hz))
  show wpAny _ _ _ _ _ _
  have kC1 : (mU h C us).get? C = _:=fO kC
  have kN1 : (mU h C us).Ns N mN:=kN.keeps fun b o e=>fO e
  have X1 : K.In (mU h C us):=X.keeps fun b o e=>fO e
  have T1 : OwnTail (mU h C us) bmB bm:=T.keeps fun b o e=>fO e
  have kE:=yJ (h:=h) (C:=C) (us:=us)
  have self : (Value.ref C :: bm).contains (.ref C) = true:=by simp
  unfold isInstance
  repeat (first | with_reducible refine wpAny_loadPart_at kE ?_ | (with_reducible refine wpAny_isSubtype_exc kC1 ?_; rw [self]) | wp_step)
  show wpAny _ _ (typeLookup (.ref C) _) _ _ _
  refine wpAny_typeLookup_tail kC1 kN1 T1 F.mroIs F.init.lookup ?_
  rw [kI]
  refine wpAny_holding (wpAny_bind ((PySem.W.bind_fn X1 (.ref (h.objs.size + 1)) hf).at ?_))
  refine wpAny_bind (wpAny_mono hq (fun r s' hr=>?_) fun _ _ z=>z)
  obtain ⟨rfl,hQ⟩:=hr
  wp_walk
  exact hQ
theorem L9 (X : K.In h) (F : ExcBaseFacts B nid iid bmB) (T : OwnTail h bmB bm) {mN : Str → Option Value} {us : List Value} {Q : Value → Shared → Prop}
    (kC : h.get? C = some (excClassObj nm q C N bs bm hdct sn sub ab col dd k0 k1 k2 k3 k5 nid)) (kN : h.Ns N mN) (kI : mN "__init__" = some (.ref fI)) (hf : PySem.W.typeIn K (.ref fI) = some (.type "function")) (hz : us.length ≤ sizeLine)
    (hq : wpAny (model prog w) (A.under (.builtin "type.__call__" ⟨.ref C :: us,[]⟩)) (call (.ref fI) (.ref (h.objs.size + 1) :: us)) (fun r s'=>r = .none ∧ Q (.ref (h.objs.size + 1)) s') E ⟨mU h C us,g,d,t,os⟩) :
    wpAny (model prog w) A (call (.ref C) us) Q E ⟨h,g,d,t,os⟩:=by
  have l1:=tc_lookup
  have l2:=tc_bind (.ref C)
  have ty : (⟨h,g,d,t,os⟩ : Shared).TypeIs (.ref C) "type":=⟨_,kC,rfl⟩
  refine wpAny_call (codeAny_of_tree ?_)
  show wpAny _ _ (callAny (.ref C) _) _ _ _
  repeat (any_goals (first | assumption | with_reducible refine wpAny_loadPart_at kC ?_ | wp_step))
  exact ⟨rfl,codeAny_call_builtin_at (Code.quiet_builtin _ (by decide +kernel)) entry_typeCall (wpAny_check_type_call_sub kC (J4 X F T kC kN kI hf hz hq))⟩
end
def Af (C : Addr) (name : Str) : Sp:=fun vs H Q _=>∃ (e : Addr) (v : V),vs = [.ref e,v] ∧ H e = some (xi e C none) ∧ (∃ z,De v z ∧ z.length ≤ 10000) ∧ ∀ d,H d = none → Q .non (upd (upd H d (.xd [(name,v)])) e (xi e C (some d)))
section
variable {X : Cx} {pins : List (Addr × Obj)} {σ : St} {H : Hp} {s : Shared} {C f : Addr} {name x : Str} {fd : FuncData} {ps : List Str} {k : Nat} {np gy pos : Pos} {e₀ : Expr} {ta : TA}
theorem J5 {E : Value → Shared → Prop} {v : V} {u : Value} {Q : Value → Shared → Prop} (xk : BU X.K C f name) (F : aw X.prog X.w X.K X.mg X.base CX0 k f fd ps (Af C name)) (hr : Room (k + 1) X.A) (hb : Binds X.K fd ps []) (I : Inv X pins σ H s) (r : RelV v u)
    (hv : ∃ z,De v z ∧ z.length ≤ 10000)
    (h : ∀ (e d : Addr) (a0 : Value) (s' : Shared),H d = none → Inv X pins σ (upd H d (.xd [(name,v)])) s' → j7 X pins (upd H d (.xd [(name,v)])) e → s'.heap.get? e = some ⟨.ref C,some d,.fields #[a0,.none,.none,.none,.bool false,.none],#[]⟩ → Q (.ref e) s') :
    wpAny (model X.prog X.w) X.A (call (.ref C) [u]) Q E s:=by
  obtain ⟨nm,qn,N,bs,bm,hdct,sn,sub,ab,col,dd,k0,k1,k2,k3,k5,l,T,hd,hi⟩:=xk.ex
  obtain ⟨mN,kN,kI⟩:=hi.ns I.kIn
  have fre:=I.hok.fresh (Nat.le_refl _)
  obtain ⟨hp,g,dr,tk,os⟩:=s
  have ne : H (hp.objs.size + 1) = none:=I.hok.fresh (Nat.le_succ _)
  have I2 : Inv X pins σ (upd H (hp.objs.size + 1) (xi (hp.objs.size + 1) C none)) ⟨mU hp C [u],g,dr,tk,os⟩ :=
    I.laid (h':=mU hp C [u]) (t':=tk) (fun b o q=>fO q) (Nat.le_succ _) (L6 yJ)
  have r2 : Vals [V.ref (hp.objs.size + 1),v] [Value.ref (hp.objs.size + 1),u]:=.cons rfl (.cons r .nil)
  have hsp : Af C name [V.ref (hp.objs.size + 1),v] (upd H (hp.objs.size + 1) (xi (hp.objs.size + 1) C none))
      (fun v' H'=>v' = .non ∧ ∃ d,H d = none ∧ d ≠ hp.objs.size + 1 ∧ H' = upd (upd (upd H (hp.objs.size + 1) (xi (hp.objs.size + 1) C none)) d (.xd [(name,v)])) (hp.objs.size + 1) (xi (hp.objs.size + 1) C (some d))) E0:=by
    refine ⟨_,v,rfl,ae,hv,fun d hd=>⟨rfl,d,?_,?_,rfl⟩⟩
    · by_cases z : d = hp.objs.size + 1
      · rw [z,ae] at hd; cases hd
      · rwa [aq z] at hd
    · intro z; rw [z,ae] at hd; cases hd
  have hl : [Value.ref (hp.objs.size + 1),u].length = ps.length:=by rw [← r2.length]; exact F.len _ _ _ _ hsp
  refine L9 I.kIn (F:=PySem.F.excBase_ValueError) (T.tail I.kIn) (I.kIn _ _ l) kN kI (beq_iff_eq.mp xk.fn) (show 1 ≤ sizeLine by decide) (wpAny_call (codeAny_mono (F.run _ X.stack _ _ ⟨[Value.ref (hp.objs.size + 1),u],[]⟩ _ _ _ E0 (hr.make C [u] [])
    (I2.Oh.make C [u] []) (hb _ [Value.ref (hp.objs.size + 1),u] I2.kIn (by rw [List.append_nil]; exact hl)) (by rw [List.append_nil]; exact r2) hsp) fun rr s' hq=>?_))
  cases rr with
  | error e=>exact hq.elim
  | ok fl =>
    cases fl with
    | ret u' =>
      obtain ⟨v',H',os',bare,un,hok,rv,rfl,d,hd1,hd2,rfl⟩:=hq
      cases rv
      refine ⟨rfl,?_⟩
      have HeE : ∀ {o : HO},upd (upd (upd H (hp.objs.size + 1) (xi (hp.objs.size + 1) C none)) d (.xd [(name,v)])) (hp.objs.size + 1) o (hp.objs.size + 1) = some o:=ae
      have Hne : ∀ b,b ≠ hp.objs.size + 1 → upd (upd (upd H (hp.objs.size + 1) (xi (hp.objs.size + 1) C none)) d (.xd [(name,v)])) (hp.objs.size + 1) (xi (hp.objs.size + 1) C (some d)) b = upd H d (.xd [(name,v)]) b:=fun b hb=>by
        rw [aq hb]
        by_cases z : b = d
        · rw [z,ae,ae]
        · rw [aq z,aq z,aq hb]
      have He2 : upd H d (.xd [(name,v)]) (hp.objs.size + 1) = none:=by rw [aq (Ne.symm hd2)]; exact ne
      have U1 : Un (frs X.stack) [] H (upd H (hp.objs.size + 1) (xi (hp.objs.size + 1) C none)) hp (mU hp C [u]):=Un.laid (fun b o q=>fO q) (Nat.le_succ _) ne
      have U2:=U1.trans un
      have lt : ∀ b o,hp.get? b = some o → b ≠ hp.objs.size + 1:=fun b o q=>Nat.ne_of_lt (Nat.lt_succ_of_lt (Heap.lt_size q))
      have U3 : Un (frs X.stack) [] H (upd H d (.xd [(name,v)])) hp s'.heap:=by
        refine ⟨U2.keep,U2.slot,fun b o q n hx=>?_,U2.there,fun b xs q=>?_,fun b o u q=>?_,fun b p q=>?_⟩
        · have z:=U2.free b o q n hx
          rwa [Hne b (lt b o q)] at z
        · have z:=U2.tU b xs q
          rwa [Hne b (fun e=>by rw [e,ne] at q; cases q)] at z
        · have z:=U2.sP b o u q
          rwa [Hne b (fun e=>by rw [e,ne] at q; cases q)] at z
        · obtain ⟨m,z⟩:=U2.tV b p q
          rw [Hne b (fun e=>by rw [e,ne] at q; cases q)] at z
          exact ⟨m,z⟩
      have K3 : HOk X.prog X.w (upd H d (.xd [(name,v)])) s'.heap:=fun a o q=>by
        have ha : a ≠ hp.objs.size + 1:=fun e=>by rw [e,He2] at q; cases q
        refine (hok a o (by rw [Hne a ha]; exact q)).Ab (fun b u _ z=>z) (fun b z=>?_) (fun b xs z=>?_)
        · rwa [Hne b (fun e=>by rw [e,HeE] at z; cases z)] at z
        · rwa [Hne b (fun e=>by rw [e,HeE] at z; cases z)] at z
      obtain ⟨a0,ea⟩:=L7 (P:=X.prog) (w:=X.w) (hok _ _ HeE)
      have I3 : Inv X pins σ (upd H d (.xd [(name,v)])) s':=I.Lj (ch:=[]) os' U3 K3 bare fun b z=>absurd z (by simp)
      exact h _ d (.ref a0) s' hd1 I3 (I.BB (Nat.le_succ _) He2) ea
    | next=>exact False.elim hq
    | brk=>exact False.elim hq
    | cont=>exact False.elim hq
theorem oZ (xk : BU X.K C f name) (F : aw X.prog X.w X.K X.mg X.base CX0 k f fd ps (Af C name)) (hr : Room (k + 1) X.A) (hb : Binds X.K fd ps []) (hc : X.calm = true) (hg : Gl X x) (hm : X.mg x = some (.ref C)) (ha : PA X.nox [e₀] ta)
    (hdb : (x == ("__debug__" : Str)) = false:=by decide) (he : starEach [e₀] X.env = [(false,eval e₀ X.env)]:=by rfl) :
    PSX X (.Raise (some (.Call (.Name x np) [e₀] [] gy)) none pos) (fun _ E σ H=>ta σ H fun vs H1=>∃ v,vs = [v] ∧ (∃ z,De v z ∧ z.length ≤ 10000) ∧ ∀ d,H1 d = none → E σ (.ref C) (some d) (upd H1 d (.xd [(name,v)]))):=by
  intro pins s σ H D E I h
  obtain ⟨nm,q,N,bs,bm,hdct,sn,sub,ab,col,dd,k0,k1,k2,k3,k5,l,T,hd,hi⟩:=xk.ex
  have go : wpAny (model X.prog X.w) X.A (eval (.Call (.Name x np) [e₀] [] gy) X.env) (fun v s₁=>∃ (e : Addr) (xd : Option Addr) (a0 : Value) (sl : Array (Option Value)),v = .ref e ∧ s₁.heap.get? C = some (excClassObj nm q C N bs bm hdct sn sub ab col dd k0 k1 k2 k3 k5 "ValueError.__new__") ∧
      s₁.heap.get? e = some ⟨.ref C,xd,.fields #[a0,.none,.none,.none,.bool false,.none],sl⟩ ∧ XPS X pins E (.ref e) s₁) (XPS X pins E) s:=by
    refine wpAny_Call_Name_kw (kT I hg hm ?_ hdb)
    unfold callWith
    rw [he]
    refine wpAny_bind (wpAny_holding (Calls.evalArgs_plain ?_))
    have ha':=ha gy pins s σ H _ (I.nZ _) h
    rw [show X.nox.env = X.env from rfl,he] at ha'
    refine wpAny_mono ha' (fun us s₁ ⟨vs,H1,I1,r,v,hvs,hv,q1⟩=>wpAny_bind (wpAny_standAt ?_)) fun _ _ z=>False.elim z
    subst hvs
    obtain ⟨u,rfl,rv⟩:=Vals.one r
    have I1':=I1.eK
    have kC:=I1'.kIn _ _ l
    have pl : (backTo gy [(false,eval e₀ X.env)]).any (·.1) = false:=rfl
    have fin : wpAny (model X.prog X.w) X.A (call (.ref C) ([] ++ [u])) (fun r s'=>∃ (e : Addr) (xd : Option Addr) (a0 : Value) (sl : Array (Option Value)),r = .ref e ∧ s'.heap.get? C = some (excClassObj nm q C N bs bm hdct sn sub ab col dd k0 k1 k2 k3 k5 "ValueError.__new__") ∧
      s'.heap.get? e = some ⟨.ref C,xd,.fields #[a0,.none,.none,.none,.bool false,.none],sl⟩ ∧ XPS X pins E (.ref e) s') (XPS X pins E) s₁:=by
      refine J5 xk F hr hb I1' rv hv fun e d a0 s' hd1 I2 fp ke=>?_
      exact ⟨e,some d,a0,#[],rfl,I2.kIn _ _ l,ke,σ,e,.ref C,some d,none,_,rfl,I2,⟨fp,_,_,ke,(by show 1 < 6; decide),rfl⟩,.inl rfl,q1 d hd1⟩
    obtain ⟨hp,g',d',tk,os'⟩:=s₁
    simp only [pl]
    refine wpAny_bind (wpAny_keeperOf_exc kC ?_)
    exact wpAny_bind (wpAny_mono fin (fun v s2 z=>wpAny_bind (wpAny_holding (wpAny_point (wpAny_pure z)))) fun _ _ z=>z)
  rw [arm_exec_Raise]
  have hbx : bm.contains (.type "BaseException") = true:=(T.tail I.kIn).hasType (b:=true) (by decide +kernel)
  first
    | exact wpAny_bind (wpAny_standAt (rR (C:=C) (nm:=nm) (q:=q) (N:=N) (bs:=bs) (bm:=bm) (hdct:=hdct) (sn:=sn) (sub:=sub) (ab:=ab) (col:=col) (dd:=dd) (k0:=k0) (k1:=k1) (k2:=k2) (k3:=k3) (k5:=k5) hbx (I.ok.hd hc) (wpAny_bind (wpAny_mono go (fun v s₃ h₃=>wpAny_bind (wpAny_standAt (wpAny_pure h₃))) fun _ _ z=>z))))
    | (simp only [evalOpt,Option.map]; exact wpAny_bind (wpAny_standAt (rR (C:=C) (nm:=nm) (q:=q) (N:=N) (bs:=bs) (bm:=bm) (hdct:=hdct) (sn:=sn) (sub:=sub) (ab:=ab) (col:=col) (dd:=dd) (k0:=k0) (k1:=k1) (k2:=k2) (k3:=k3) (k5:=k5) hbx (I.ok.hd hc) (wpAny_bind (wpAny_mono go (fun v s₃ h₃=>wpAny_bind (wpAny_standAt (wpAny_pure h₃))) fun _ _ z=>z)))))
end
end L2
set_option maxHeartbeats 4000000
namespace L2
open PySem PySem.Spec PyProof.Rows
section
variable {X : Cx} {pins : List (Addr × Obj)} {σ : St} {H : Hp} {s : Shared} {C D f : Addr} {name x : Str} {np apos gy pos pos' : Pos} {o e value : Expr} {ta tv : TE} {t : TA}
theorem yL {pl : Sem Bool} (ik : P1 X.K D) (xk : BU X.K C f name) (hg : Gl X x) (hm : X.mg x = some (.ref D)) (ha : PA X [o,e] t) (hdb : (x == ("__debug__" : Str)) = false:=by decide)
    (hst : starEach [o,e] X.env = (false,eval o X.env) :: starEach [e] X.env:=by rfl) (hpl : (backTo pos (starEach [e] X.env)).any (·.1) = false:=by rfl)
    (ht : eval (.Call (.Attribute (.Name x np) "__init__" apos) [o,e] [] pos) X.env = (do
      let ov ← eval (.Name x np) X.env
      standAt apos.atName
      let (f,first) ← holding [ov] (getMethod ov "__init__" pl)
      callWith pos f first (backTo pos (starEach [o,e] X.env)) (backToKw pos (keywordEach [] X.env))):=by rfl) :
    PE X (.Call (.Attribute (.Name x np) "__init__" apos) [o,e] [] pos) (fun σ H Q=>t σ H fun vs H1=>∃ ea v,vs = [.ref ea,v] ∧ H1 ea = some (xi ea C none) ∧ Q .non H1):=by
  intro pins s σ H Q I h
  refine PySem.W.methodCall_KW (pl:=pl) (kT I hg hm ?_ hdb) ht
  refine PySem.W.method_cls I.kIn ik.sp (PySem.W.cls_value I.kIn ik.rd ik.fc (by decide +kernel) ?_)
  show wpAny _ _ (callWith pos (.builtin "ValueError.__init__") [] (backTo pos (starEach [o,e] X.env)) []) _ _ _
  exact PyProof.Rows.callWith_builtin1 (thn (ha pos pins _ σ H _ (I.tok _) h) fun us s1 ⟨vs,H1,I1,r1,ea,v,hv,hx,q⟩=>GC (xk:=xk) pins s1 σ H1 vs us Q I1 r1 ⟨ea,v,hv,hx,q⟩) hst hpl
theorem BV (xk : BU X.K C f name) (ha : PE X o ta) (hv : PE X value tv) (hs : swapsWith value (some (.Attribute o name pos')) pos.line X.env = pure false:=by rfl) : PS X (.Assign [.Attribute o name pos'] value pos)
    (fun D σ H=>tv σ H fun y H1=>ta σ H1 fun x H2=>∃ ea,x = .ref ea ∧ H2 ea = some (xi ea C none) ∧ ∀ d,H2 d = none → D.nx σ (upd (upd H2 d (.xd [(name,y)])) ea (xi ea C (some d)))):=by
  intro pins s σ H D I h
  refine plainObj_wpAny_Assign_Attribute (thn (hv pins s σ H _ I h) fun u s1 ⟨y,H1,I1,ry,q⟩=>thn (ha pins s1 σ H1 _ I1 q) fun ov s2 ⟨x,H2,I2,rx,ea,ex,hx,q2⟩=>?_) hs
  subst ex
  obtain rfl : ov = Value.ref ea:=rx
  obtain ⟨a0,e0⟩:=L7 (P:=X.prog) (w:=X.w) (I2.hok _ _ hx)
  have fr : H2 s2.heap.objs.size = none:=I2.hok.fresh (Nat.le_refl _)
  refine L8 I2.kIn xk e0 fun h' tk hx' ns kk=>⟨σ,_,?_,q2 _ fr⟩
  have hde : ea ≠ s2.heap.objs.size:=aV hx fr
  have old : ∀ b,b ≠ ea → b ≠ s2.heap.objs.size → upd (upd H2 s2.heap.objs.size (.xd [(name,y)])) ea (xi ea C (some s2.heap.objs.size)) b = H2 b:=fun b h1 h2=>by rw [aq h1,aq h2]
  have lt : ∀ b ob,s2.heap.get? b = some ob → b ≠ s2.heap.objs.size:=fun b ob q=>Nat.ne_of_lt (Heap.lt_size q)
  have nx : ∀ b,H2 b = none → b ≠ ea:=fun b n z=>by rw [z,hx] at n; cases n
  have ns' : ∀ b {o : HO},H2 b = some o → b ≠ s2.heap.objs.size:=fun b _ n z=>by rw [z,fr] at n; cases n
  refine I2.un (t':=tk) ⟨fun b ob q n _ _=>kk b ob (nx b n) q,fun b ob q n _ _=>⟨ob.slots,kk b ob (nx b n) q⟩,fun b ob q n _=>by rw [old b (nx b n) (lt b ob q)]; exact n,fun b ob q _=>?_,fun b xs q=>?_,fun b ob u q=>?_,fun b ps q=>?_⟩ fun a ob q=>?_
  · by_cases z : b = ea
    · exact ⟨_,by rw [z]; exact hx'⟩
    · exact ⟨ob,kk b ob z q⟩
  · rw [old b (fun z=>by rw [z,hx] at q; cases q) (ns' b q)]; exact q
  · rw [old b (fun z=>by rw [z,hx] at q; cases q) (ns' b q)]; exact q
  · exact ⟨#[],by rw [old b (fun z=>by rw [z,hx] at q; cases q) (ns' b q),q]; simp⟩
  · by_cases z : a = ea
    · subst z
      rw [ae] at q
      cases q
      exact L6 hx'
    · rw [aq z] at q
      by_cases z2 : a = s2.heap.objs.size
      · rw [z2,ae] at q
        cases q
        refine ⟨_,by rw [z2]; exact ns,fun g=>?_⟩
        rw [List.lookup_cons]
        by_cases hg : g = name
        · rw [if_pos hg,show (g == name) = true from beq_iff_eq.mpr hg]; exact ry
        · rw [if_neg hg,show (g == name) = false from beq_eq_false_iff_ne.mpr hg]; exact True.intro
      · rw [aq z2] at q
        refine (I2.hok a ob q).Ab (fun b u hb r=>kk b u ?_ r) (fun b r=>?_) (fun b xs r=>?_)
        · rintro rfl
          rcases hb with hb | hb
          · exact z hb.symm
          · rw [hx] at hb; cases hb
        · rw [old b (fun z=>by rw [z,hx] at r; cases r) (ns' b r)]; exact r
        · rw [old b (fun z=>by rw [z,hx] at r; cases r) (ns' b r)]; exact r
theorem Df {ea C d : Addr} {fs : List (Str × V)} (I : Inv X pins σ H s) (h : H ea = some (xo ea (.ref C) (some d))) (hd : H d = some (.xd fs)) :
    ∃ ox od,PySem.W.InstAt s.heap ea ox C (some od) ∧ ∃ mA : Str → Option Value,(∀ n,PySem.W.lookIn n od = some (mA n)) ∧ ∀ n,nW (fs.lookup n) (mA n):=by
  obtain ⟨⟨sl,vs,e⟩,_⟩:=(show dF X.prog X.w H s.heap ea (xo ea (.ref C) (some d)) from I.hok _ _ h)
  obtain ⟨mA,ns,r⟩:=(show dF X.prog X.w H s.heap d (.xd fs) from I.hok _ _ hd)
  obtain ⟨od,ho,lk⟩:=AH ns
  exact ⟨_,od,⟨e,rfl,rfl,ho⟩,mA,lk,r⟩
structure OH (K : PySem.W.Frag) (C : Addr) (name : Str) : Prop where
  ga : GaX K C
  na : PySem.W.findIn K (.ref C) name = some none
  hd : PySem.W.hasDictIn K C = true
theorem I9 (he : PE X e ta) (hb : attributeBase e name X.env (eval e X.env) = eval e X.env) : PE X (.Attribute e name pos)
    (fun σ H Q=>ta σ H fun x H1=>∃ ea C d fs v,x = .ref ea ∧ H1 ea = some (xo ea (.ref C) (some d)) ∧ H1 d = some (.xd fs) ∧ OH X.K C name ∧ fs.lookup name = some v ∧ (∃ z,De v z) ∧ Q v H1):=by
  intro pins s σ H Q I h
  refine IM hb (thn (he pins s σ H _ I h) fun u s1 ⟨x,H1,I1,rx,ea,C,d,fs,v,ex,hx,hd,xf,lk,⟨z,fz⟩,q⟩=>?_)
  subst ex
  obtain rfl : u = Value.ref ea:=rx
  obtain ⟨ox,od,J,mA,li,rel⟩:=Df I1 hx hd
  have rl:=rel name
  rw [lk] at rl
  cases hm : mA name with
  | none=>rw [hm] at rl; exact rl.elim
  | some u2 =>
    rw [hm] at rl
    have rl' : RelV v u2:=rl
    have hh : PySem.W.handedIn u2 = true:=by
      cases fz with
      | int _=>obtain ⟨t,rfl⟩:=rl'; rfl
      | str=>obtain ⟨t,rfl⟩:=rl'; rfl
    obtain ⟨cd,hc,hdct⟩:=PySem.W.any_some xf.hd
    have fo : PySem.W.findObj X.K C (some od) name = some (.value u2):=by
      unfold PySem.W.findObj
      rw [hc,Option.bind_some,xf.na,Option.bind_some]
      simp only [Option.bind_some,PySem.W.ownOf,hdct,if_true,li,hm]
    unfold getAttr
    refine wpAny_bind (wpAny_mkText (P0 (s:={ s1 with toks:=s1.toks + 1 }) I1.kIn J xf.ga (LZ (s:={ s1 with toks:=s1.toks + 1 }) I1.kIn J fo ?_)))
    exact ⟨hh,v,H1,I1.tok _,rl',q⟩
theorem GD : hV X (.builtin "isinstance") (fun xs H Q=>∃ ea c C d fs b,xs = [.ref ea,c] ∧ isC c = true ∧ H ea = some (xo ea (.ref C) (some d)) ∧ H d = some (.xd fs) ∧ jb X.K C ∧ PySem.W.kitOne X.K (.ref C) (RM c) = some b ∧ Q (.bl b) H):=by
  intro pins s σ H xs us Q I r h
  obtain ⟨ea,c,C,d,fs,b,rfl,hc,hx,hd,ty,e,q⟩:=h
  obtain ⟨u,w',rfl,rx,rc⟩:=vals2 r
  cases rx
  obtain ⟨ox,od,J,_⟩:=Df I hx hd
  have fin : ∀ tk,EP X pins σ Q (.bool b) { s with toks:=tk }:=fun tk=>⟨.bl b,H,I.tok _,rfl,q⟩
  cases c with
  | ty n=>cases rc; exact PySem.W.kia_one (yj ty) I.kIn J e (fun z=>nomatch z) fin
  | ref a=>cases rc; exact PySem.W.kia_one (yj ty) I.kIn J e (fun z=>nomatch z) fin
  | _=>exact absurd (show false = true from hc) Bool.false_ne_true
end
end L2
set_option maxHeartbeats 4000000
namespace L2
open PySem PySem.Spec PyProof.Rows
section
variable {κ : Type} [DecidableEq κ]
def j8 (kvs : List (κ × V)) (k : κ) : Option V:=(kvs.find? fun kv=>decide (kv.1 = k)).map (·.2)
def putK (kvs : List (κ × V)) (k : κ) (v : V) : List (κ × V) :=
  if (kvs.any fun kv=>decide (kv.1 = k)) = true then kvs.map (fun kv=>if kv.1 = k then (kv.1,v) else kv) else kvs ++ [(k,v)]
def kL (kvs : List (κ × V)) (k : κ) : List (κ × V):=kvs.filter fun kv=>decide (kv.1 ≠ k)
theorem lL {p : κ × V} {r : List (κ × V)} {k : κ} (e : p.1 = k) : j8 (p :: r) k = some p.2:=by simp [j8,List.find?_cons,e]
theorem jP {p : κ × V} {r : List (κ × V)} {k : κ} (e : ¬ p.1 = k) : j8 (p :: r) k = j8 r k:=by simp [j8,List.find?_cons,e]
theorem ua (k : κ) : ∀ kvs : List (κ × V),(kvs.any fun kv=>decide (kv.1 = k)) = (j8 kvs k).isSome
  | []=>rfl
  | p :: r=>by
    rw [List.any_cons]
    by_cases e : p.1 = k
    · simp only [lL e,decide_eq_true e,Bool.true_or,Option.isSome_some]
    · rw [jP e,decide_eq_false e,Bool.false_or]; exact ua k r
theorem wj (kvs : List (κ × V)) (k : κ) (v : V) : (putK kvs k v).length ≤ kvs.length + 1:=by
  unfold putK
  split
  · rw [List.length_map]; omega
  · rw [List.length_append,List.length_cons,List.length_nil]; omega
theorem Ma {kvs : List (κ × V)} {k : κ} (v : V) (h : j8 kvs k = none) : putK kvs k v = kvs ++ [(k,v)]:=by
  unfold putK
  rw [ua,h]
  exact if_neg (by decide)
theorem nW.rS {o : Option V} {u : Option Value} (r : nW o u) : o.isSome = u.isSome:=by
  cases o with
  | none=>cases u with
    | none=>rfl
    | some _=>exact (show False from r).elim
  | some _=>cases u with
    | none=>exact (show False from r).elim
    | some _=>rfl
theorem nW.getD {o : Option V} {u : Option Value} {d : V} {d' : Value} (r : nW o u) (rd : RelV d d') : RelV (o.getD d) (u.getD d'):=by
  cases o with
  | none=>cases u with
    | none=>exact rd
    | some _=>exact (show False from r).elim
  | some _=>cases u with
    | none=>exact (show False from r).elim
    | some _=>exact r
theorem KV.val {kvs : List (κ × V)} {vs : List (κ × Value)} (r : KV kvs vs) (k : κ) : nW (j8 kvs k) (valueAt vs k):=by
  unfold KV at r
  induction r with
  | nil=>exact True.intro
  | @cons p q ps qs h t ih =>
    obtain ⟨h1,h2⟩:=h
    by_cases e : p.1 = k
    · have e' : q.1 = k:=h1.symm.trans e
      have b : valueAt (q :: qs) k = some q.2:=by simp [valueAt,List.find?_cons,e']
      rw [lL e,b]; exact h2
    · have e' : ¬ q.1 = k:=fun z=>e (h1.trans z)
      have b : valueAt (q :: qs) k = valueAt qs k:=by simp [valueAt,List.find?_cons,e']
      rw [jP e,b]; exact ih
theorem KV.any {kvs : List (κ × V)} {vs : List (κ × Value)} (r : KV kvs vs) (k : κ) : (kvs.any fun kv=>decide (kv.1 = k)) = vs.any fun kv=>decide (kv.1 = k):=by
  unfold KV at r
  induction r with
  | nil=>rfl
  | cons h t ih=>rw [List.any_cons,List.any_cons,ih,h.1]
theorem KV.RV {kvs : List (κ × V)} {vs : List (κ × Value)} (r : KV kvs vs) (k : κ) {y : V} {u : Value} (ry : RelV y u) :
    KV (kvs.map fun kv=>if kv.1 = k then (kv.1,y) else kv) (vs.map fun kv=>if kv.1 = k then (kv.1,u) else kv):=by
  unfold KV at r ⊢
  induction r with
  | nil=>exact .nil
  | @cons p q ps qs h t ih =>
    rw [List.map_cons,List.map_cons]
    refine .cons ?_ ih
    obtain ⟨h1,h2⟩:=h
    by_cases e : p.1 = k
    · rw [if_pos e,if_pos (h1.symm.trans e)]; exact ⟨h1,ry⟩
    · rw [if_neg e,if_neg (fun z=>e (h1.trans z))]; exact ⟨h1,h2⟩
theorem KV.put {kvs : List (κ × V)} {vs : List (κ × Value)} (r : KV kvs vs) (k : κ) {y : V} {u : Value} (ry : RelV y u) : KV (putK kvs k y) (stored vs k u):=by
  unfold putK stored
  rw [r.any k]
  by_cases e : (vs.any fun kv=>decide (kv.1 = k)) = true
  · rw [if_pos e,if_pos e]; exact r.RV k ry
  · rw [if_neg e,if_neg e]; exact Paired.snoc r ⟨rfl,ry⟩
theorem KV.drop {kvs : List (κ × V)} {vs : List (κ × Value)} (r : KV kvs vs) (k : κ) : KV (kL kvs k) (without vs k):=by
  unfold KV at r ⊢
  unfold kL without
  induction r with
  | nil=>exact .nil
  | @cons p q ps qs h t ih =>
    obtain ⟨h1,h2⟩:=h
    rw [List.filter_cons,List.filter_cons]
    by_cases e : p.1 = k
    · have a : ¬ decide (p.1 ≠ k) = true:=by simp [e]
      have b : ¬ decide (q.1 ≠ k) = true:=by simp [h1.symm.trans e]
      rw [if_neg a,if_neg b]; exact ih
    · have e' : ¬ q.1 = k:=fun z=>e (h1.trans z)
      have a : decide (p.1 ≠ k) = true:=by simp [e]
      have b : decide (q.1 ≠ k) = true:=by simp [e']
      rw [if_pos a,if_pos b]; exact .cons ⟨h1,h2⟩ ih
theorem KV.keys {kvs : List (κ × V)} {vs : List (κ × Value)} (r : KV kvs vs) : kvs.map (·.1) = vs.map (·.1):=by
  unfold KV at r
  induction r with
  | nil=>rfl
  | cons h t ih=>rw [List.map_cons,List.map_cons,ih,h.1]
theorem KV.length {kvs : List (κ × V)} {vs : List (κ × Value)} (r : KV kvs vs) : kvs.length = vs.length:=Paired.length r
theorem Dg (kvs : List (κ × V)) (k : κ) : (kL kvs k).length ≤ kvs.length:=List.length_filter_le _ _
end
theorem AX {P : Program} {w : World} {k : Key} {u : Value} (r : RelV (kV k) u) : (dS P w).is k u = true:=by
  cases k with
  | inl i=>obtain ⟨t,e⟩:=(show ∃ t,u = Value.int i t from r); subst e; exact CT P w i t
  | inr x=>obtain ⟨t,e⟩:=(show ∃ t,u = Value.str x t from r); subst e; exact CU P w x t
theorem AY {P : Program} {w : World} : ∀ {ks : List Key} {us : List Value},Vals (ks.map kV) us → ItemsAre (dS P w) ks us
  | [],_,r=>by rw [List.map_nil] at r; cases r; exact .nil
  | k :: ks,_,r=>by
    rw [List.map_cons] at r
    cases r with
    | cons h t=>exact .cons (AX h) (AY t)
abbrev KT (H : Hp) : List (List Key × V) → List (List Key × Addr × Value) → Prop:=Paired fun p q=>p.1 = q.1 ∧ H q.2.1 = some (.tup (p.1.map kV)) ∧ RelV p.2 q.2.2
theorem KT.val {H : Hp} {kvs : List (List Key × V)} {xs : List (List Key × Addr × Value)} (r : KT H kvs xs) (k : List Key) : nW (j8 kvs k) ((atKey xs k).map (·.2)):=by
  induction r with
  | nil=>exact True.intro
  | @cons p q ps qs h t ih =>
    obtain ⟨h1,_,h2⟩:=h
    by_cases e : p.1 = k
    · have e' : q.1 = k:=h1.symm.trans e
      have b : atKey (q :: qs) k = some q.2:=by simp [atKey,List.find?_cons,e']
      rw [lL e,b]; exact h2
    · have e' : ¬ q.1 = k:=fun z=>e (h1.trans z)
      have b : atKey (q :: qs) k = atKey qs k:=by simp [atKey,List.find?_cons,e']
      rw [jP e,b]; exact ih
theorem KT.RV {H : Hp} {kvs : List (List Key × V)} {xs : List (List Key × Addr × Value)} (r : KT H kvs xs) (k : List Key) {y : V} {u : Value} (ry : RelV y u) :
    KT H (kvs.map fun kv=>if kv.1 = k then (kv.1,y) else kv) (xs.map (putAt k u)):=by
  induction r with
  | nil=>exact .nil
  | @cons p q ps qs h t ih =>
    rw [List.map_cons,List.map_cons]
    refine .cons ?_ ih
    obtain ⟨h1,h2,h3⟩:=h
    unfold putAt
    by_cases e : p.1 = k
    · rw [if_pos e,if_pos (h1.symm.trans e)]; exact ⟨h1,h2,ry⟩
    · rw [if_neg e,if_neg (fun z=>e (h1.trans z))]; exact ⟨h1,h2,h3⟩
theorem KT.put {H : Hp} {kvs : List (List Key × V)} {xs : List (List Key × Addr × Value)} (r : KT H kvs xs) (k : List Key) {b : Addr} {y : V} {u : Value} (hb : H b = some (.tup (k.map kV))) (ry : RelV y u) :
    KT H (putK kvs k y) (storedH xs k b u):=by
  have e : (kvs.any fun kv=>decide (kv.1 = k)) = (atKey xs k).isSome:=by
    rw [ua,(r.val k).rS,Option.isSome_map]
  unfold putK storedH
  rw [e]
  by_cases q : (atKey xs k).isSome = true
  · rw [if_pos q,if_pos q]; exact r.RV k ry
  · rw [if_neg q,if_neg q]; exact Paired.snoc r ⟨rfl,hb,ry⟩
theorem KT.keeps {H H' : Hp} {kvs : List (List Key × V)} {xs : List (List Key × Addr × Value)} (r : KT H kvs xs) (ht : ∀ b ys,H b = some (.tup ys) → H' b = some (.tup ys)) : KT H' kvs xs :=
  Paired.Rb r fun _ _ z=>⟨z.1,ht _ _ z.2.1,z.2.2⟩
section
variable {P : Program} {w : World} {H : Hp} {h : Heap} {a : Addr}
theorem P2 {u : HO} (ok : HOk P w H h) (e : Rd H a u) : dF P w H h a u:=e.ok ok
theorem AZ {kvs : List (Key × V)} (ok : HOk P w H h) (e : Rd H a (.dK kvs)) : kvs.length ≤ sizeLine ∧ (a == sysModules) = false ∧ ∃ vs,KV kvs vs ∧ h.DictOf (dS P w) a vs :=
  show dF P w H h a (.dK kvs) from P2 ok e
theorem Ja {kvs : List (Key × V)} (ok : HOk P w H h) (e : H a = some (.dK kvs)) : kvs.length ≤ sizeLine ∧ (a == sysModules) = false ∧ ∃ vs,KV kvs vs ∧ h.DictOf (dS P w) a vs:=AZ ok (.inl e)
theorem BW {ks : List Key} (ok : HOk P w H h) (e : H a = some (.tup (ks.map kV))) : (tupleKind (dS P w)).is h ks a:=by
  obtain ⟨_,its,r,o,h1,h2,n,h3⟩:=(show dF P w H h a (.tup (ks.map kV)) from ok a _ e)
  exact ⟨o,its.toArray,n,h1,h2,h3,by simpa using AY r⟩
theorem Dh {kvs : List (List Key × V)} (ok : HOk P w H h) (e : Rd H a (.dT kvs)) : kvs.length ≤ sizeLine ∧ (a == sysModules) = false ∧
    ∃ xs,KT H kvs xs ∧ h.DictOfH (tupleKind (dS P w)) a xs:=by
  obtain ⟨z,y,xs,r,o,es,ep,h1,h2,h3,h4,h5⟩:=(show dF P w H h a (.dT kvs) from P2 ok e)
  refine ⟨z,y,xs,r,o,es,ep,h1,h2,h3,h4,fun x hx=>?_,h5⟩
  have all : ∀ {l : List (List Key × V)} {m : List (List Key × Addr × Value)},KT H l m → ∀ x ∈ m,(tupleKind (dS P w)).is h x.1 x.2.1:=by
    intro l m q
    induction q with
    | nil=>intro x hx; exact nomatch hx
    | @cons p q ps qs hq t ih =>
      intro x hx
      rcases List.mem_cons.mp hx with e | hx
      · subst e
        exact BW ok (by rw [← hq.1]; exact hq.2.1)
      · exact ih x hx
  exact all r x hx
theorem Ww {kvs : List (List Key × V)} (ok : HOk P w H h) (e : H a = some (.dT kvs)) : kvs.length ≤ sizeLine ∧ (a == sysModules) = false ∧
    ∃ xs,KT H kvs xs ∧ h.DictOfH (tupleKind (dS P w)) a xs:=Dh ok (.inl e)
end
def BX (H : Hp) (a : Addr) (y : V) (r : Option V) : Prop :=
  (∃ kvs k,Rd H a (.dK kvs) ∧ y = kV k ∧ r = j8 kvs k) ∨ ∃ kvs k b,Rd H a (.dT kvs) ∧ y = .ref b ∧ H b = some (.tup (k.map kV)) ∧ r = j8 kvs k
def wR (H : Hp) (a : Addr) (y v : V) (H' : Hp) : Prop :=
  (∃ kvs k,H a = some (.dK kvs) ∧ y = kV k ∧ kvs.length < sizeLine ∧ H' = upd H a (.dK (putK kvs k v))) ∨
  ∃ kvs k b,H a = some (.dT kvs) ∧ y = .ref b ∧ H b = some (.tup (k.map kV)) ∧ kvs.length < sizeLine ∧ H' = upd H a (.dT (putK kvs k v))
theorem BX.k {H : Hp} {a : Addr} {kvs : List (Key × V)} {k : Key} (e : H a = some (.dK kvs)) : BX H a (kV k) (j8 kvs k):=.inl ⟨kvs,k,.inl e,rfl,rfl⟩
theorem BX.t {H : Hp} {a b : Addr} {kvs : List (List Key × V)} {k : List Key} (e : H a = some (.dT kvs)) (eb : H b = some (.tup (k.map kV))) : BX H a (.ref b) (j8 kvs k):=.inr ⟨kvs,k,b,.inl e,rfl,eb,rfl⟩
theorem wR.k {H : Hp} {a : Addr} {kvs : List (Key × V)} {k : Key} {v : V} (e : H a = some (.dK kvs)) (hl : kvs.length < sizeLine) : wR H a (kV k) v (upd H a (.dK (putK kvs k v))):=.inl ⟨kvs,k,e,rfl,hl,rfl⟩
theorem wR.t {H : Hp} {a b : Addr} {kvs : List (List Key × V)} {k : List Key} {v : V} (e : H a = some (.dT kvs)) (eb : H b = some (.tup (k.map kV))) (hl : kvs.length < sizeLine) :
    wR H a (.ref b) v (upd H a (.dT (putK kvs k v))):=.inr ⟨kvs,k,b,e,rfl,eb,hl,rfl⟩
section
variable {X : Cx} {pins : List (Addr × Obj)} {σ : St} {H : Hp} {s : Shared} {a : Addr} {y v : V} {u r : Value} {o : Option V} {A : Around} {E : Value → Shared → Prop}
theorem Inv.big (I : Inv X pins σ H s) : sysModules < s.heap.objs.size:=by
  have h : mainGlobals < s.heap.objs.size:=(I.mod.glob.keeps I.bk).lt
  exact Nat.lt_trans (by decide) h
theorem J6 {Q : Value → Shared → Prop} (hu : A.units + 1 < cLine) (I : Inv X pins σ H s) (g : BX H a y (some v)) (ry : RelV y u) (h : ∀ w' s',Inv X pins σ H s' → RelV v w' → Q w' s') :
    wpAny (model X.prog X.w) A (getItem (.ref a) u) Q E s:=by
  rcases g with ⟨kvs,k,e,ey,l⟩ | ⟨kvs,k,b,e,ey,eb,l⟩
  · subst ey
    obtain ⟨z,hd,vs,rel,dd⟩:=AZ I.hok e
    obtain ⟨w',hw,rw'⟩:=nW.some_of (v:=v) (o:=valueAt vs k) (by rw [l]; exact rel.val k)
    exact wpAny_getItem_of (AX ry) dd.mapOf hw (h w' _ (I.tok _) rw')
  · subst ey
    cases (show u = Value.ref b from ry)
    obtain ⟨z,hd,xs,rel,dd⟩:=Dh I.hok e
    obtain ⟨w',hw,rw'⟩:=nW.some_of (v:=v) (o:=(atKey xs k).map (·.2)) (by rw [l]; exact rel.val k)
    obtain ⟨p,hp,hp2⟩:=Option.map_eq_some_iff.mp hw
    refine wpAny_getItem_heap (tupleKind_room_in1 hu) (BW I.hok eb) dd hp ?_
    rw [hp2]
    exact h w' _ (I.tok _) rw'
theorem OI {Q : Value → Shared → Prop} (hu : A.units + 1 < cLine) (I : Inv X pins σ H s) (g : BX H a y o) (ry : RelV y u) (h : ∀ s',Inv X pins σ H s' → Q (.bool (!o.isSome)) s') :
    wpAny (model X.prog X.w) A (compareOp .NotIn u (.ref a)) Q E s:=by
  rcases g with ⟨kvs,k,e,ey,l⟩ | ⟨kvs,k,b,e,ey,eb,l⟩
  · subst ey
    obtain ⟨z,hd,vs,rel,dd⟩:=AZ I.hok e
    refine wpAny_notIn_of (AX ry) hd dd.mapOf ?_
    rw [← (rel.val k).rS,← l]
    exact h _ (I.tok _)
  · subst ey
    cases (show u = Value.ref b from ry)
    obtain ⟨z,hd,xs,rel,dd⟩:=Dh I.hok e
    refine wpAny_notIn_heap (tupleKind_room_in1 hu) (BW I.hok eb) hd dd ?_
    have q:=(rel.val k).rS
    rw [Option.isSome_map] at q
    rw [← q,← l]
    exact h _ (I.tok _)
theorem yk {h' : Heap} {t' : Nat} {ob : HO} (I : Inv X pins σ H s) (mu : Mut (H a)) (hs : Heap.SameBut a s.heap h') (he : ∃ q,h'.get? a = some q) (new : dF X.prog X.w (upd H a ob) h' a ob) :
    Inv X pins σ (upd H a ob) { s with heap:=h',toks:=t' } :=
  I.write (x:=a) (e:=a) mu (.inl rfl) (fun b q hb z=>(hs.2 b hb).trans z) he new
theorem GF {P : Program} {w : World} {H' : Hp} {h' : Heap} {kvs : List (Key × V)} {vs : List (Key × Value)} (z : kvs.length ≤ sizeLine) (hd : (a == sysModules) = false) (rel : KV kvs vs) (dd : h'.DictOf (dS P w) a vs) :
    dF P w H' h' a (.dK kvs):=⟨z,hd,vs,rel,dd⟩
theorem J7 {H' : Hp} {Q : Unit → Shared → Prop} (hu : A.units + 1 < cLine) (I : Inv X pins σ H s) (g : wR H a y v H') (ry : RelV y u) (rv : RelV v r) (h : ∀ s',Inv X pins σ H' s' → Q () s') :
    wpAny (model X.prog X.w) A (setItem (.ref a) u r) Q E s:=by
  rcases g with ⟨kvs,k,e,ey,l,eH⟩ | ⟨kvs,k,b,e,ey,eb,l,eH⟩
  · subst ey eH
    obtain ⟨z,hd,vs,rel,dd⟩:=Ja I.hok e
    have hz : vs.length ≤ sizeLine:=by rw [← rel.length]; exact z
    have hl : (putK kvs k v).length ≤ sizeLine:=by have:=wj kvs k v; omega
    refine wpAny_setItem_pairs (hsz:=hz) (AX ry) dd fun h' dd' hs=>h _ ?_
    have he : ∃ q,h'.get? a = some q:=let ⟨q,_,_,hq,_⟩:=dd'; ⟨q,hq⟩
    exact yk I (by rw [e]; exact True.intro) hs he (GF hl hd (rel.put k rv) dd')
  · subst ey eH
    cases (show u = Value.ref b from ry)
    obtain ⟨z,hd,xs,rel,dd⟩:=Ww I.hok e
    have hz : xs.length ≤ sizeLine:=by rw [← Paired.length rel]; exact z
    have hl : (putK kvs k v).length ≤ sizeLine:=by have:=wj kvs k v; omega
    refine wpAny_setItem_heap (hsz:=hz) (tupleKind_room_in1 hu) (BW I.hok eb) dd fun h' dd' hs=>h _ ?_
    obtain ⟨q,es,ep,hq,h2,h3,h4,_,h5⟩:=dd'
    refine yk I (by rw [e]; exact True.intro) hs ⟨q,hq⟩ ⟨hl,hd,_,(rel.put k eb rv).keeps fun c ys ec=>?_,q,es,ep,hq,h2,h3,h4,h5⟩
    rw [aq (VP ec e (fun z=>nomatch z))]
    exact ec
end
section
variable {X : Cx} {pins : List (Addr × Obj)} {σ : St} {H : Hp} {s : Shared} {a : Addr} {kvs : List (Key × V)} {k : Key} {u : Value} {A : Around} {E : Value → Shared → Prop}
theorem VO {Q : Unit → Shared → Prop} (I : Inv X pins σ H s) (e : H a = some (.dK kvs)) (ry : RelV (kV k) u) (l : (j8 kvs k).isSome = true) (h : ∀ s',Inv X pins σ (upd H a (.dK (kL kvs k))) s' → Q () s') :
    wpAny (model X.prog X.w) A (delItem (.ref a) u) Q E s:=by
  obtain ⟨z,hd,vs,rel,dd⟩:=Ja I.hok e
  refine wpAny_delItem_slot dd.typeIs (by decide) PySem.F.slot_dict_delitem
    (call_meetsIn PySem.F.slot_dict_delitem dd.typeIs PySem.F.entry_dict_delitem (PySem.F.args_dict_delitem_2 _ _) (meets_dict_delitem_pairs (dS X.prog X.w) a (AX ry)) ⟨vs,dd,by rw [← rel.length]; exact z,by rw [← (rel.val k).rS]; exact l,fun h' dd' hs=>h _ ?_⟩)
  have he : ∃ q,h'.get? a = some q:=let ⟨q,_,_,hq,_⟩:=dd'; ⟨q,hq⟩
  exact yk I (by rw [e]; exact True.intro) hs he (GF (Nat.le_trans (Dg kvs k) z) hd (rel.drop k) dd')
theorem Wx {v : V} {more : List Value} {Q : Value → Shared → Prop} (I : Inv X pins σ H s) (e : H a = some (.dK kvs)) (ry : RelV (kV k) u) (l : j8 kvs k = some v) (hm : more = [] ∨ ∃ x,more = [x])
    (h : ∀ w' s',Inv X pins σ (upd H a (.dK (kL kvs k))) s' → RelV v w' → Q w' s') : wpAny (model X.prog X.w) A (call (.builtin "dict.pop") (.ref a :: u :: more)) Q E s:=by
  obtain ⟨z,hd,vs,rel,dd⟩:=Ja I.hok e
  obtain ⟨w',hw,rw'⟩:=nW.some_of (v:=v) (o:=valueAt vs k) (by rw [← l]; exact rel.val k)
  have hp : (keyPart u).isSome = true:=by
    cases k with
    | inl i=>obtain ⟨t,q⟩:=(show ∃ t,u = Value.int i t from ry); subst q; rfl
    | inr x=>obtain ⟨t,q⟩:=(show ∃ t,u = Value.str x t from ry); subst q; rfl
  have ha : argsOk "dict.pop" ⟨.ref a :: u :: more,[]⟩:=by
    rcases hm with q | ⟨x,q⟩
    · subst q; exact PySem.F.args_dict_pop_2 _ _
    · subst q; exact PySem.F.args_dict_pop_3 _ _ _
  refine call_meetsIn PySem.F.slot_dict_pop dd.typeIs PySem.F.entry_dict_pop ha (meets_dict_pop_there (dS X.prog X.w) a (AX ry) more hm hp)
    ⟨vs,w',dd,by rw [← rel.length]; exact z,hw,fun h' dd' hs=>h w' _ ?_ rw'⟩
  have he : ∃ q,h'.get? a = some q:=let ⟨q,_,_,hq,_⟩:=dd'; ⟨q,hq⟩
  exact yk I (by rw [e]; exact True.intro) hs he (GF (Nat.le_trans (Dg kvs k) z) hd (rel.drop k) dd')
theorem Wy {Q : Value → Shared → Prop} (I : Inv X pins σ H s) (e : Rd H a (.dK kvs)) (h : ∀ t s',Inv X pins σ H s' → Q (.int kvs.length t) s') : wpAny (model X.prog X.w) A (call (.builtin "len") [.ref a]) Q E s:=by
  obtain ⟨z,hd,vs,rel,dd⟩:=AZ I.hok e
  refine call_len_dict hd dd (by rw [← rel.length]; rw [sizeLine_eq] at z; omega) ?_
  rw [← rel.length]
  exact h _ _ (I.tok _)
end
def Wz (i : Expr) : Prop:=∀ ov iv,subscripted i false ov iv = operate [ov,iv] (getItem ov iv)
theorem OJ {prog : Program} {w : World} {A : Around} {E : Value → Shared → Prop} {s : Shared} {env : Env} {value slice : Expr} {pos : Pos} {T id : String} {Q : Value → Shared → Prop}
    (hl : typeLookup (.type T) "__getitem__" = pure (some (.builtin id))) (hs : Wz slice)
    (h : wpAny (model prog w) A (eval value env) (fun o s₁=>wpAny (model prog w) A (eval slice env) (fun i s₂=>s₂.TypeIs o T ∧ wpAny (model prog w) A (getItem o i) Q E s₂) E s₁) E s) :
    wpAny (model prog w) A (eval (.Subscript value slice pos) env) Q E s:=by
  refine Subscript_ (wpAny_mono h (fun o s₁ h₁=>wpAny_mono h₁ (fun i s₂ h₂=>?_) fun _ _ x=>x) fun _ _ x=>x)
  obtain ⟨hT,h₂⟩:=h₂
  unfold subscriptTail
  refine wpAny_bind ?_
  rw [getitemInPython_of_ne hT.not_modules]
  refine wpAny_bind (wpAny_specialOf hT hl ?_)
  have fin : wpAny (model prog w) A (subscripted slice false o i) (fun r s₃=>wpAny (model prog w) A (letTemporaryGo value o r >>= fun _=>pure r) Q E s₃) E s₂:=by
    rw [hs o i]
    exact wpAny_operating (wpAny_mono h₂ (fun r s₃ h₃=>wpAny_bind (wpAny_letTemporaryGo (wpAny_pure h₃))) fun _ _ x=>x)
  first
    | exact wpAny_pure (wpAny_bind fin)
    | exact wpAny_bind (wpAny_pure (wpAny_bind fin))
    | exact wpAny_bind fin
theorem Di {X : Cx} {pins : List (Addr × Obj)} {σ : St} {H : Hp} {s : Shared} {a : Addr} {y : V} {o : Option V} (I : Inv X pins σ H s) (g : BX H a y o) : s.TypeIs (.ref a) "dict":=by
  rcases g with ⟨kvs,k,e,_,_⟩ | ⟨kvs,k,b,e,_,_,_⟩
  · obtain ⟨_,_,vs,_,dd⟩:=AZ I.hok e
    exact dd.typeIs
  · obtain ⟨_,_,xs,_,dd⟩:=Dh I.hok e
    exact dd.typeIs
def WA (td ty : TE) : TE:=fun σ H Q=>td σ H fun x H1=>ty σ H1 fun y H2=>∃ a v,x = .ref a ∧ BX H2 a y (some v) ∧ Q v H2
def OK (ty td : TE) : TE:=fun σ H Q=>ty σ H fun y H1=>td σ H1 fun x H2=>∃ a o,x = .ref a ∧ BX H2 a y o ∧ Q (.bl (!o.isSome)) H2
def WB (td ty tv : TE) : TS:=fun D σ H=>tv σ H fun v H1=>td σ H1 fun x H2=>ty σ H2 fun y H3=>∃ a H4,x = .ref a ∧ wR H3 a y v H4 ∧ D.nx σ H4
section
variable {X : Cx} {o i e value : Expr} {pos pos' abS : Pos} {td ty tv : TE}
theorem mV (hu : X.A.units + 1 < cLine) (ho : PE X o td) (hi : PE X i ty) (hs : Wz i) : PE X (.Subscript o i pos) (WA td ty):=by
  intro pins s σ H Q I h
  refine OJ PySem.F.slot_dict_getitem.lookup hs (thn (ho pins s σ H _ I h) fun u s1 ⟨x,H1,I1,rx,q1⟩=>thn (hi pins s1 σ H1 _ I1 q1) fun iv s2 ⟨y,H2,I2,ry,a,v,ex,g,q2⟩=>?_)
  subst ex
  obtain rfl : u = Value.ref a:=rx
  exact ⟨Di I2 g,J6 hu I2 g ry fun w' s3 I3 rw'=>⟨v,H2,I3,rw',q2⟩⟩
theorem A0 (hu : X.A.units + 1 < cLine) (hi : PE X i ty) (ho : PE X o td) : PC X .NotIn i o (OK ty td):=by
  intro pins s σ H Q I h
  refine thn (hi pins s σ H _ I h) fun iv s1 ⟨y,H1,I1,ry,q1⟩=>thn (ho pins s1 σ H1 _ I1 q1) fun u s2 ⟨x,H2,I2,rx,a,ov,ex,g,q2⟩=>?_
  subst ex
  obtain rfl : u = Value.ref a:=rx
  exact OI hu I2 g ry fun s3 I3=>⟨.bl (!ov.isSome),H2,I3,rfl,q2⟩
theorem rT (hu : X.A.units + 1 < cLine) (ho : PE X o td) (hi : PE X i ty) (hv : PE X value tv) (hs : swapsWith value (some (.Subscript o i pos')) pos.line X.env = pure false) :
    PS X (.Assign [.Subscript o i pos'] value pos) (WB td ty tv):=by
  intro pins s σ H D I h
  refine wpAny_Assign_Subscript (thn (hv pins s σ H _ I h) fun r s1 ⟨v,H1,I1,rv,q1⟩=>thn (ho pins s1 σ H1 _ I1 q1) fun u s2 ⟨x,H2,I2,rx,q2⟩=>thn (hi pins s2 σ H2 _ I2 q2) fun iv s3 ⟨y,H3,I3,ry,a,H4,ex,g,q3⟩=>?_) hs
  subst ex
  obtain rfl : u = Value.ref a:=rx
  exact J7 hu I3 g ry rv fun s4 I4=>⟨σ,H4,I4,q3⟩
end
theorem Mb {P : Program} {w : World} {H : Hp} (h : Heap) (hb : sysModules < h.objs.size) : dF P w H (h.push { cls:=.type "dict",data:=.dict #[] }) h.objs.size (.dK []) :=
  ⟨Nat.zero_le _,beq_eq_false_iff_ne.mpr (Ne.symm (Nat.ne_of_lt hb)),[],.nil,Heap.DictOf.new h⟩
def RW : TE:=fun _ H Q=>∀ p,H p = none → Q (.ref p) (upd H p (.dK []))
section
variable {X : Cx} {pos : Pos}
theorem ub : PE X (.Dict [] [] pos) RW:=fun pins s σ H Q I h =>
  wpAny_Dict_empty ⟨.ref s.heap.objs.size,_,I.laid (a:=s.heap.objs.size) (o:=.dK []) (t':=s.toks) (fun _ _ q=>Heap.get?_push_of_some _ q) (Nat.le_refl _) (Mb s.heap I.big),rfl,h _ (I.hok.fresh (Nat.le_refl _))⟩
end
structure M1 (X : Cx) (o : Expr) (m : Str) (apos : Pos) (e : Expr) (gy : Pos) : Prop where
  base : attributeBase o m X.env (eval o X.env) = eval o X.env
  few : ((backTo gy (starEach [e] X.env)).all (fun x=>!x.1) && (backToKw gy (keywordEach [] X.env)).all (fun x=>x.1.isSome)
    && decide (([e] : List Expr).length + ([] : List Keyword).length + (if ([] : List Keyword).isEmpty then 0 else 1) < 30)) = true
  line : (apos.endLine == gy.line) = true
  trees : backTo gy (starEach [e] X.env) = [(false,eval e X.env)]
structure M2 (X : Cx) (o : Expr) (m : Str) (apos : Pos) (e f : Expr) (gy : Pos) : Prop where
  base : attributeBase o m X.env (eval o X.env) = eval o X.env
  few : ((backTo gy (starEach [e,f] X.env)).all (fun x=>!x.1) && (backToKw gy (keywordEach [] X.env)).all (fun x=>x.1.isSome)
    && decide (([e,f] : List Expr).length + ([] : List Keyword).length + (if ([] : List Keyword).isEmpty then 0 else 1) < 30)) = true
  line : (apos.endLine == gy.line) = true
  trees : backTo gy (starEach [e,f] X.env) = [(false,eval e X.env),(false,eval f X.env)]
def IsD (H : Hp) (a : Addr) : Prop:=(∃ kvs,Rd H a (.dK kvs)) ∨ ∃ kvs,Rd H a (.dT kvs)
theorem RX {X : Cx} {pins : List (Addr × Obj)} {σ : St} {H : Hp} {s : Shared} {a : Addr} (I : Inv X pins σ H s) (d : IsD H a) :
    s.TypeIs (.ref a) "dict" ∧ (∀ b,Value.ref a = .ref b → ∃ ob,s.heap.get? b = some ob ∧ ob.dict = none) ∧ (a == sysModules) = false:=by
  rcases d with ⟨kvs,e⟩ | ⟨kvs,e⟩
  · obtain ⟨_,hd,vs,_,dd⟩:=AZ I.hok e
    refine ⟨dd.typeIs,fun b q=>?_,hd⟩
    cases q
    obtain ⟨ob,_,_,h1,h2,_⟩:=dd
    exact ⟨ob,h1,h2.2.1⟩
  · obtain ⟨_,hd,xs,_,dd⟩:=Dh I.hok e
    refine ⟨dd.typeIs,fun b q=>?_,hd⟩
    cases q
    obtain ⟨ob,_,_,h1,h2,_⟩:=dd
    exact ⟨ob,h1,h2.2.1⟩
def RY (td ty : TE) : TE:=fun σ H Q=>td σ H fun x H1=>∃ a,x = .ref a ∧ IsD H1 a ∧ ty σ H1 fun y H2=>∃ kvs k v,H2 a = some (.dK kvs) ∧ y = kV k ∧ j8 kvs k = some v ∧ Q v (upd H2 a (.dK (kL kvs k)))
section
variable {X : Cx} {o e f : Expr} {apos gy : Pos} {td ty tx : TE}
theorem Mc (ho : PE X o td) (he : PE X e ty) (m : M1 X o "pop" apos e gy) : PE X (.Call (.Attribute o "pop" apos) [e] [] gy) (RY td ty):=by
  intro pins s σ H Q I h
  refine wpAny_Call_method m.base m.few m.line PySem.F.plainAttrs_dict PySem.F.slot_dict_pop PySem.F.type_dict_pop (thn (ho pins s σ H _ I h) fun u s1 ⟨x,H1,I1,rx,a,ex,d,q1⟩=>?_)
  subst ex
  obtain rfl : u = Value.ref a:=rx
  obtain ⟨t1,t2,_⟩:=RX I1 d
  refine ⟨t1,t2,?_⟩
  rw [m.trees]
  refine Calls.callWith_builtin rfl (Calls.evalArgs_plain (Calls.spliced_cons (thn (he pins s1 σ H1 _ I1 q1) fun iv s2 ⟨y,H2,I2,ry,kvs,k,v,ea,ey,l,q2⟩=>Calls.spliced_nil ?_)))
  subst ey
  exact Wx I2 ea ry l (.inl rfl) fun w' s3 I3 rw'=>⟨v,_,I3,rw',q2⟩
end
end L2
namespace L2
open PySem PySem.Spec PyProof.Rows
section
variable {X : Cx}
theorem J8 : hV X (.builtin "len") (fun xs H Q=>∃ a kvs,xs = [V.ref a] ∧ H a = some (.dK kvs) ∧ Q (.int kvs.length) H):=by
  intro pins s σ H xs us Q I r h
  obtain ⟨a,kvs,rfl,ha,q⟩:=h
  obtain ⟨u,rfl,ru⟩:=vals1 r
  cases ru
  exact Wy I (.inl ha) fun t s' I'=>⟨.int kvs.length,H,I',⟨t,rfl⟩,q⟩
end
end L2
set_option maxHeartbeats 4000000
namespace L2
open PySem PySem.Spec PyProof.Rows
theorem Room.u1 {k : Nat} {A : Around} (r : Room k A) : A.units + 1 < cLine:=by have:=r.un; omega
theorem OL {X : Cx} {K : PySem.W.Frag} {e : Expr} {f : Str} {pos : Pos} {ta : TE} (ek : X.K = K) (he : PE X e ta) (hb : attributeBase e f X.env (eval e X.env) = eval e X.env) : PE X (.Attribute e f pos) (V6 K ta f):=by
  subst ek; exact bg he hb
theorem ints_of : ∀ (l : List Value) (ns : List Int),l.length = ns.length → (∀ (j : Nat) (v : Value),l[j]? = some v → ∃ n t,ns[j]? = some n ∧ v = Value.int n t) → IntsAre l ns
  | [],[],_,_=>.nil
  | [],_ :: _,h,_=>nomatch h
  | _ :: _,[],h,_=>nomatch h
  | v :: l,n :: ns,h,g=>by
    obtain ⟨n',t,e1,e2⟩:=g 0 v rfl
    have e3 : n = n':=by simpa using e1
    subst e3; subst e2
    exact .cons n t (ints_of l ns (by simpa using h) fun j v hv=>g (j + 1) v (by simpa using hv))
theorem Dj : ∀ {vs : List Value} {ns : List Int},IntsAre vs ns → Vals (ns.map V.int) vs
  | _,_,.nil=>.nil
  | _,_,.cons n t h=>.cons ⟨t,rfl⟩ (Dj h)
theorem P4 {κ : Type} : ∀ {kvs : List (κ × V)} {vs : List (κ × Value)},KV kvs vs → ∀ (j : Nat) (q : κ × Value),vs[j]? = some q → (kvs.map (·.1))[j]? = some q.1
  | _,_,.nil,j,q,h=>by simp at h
  | _,_,.cons a r,0,q,h=>by
    rw [List.getElem?_cons_zero] at h
    cases h
    rw [List.map_cons,List.getElem?_cons_zero,a.1]
  | _,_,.cons a r,j + 1,q,h=>by
    have:=P4 r j q (by simpa using h)
    simpa using this
theorem OM {P : Program} {w : World} {n : Int} {v : Value} (h : (dS P w).is (Sum.inl n) v = true) : ∃ t,v = Value.int n t:=by
  rcases dE (k:=Sum.inl n) (v:=v) (show yw (Sum.inl n) v = true from h) with ⟨i,t,e,rfl⟩ | ⟨x,t,e,rfl⟩
  · cases e; exact ⟨t,rfl⟩
  · cases e
theorem BY {X : Cx} (hh : X.A.handled = none) : hV X (.builtin "sorted") (fun xs H Q=>∃ a kvs ns,xs = [V.ref a] ∧ H a = some (.dK kvs) ∧ kvs.map (·.1) = ns.map Sum.inl ∧ ns.length < 64 ∧
    ∀ l ns',List.Perm ns' ns → ns'.Pairwise (· ≤ ·) → H l = none → Q (.ref l) (upd H l (.lst (ns'.map V.int)))):=by
  intro pins s σ H xs us Q I r h
  obtain ⟨a,kvs,ns,rfl,ha,hk,h64,q⟩:=h
  obtain ⟨u,rfl,ru⟩:=vals1 r
  cases ru
  obtain ⟨z,hd,vs,rel,dd⟩:=Ja I.hok ha
  obtain ⟨ep,hat⟩:=dd.dictAt
  have hlen : vs.length = ns.length:=by
    have e1:=congrArg List.length hk
    simp only [List.length_map] at e1
    rw [← rel.length]; exact e1
  refine Calls.call_function_entry kind_sorted plain_sorted entry_sorted (args_sorted1 _) ?_
  unfold Builtin.«sorted»
  refine wpAny_bind (m:=checkCount "sorted" 1 1 _) (wpAny_pure ?_)
  refine wpAny_bind (PySem.W.kdu_collect (A:=X.A.in1) (PySem.W.kdl_dict (knd:=dS X.prog X.w) (kvs:=vs) (ep:=ep) hd) hh hat (by rw [← rel.length]; exact z) fun h' tk acc kp Ou=>?_)
  have hsz : acc.toList.length = ns.length:=by rw [Array.length_toList]; exact Ou.1.trans hlen
  have hI : IntsAre acc.toList ns:=ints_of _ _ hsz fun j v hv=>by
    obtain ⟨k,x,hx,hkv⟩:=Ou.2 j v (by rw [← Array.getElem?_toList]; exact hv)
    have e:=P4 rel j _ hx
    rw [hk,List.getElem?_map] at e
    cases en : ns[j]? with
    | none=>rw [en] at e; cases e
    | some n =>
      rw [en] at e
      have e' : Sum.inl n = k:=by simpa using e
      subst e'
      obtain ⟨t,rfl⟩:=OM hkv
      exact ⟨n,t,rfl,rfl⟩
  refine wpAny_bind (wpAny_newList ?_ (by rw [hsz]; rw [sizeLine_eq]; omega))
  have hoL : (h'.push (seqObj "list" acc.toList.toArray 0)).get? h'.objs.size = some (seqObj "list" acc.toList.toArray 0):=Heap.get?_push_size _ rfl
  refine wpAny_bind (wpAny_holding (wpAny_call_entry slot_list_sort ⟨_,hoL,rfl⟩ entry_list_sort (list_sort_tree hoL hI (by omega) fun out ns' a1 a2 a3=>⟨_,rfl,?_⟩) (args_list_sort _)))
  refine wpAny_pure ⟨_,rfl,?_⟩
  obtain ⟨e,he⟩:=sortedHeap_at (out:=out) hoL
  have I1 : Inv X pins σ H { s with heap:=h',toks:=tk }:=I.un (Un.kept kp) (I.hok.kept kp)
  refine ⟨.ref h'.objs.size,_,I1.laid (t':=tk) (fun b o hb=>?_) (Nat.le_refl _) (show dF X.prog X.w _ _ _ (.lst (ns'.map V.int)) from ⟨?_,_,e,Dj a1,?_⟩),rfl,q _ ns' a2 a3 (I1.hok.fresh (Nat.le_refl _))⟩
  · have hb' : h'.get? b = some o:=hb
    have hlt:=Heap.lt_size hb'
    rw [sortedHeap_old (Nat.ne_of_lt hlt) (by rw [size_push']; exact Nat.lt_succ_of_lt hlt)]
    exact Heap.get?_push_of_some _ hb'
  · rw [List.length_map,a2.length_eq,sizeLine_eq]; omega
  · rw [Array.toArray_toList]; exact he
theorem J9 : bootBuiltins "sorted" = some (.builtin "sorted"):=by decide +kernel
theorem Dk {X : Cx} {f : Value} {r1 r2 : List V → Hp → VK → Prop} (h1 : hV X f r1) (h2 : hV X f r2) : hV X f (fun xs H Q=>r1 xs H Q ∨ r2 xs H Q):=by
  intro pins s σ H xs us Q I r h
  rcases h with h | h
  · exact h1 pins s σ H xs us Q I r h
  · exact h2 pins s σ H xs us Q I r h
def IsB (K : PySem.W.Frag) (H : Hp) (v : V) (D : Addr) (b : Bool) : Prop:=(∃ t,sS K H v t ∧ PySem.W.kitOne K t (.ref D) = some b) ∨ (∃ ea C,v = .ref ea ∧ H ea = some (xo ea (.ref C) none) ∧ jb K C ∧ PySem.W.kitOne K (.ref C) (.ref D) = some b) ∨
    ∃ ea C d fs,v = .ref ea ∧ H ea = some (xo ea (.ref C) (some d)) ∧ H d = some (.xd fs) ∧ jb K C ∧ PySem.W.kitOne K (.ref C) (.ref D) = some b
theorem d0 {X : Cx} : hV X (.builtin "isinstance") (fun xs H Q=>∃ v D b,xs = [v,.ref D] ∧ IsB X.K H v D b ∧ Q (.bl b) H):=by
  intro pins s σ H xs us Q I r h
  obtain ⟨v,D,b,rfl,h,q⟩:=h
  refine Dk yE (Dk J1 GD) pins s σ H [v,.ref D] us Q I r ?_
  rcases h with ⟨t,h1,h2⟩ | ⟨ea,C,rfl,h1,h2,h3⟩ | ⟨ea,C,d,fs,rfl,h1,h2,h3,h4⟩
  · exact .inl ⟨v,.ref D,t,b,rfl,rfl,h1,h2,q⟩
  · exact .inr (.inl ⟨ea,.ref D,C,b,rfl,rfl,h1,h2,h3,q⟩)
  · exact .inr (.inr ⟨ea,.ref D,C,d,fs,b,rfl,rfl,h1,h2,h3,h4,q⟩)
end L2
set_option maxHeartbeats 1000000
namespace My
open PySem L2
seal PySem.wpAny
def top (i : Nat) : Stmt:=PySem.Challenge.pw_moot_k30_deeds_done.main.body.getD i (.Pass ⟨0,0,0,0⟩)
abbrev fP : Stmt:=inClass (top 22) 1
theorem yM : aB ["self"] ["self"] (af fP):=⟨rfl,rfl,rfl,by decide +kernel,rfl,by decide +kernel,by decide +kernel⟩
abbrev fQ : Stmt:=inClass (top 23) 1
theorem yN : aB ["self"] ["self"] (af fQ):=⟨rfl,rfl,rfl,by decide +kernel,rfl,by decide +kernel,by decide +kernel⟩
abbrev iF : Stmt:=inClass (top 24) 1
theorem BZ : aB ["self"] ["self"] (af iF):=⟨rfl,rfl,rfl,by decide +kernel,rfl,by decide +kernel,by decide +kernel⟩
abbrev fR : Stmt:=inClass (top 25) 1
theorem yO : aB ["self"] ["self"] (af fR):=⟨rfl,rfl,rfl,by decide +kernel,rfl,by decide +kernel,by decide +kernel⟩
abbrev gS : Stmt:=inClass (top 26) 0
theorem Ag : aB ["self"] ["self"] (af gS):=⟨rfl,rfl,rfl,by decide +kernel,rfl,by decide +kernel,by decide +kernel⟩
abbrev ji : Stmt:=inClass (top 27) 0
theorem Dl : aB ["self"] ["self"] (af ji):=⟨rfl,rfl,rfl,by decide +kernel,rfl,by decide +kernel,by decide +kernel⟩
abbrev iG : Stmt:=inClass (top 28) 0
theorem B0 : aB ["self"] ["self"] (af iG):=⟨rfl,rfl,rfl,by decide +kernel,rfl,by decide +kernel,by decide +kernel⟩
abbrev gU : Stmt:=inClass (top 29) 1
theorem Ah : aB ["self"] ["self"] (af gU):=⟨rfl,rfl,rfl,by decide +kernel,rfl,by decide +kernel,by decide +kernel⟩
abbrev fS : Stmt:=inClass (top 21) 1
theorem yP : aB ["self"] ["self"] (af fS):=⟨rfl,rfl,rfl,by decide +kernel,rfl,by decide +kernel,by decide +kernel⟩
abbrev fU : Stmt:=inClass (top 21) 2
theorem yQ : aB ["self"] ["self"] (af fU):=⟨rfl,rfl,rfl,by decide +kernel,rfl,by decide +kernel,by decide +kernel⟩
abbrev gW : Stmt:=inClass (top 26) 1
theorem Ai : aB ["self"] ["self"] (af gW):=⟨rfl,rfl,rfl,by decide +kernel,rfl,by decide +kernel,by decide +kernel⟩
abbrev fV : Stmt:=inClass (top 21) 3
theorem yR : aB ["self"] ["self"] (af fV):=⟨rfl,rfl,rfl,by decide +kernel,rfl,by decide +kernel,by decide +kernel⟩
abbrev fW : Stmt:=inClass (top 22) 2
theorem yS : aB ["self"] ["self"] (af fW):=⟨rfl,rfl,rfl,by decide +kernel,rfl,by decide +kernel,by decide +kernel⟩
abbrev fX : Stmt:=inClass (top 23) 2
theorem yT : aB ["self"] ["self"] (af fX):=⟨rfl,rfl,rfl,by decide +kernel,rfl,by decide +kernel,by decide +kernel⟩
abbrev iH : Stmt:=inClass (top 24) 2
theorem B1 : aB ["self"] ["self"] (af iH):=⟨rfl,rfl,rfl,by decide +kernel,rfl,by decide +kernel,by decide +kernel⟩
abbrev fY : Stmt:=inClass (top 25) 2
theorem yU : aB ["self"] ["self"] (af fY):=⟨rfl,rfl,rfl,by decide +kernel,rfl,by decide +kernel,by decide +kernel⟩
abbrev gX : Stmt:=inClass (top 29) 2
theorem Aj : aB ["self"] ["self"] (af gX):=⟨rfl,rfl,rfl,by decide +kernel,rfl,by decide +kernel,by decide +kernel⟩
abbrev fZ : Stmt:=inClass (top 22) 0
theorem yV : aB ["self","text"] ["self","text"] (af fZ):=⟨rfl,rfl,rfl,by decide +kernel,rfl,by decide +kernel,by decide +kernel⟩
abbrev f6 : Stmt:=inClass (top 23) 0
theorem yW : aB ["self","edit"] ["self","edit"] (af f6):=⟨rfl,rfl,rfl,by decide +kernel,rfl,by decide +kernel,by decide +kernel⟩
abbrev iI : Stmt:=inClass (top 24) 0
theorem B2 : aB ["self","edit"] ["self","edit"] (af iI):=⟨rfl,rfl,rfl,by decide +kernel,rfl,by decide +kernel,by decide +kernel⟩
abbrev f7 : Stmt:=inClass (top 25) 0
theorem yX : aB ["self","sitting"] ["self","sitting"] (af f7):=⟨rfl,rfl,rfl,by decide +kernel,rfl,by decide +kernel,by decide +kernel⟩
abbrev gY : Stmt:=inClass (top 29) 0
theorem Ak : aB ["self","clause"] ["self","clause"] (af gY):=⟨rfl,rfl,rfl,by decide +kernel,rfl,by decide +kernel,by decide +kernel⟩
abbrev f9 : Stmt:=inClass (top 4) 0
theorem yY : aB ["self","bar"] ["self","bar"] (af f9):=⟨rfl,rfl,rfl,by decide +kernel,rfl,by decide +kernel,by decide +kernel⟩
abbrev d3 : Stmt:=inClass (top 7) 0
theorem va : aB ["self","sitting"] ["self","sitting"] (af d3):=⟨rfl,rfl,rfl,by decide +kernel,rfl,by decide +kernel,by decide +kernel⟩
abbrev gb : Stmt:=inClass (top 11) 0
theorem yZ : aB ["self","sitting"] ["self","sitting"] (af gb):=⟨rfl,rfl,rfl,by decide +kernel,rfl,by decide +kernel,by decide +kernel⟩
abbrev eN : Stmt:=inClass (top 46) 0
theorem wU : aB ["self","seats"] ["self","seats"] (af eN):=⟨rfl,rfl,rfl,by decide +kernel,rfl,by decide +kernel,by decide +kernel⟩
abbrev eO : Stmt:=inClass (top 46) 1
theorem pR : aB ["self","told","number"] ["self","told"] (af eO):=⟨rfl,rfl,rfl,by decide +kernel,rfl,by decide +kernel,by decide +kernel⟩
abbrev eP : Stmt:=inClass (top 46) 2
theorem j9 : aB ["self","ayes","noes","motion","word"] ["self","ayes","noes"] (af eP):=⟨rfl,rfl,rfl,by decide +kernel,rfl,by decide +kernel,by decide +kernel⟩
abbrev eQ : Stmt:=inClass (top 46) 3
theorem wV : aB ["self"] ["self"] (af eQ):=⟨rfl,rfl,rfl,by decide +kernel,rfl,by decide +kernel,by decide +kernel⟩
abbrev eR : Stmt:=inClass (top 46) 4
theorem pS : aB ["self","number","until"] ["self","number"] (af eR):=⟨rfl,rfl,rfl,by decide +kernel,rfl,by decide +kernel,by decide +kernel⟩
abbrev du : Stmt:=inClass (top 46) 6
theorem vb : aB ["self","aside"] ["self"] (af du):=⟨rfl,rfl,rfl,by decide +kernel,rfl,by decide +kernel,by decide +kernel⟩
abbrev kM : Scope:={ kind:=.function,names:=[(Str.ofString ".0",.local),(Str.ofString "number",.local),(Str.ofString "self",.free)],isGenerator:=false,isCoroutine:=false,more:=[] }
theorem sT : dM kM (af du) "number" ["self","aside"] ["self","aside"]:=⟨rfl,rfl,by decide +kernel,by decide +kernel,rfl,by decide +kernel,by decide +kernel,by decide +kernel,by decide +kernel,rfl,by decide +kernel,by decide +kernel⟩
abbrev dN : Stmt:=inClass (top 46) 7
theorem uc : aB ["self","number"] ["self","number"] (af dN):=⟨rfl,rfl,rfl,by decide +kernel,rfl,by decide +kernel,by decide +kernel⟩
abbrev cR : Stmt:=inClass (top 46) 12
theorem sU : aB ["self"] ["self"] (af cR):=⟨rfl,rfl,rfl,by decide +kernel,rfl,by decide +kernel,by decide +kernel⟩
abbrev jc : Scope:={ kind:=.function,names:=[(Str.ofString ".0",.local),(Str.ofString "number",.local),(Str.ofString "self",.free)],isGenerator:=false,isCoroutine:=false,more:=[] }
theorem qC : dM jc (af cR) "number" ["self"] ["self"]:=⟨rfl,rfl,by decide +kernel,by decide +kernel,rfl,by decide +kernel,by decide +kernel,by decide +kernel,by decide +kernel,rfl,by decide +kernel,by decide +kernel⟩
abbrev cL : Stmt:=inClass (top 46) 13
theorem jd : aB ["self","number","waiting"] ["self","number"] (af cL):=⟨rfl,rfl,rfl,by decide +kernel,rfl,by decide +kernel,by decide +kernel⟩
abbrev bM : Stmt:=inClass (top 46) 14
theorem cY : aB ["self","told","kind","pile"] ["self","told"] (af bM):=⟨rfl,rfl,rfl,by decide +kernel,rfl,by decide +kernel,by decide +kernel⟩
abbrev bX : Stmt:=inClass (top 46) 15
theorem lN : aB ["self"] ["self"] (af bX):=⟨rfl,rfl,rfl,by decide +kernel,rfl,by decide +kernel,by decide +kernel⟩
abbrev dO : Stmt:=inClass (top 46) 17
theorem ud : aB ["self","word"] ["self","word"] (af dO):=⟨rfl,rfl,rfl,by decide +kernel,rfl,by decide +kernel,by decide +kernel⟩
abbrev cA : Stmt:=inClass (top 46) 18
theorem n9 : aB ["self","deed"] ["self","deed"] (af cA):=⟨rfl,rfl,rfl,by decide +kernel,rfl,by decide +kernel,by decide +kernel⟩
abbrev cV : Stmt:=inClass (top 46) 19
theorem jQ : aB ["self","motion","kind"] ["self","motion"] (af cV):=⟨rfl,rfl,rfl,by decide +kernel,rfl,by decide +kernel,by decide +kernel⟩
abbrev ck : Stmt:=inClass (top 46) 20
theorem ic : aB ["self","edit","number"] ["self","edit"] (af ck):=⟨rfl,rfl,rfl,by decide +kernel,rfl,by decide +kernel,by decide +kernel⟩
abbrev cn : Stmt:=inClass (top 46) 21
theorem c9 : aB ["self","edit","number","change","words"] ["self","edit"] (af cn):=⟨rfl,rfl,rfl,by decide +kernel,rfl,by decide +kernel,by decide +kernel⟩
abbrev cW : Stmt:=inClass (top 46) 22
theorem qD : aB ["self","until"] ["self","until"] (af cW):=⟨rfl,rfl,rfl,by decide +kernel,rfl,by decide +kernel,by decide +kernel⟩
abbrev vc : Stmt:=top 14
theorem B3 : aB ["things","edit","places"] ["things","edit"] (af vc):=⟨rfl,rfl,rfl,by decide +kernel,rfl,by decide +kernel,by decide +kernel⟩
abbrev gf : Stmt:=top 15
theorem y3 : aB ["things","edit"] ["things","edit"] (af gf):=⟨rfl,rfl,rfl,by decide +kernel,rfl,by decide +kernel,by decide +kernel⟩
abbrev vd : Stmt:=top 16
theorem yl : aB ["things","edit","kind","place","behind"] ["things","edit"] (af vd):=⟨rfl,rfl,rfl,by decide +kernel,rfl,by decide +kernel,by decide +kernel⟩
abbrev jj : Stmt:=top 17
theorem Dm : aB ["clause"] ["clause"] (af jj):=⟨rfl,rfl,rfl,by decide +kernel,rfl,by decide +kernel,by decide +kernel⟩
abbrev iJ : Stmt:=top 18
theorem B4 : aB ["words"] ["words"] (af iJ):=⟨rfl,rfl,rfl,by decide +kernel,rfl,by decide +kernel,by decide +kernel⟩
abbrev iK : Stmt:=top 30
theorem kU : aB ["told","kind"] ["told"] (af iK):=⟨rfl,rfl,rfl,by decide +kernel,rfl,by decide +kernel,by decide +kernel⟩
abbrev oa : Stmt:=top 33
theorem A1 : aB ["pile","closed","bar"] ["pile","closed"] (af oa):=⟨rfl,rfl,rfl,by decide +kernel,rfl,by decide +kernel,by decide +kernel⟩
abbrev fj : Stmt:=top 34
theorem Al : aB ["pile"] ["pile"] (af fj):=⟨rfl,rfl,rfl,by decide +kernel,rfl,by decide +kernel,by decide +kernel⟩
abbrev oe : Scope:={ kind:=.function,names:=[(Str.ofString ".0",.local),(Str.ofString "motion",.local)],isGenerator:=false,isCoroutine:=false,more:=[] }
theorem wW : dM oe (af fj) "motion" ["pile"] ["pile"]:=⟨rfl,rfl,by decide +kernel,by decide +kernel,rfl,by decide +kernel,by decide +kernel,by decide +kernel,by decide +kernel,rfl,by decide +kernel,by decide +kernel⟩
abbrev d4 : Stmt:=top 35
theorem og : aB ["pile","told"] ["pile"] (af d4):=⟨rfl,rfl,rfl,by decide +kernel,rfl,by decide +kernel,by decide +kernel⟩
abbrev cX : Stmt:=top 36
theorem qE : aB ["kind","pile"] ["kind","pile"] (af cX):=⟨rfl,rfl,rfl,by decide +kernel,rfl,by decide +kernel,by decide +kernel⟩
abbrev cZ : Stmt:=top 37
theorem kO : aB ["kind","pile","closed","bar"] ["kind","pile","closed"] (af cZ):=⟨rfl,rfl,rfl,by decide +kernel,rfl,by decide +kernel,by decide +kernel⟩
abbrev d5 : Stmt:=top 39
theorem jk : aB ["text","words","clause"] ["text"] (af d5):=⟨rfl,rfl,rfl,by decide +kernel,rfl,by decide +kernel,by decide +kernel⟩
abbrev d6 : Stmt:=top 40
theorem oh : aB ["edit","words"] ["edit"] (af d6):=⟨rfl,rfl,rfl,by decide +kernel,rfl,by decide +kernel,by decide +kernel⟩
abbrev dP : Stmt:=top 41
theorem pT : aB ["deed","kind"] ["deed"] (af dP):=⟨rfl,rfl,rfl,by decide +kernel,rfl,by decide +kernel,by decide +kernel⟩
abbrev lO : Scope:={ kind:=.function,names:=[(Str.ofString ".0",.local),(Str.ofString "number",.local),(Str.ofString "str",.globalImplicit)],isGenerator:=false,isCoroutine:=false,more:=[] }
theorem ue : dM lO (af dP) "number" ["deed","kind"] ["deed","kind"]:=⟨rfl,rfl,by decide +kernel,by decide +kernel,rfl,by decide +kernel,by decide +kernel,by decide +kernel,by decide +kernel,rfl,by decide +kernel,by decide +kernel⟩
abbrev iL : Stmt:=top 42
theorem B5 : aB ["deed"] ["deed"] (af iL):=⟨rfl,rfl,rfl,by decide +kernel,rfl,by decide +kernel,by decide +kernel⟩
abbrev lq : Stmt:=top 44
theorem GG : aB ["need","ayes","noes"] ["need","ayes","noes"] (af lq):=⟨rfl,rfl,rfl,by decide +kernel,rfl,by decide +kernel,by decide +kernel⟩
abbrev lu : Stmt:=top 48
theorem y4 : aB ["chamber","deed","kind"] ["chamber","deed"] (af lu):=⟨rfl,rfl,rfl,by decide +kernel,rfl,by decide +kernel,by decide +kernel⟩
abbrev iM : Stmt:=top 50
theorem B6 : aB ["_law_script","_law_k"] ["_law_script","_law_k"] (af iM):=⟨rfl,rfl,rfl,by decide +kernel,rfl,by decide +kernel,by decide +kernel⟩
abbrev jm : Stmt:=top 51
theorem jR : aB ["_law_cell","_law_many","_law_found","_law_number","_law_k"] ["_law_cell","_law_many"] (af jm):=⟨rfl,rfl,rfl,by decide +kernel,rfl,by decide +kernel,by decide +kernel⟩
abbrev jn : Stmt:=top 52
theorem qF : aB ["_law_draw","_law_words","_law_some"] ["_law_draw"] (af jn):=⟨rfl,rfl,rfl,by decide +kernel,rfl,by decide +kernel,by decide +kernel⟩
abbrev oi : Stmt:=top 53
theorem oj : aB ["_law_kind","_law_draw","_law_more","_law_way","_law_place","_law_thing"] ["_law_kind","_law_draw","_law_more"] (af oi):=⟨rfl,rfl,rfl,by decide +kernel,rfl,by decide +kernel,by decide +kernel⟩
abbrev lP : Stmt:=top 54
theorem ve : aB ["_law_draws","_law_seats","_law_way","_law_ayes"] ["_law_draws","_law_seats"] (af lP):=⟨rfl,rfl,rfl,by decide +kernel,rfl,by decide +kernel,by decide +kernel⟩
abbrev uf : Scope:={ kind:=.function,names:=[(Str.ofString ".0",.local),(Str.ofString "_law_size",.local),(Str.ofString "_law_clause",.globalImplicit),(Str.ofString "_law_draws",.free)],isGenerator:=false,isCoroutine:=false,more:=[] }
theorem Dn : dM uf (af lP) "_law_size" ["_law_draws","_law_seats","_law_way","_law_ayes"] ["_law_draws","_law_seats","_law_way","_law_ayes"]:=⟨rfl,rfl,by decide +kernel,by decide +kernel,rfl,by decide +kernel,by decide +kernel,by decide +kernel,by decide +kernel,rfl,by decide +kernel,by decide +kernel⟩
abbrev gh : Stmt:=top 55
theorem y6 : aB ["_law_chamber","_law_deed_here"] ["_law_chamber","_law_deed_here"] (af gh):=⟨rfl,rfl,rfl,by decide +kernel,rfl,by decide +kernel,by decide +kernel⟩
abbrev oo : Stmt:=top 56
theorem jo : aB ["_law_chamber","_law_deed_here","_law_by_method_here","_law_caught","_law_found","e"] ["_law_chamber","_law_deed_here","_law_by_method_here"] (af oo):=⟨rfl,rfl,rfl,by decide +kernel,rfl,by decide +kernel,by decide +kernel⟩
abbrev lx : Stmt:=top 57
theorem sV : aB ["_law_caught","_law_some"] ["_law_caught"] (af lx):=⟨rfl,rfl,rfl,by decide +kernel,rfl,by decide +kernel,by decide +kernel⟩
abbrev ly : Stmt:=top 58
theorem GH : aB ["_law_caught"] ["_law_caught"] (af ly):=⟨rfl,rfl,rfl,by decide +kernel,rfl,by decide +kernel,by decide +kernel⟩
abbrev lz : Stmt:=top 59
theorem GI : aB ["_law_one","_law_other"] ["_law_one","_law_other"] (af lz):=⟨rfl,rfl,rfl,by decide +kernel,rfl,by decide +kernel,by decide +kernel⟩
abbrev sF : Stmt:=top 60
theorem kh : aB ["_law_script","_law_first","_law_seats","_law_one","_law_other","_law_many","_law_cell","_law_deed_here","_law_handed","_law_found"] ["_law_script"] (af sF):=⟨rfl,rfl,rfl,by decide +kernel,rfl,by decide +kernel,by decide +kernel⟩
abbrev A2 : Scope:={ kind:=.function,names:=[(Str.ofString ".0",.local),(Str.ofString "_law_k",.local),(Str.ofString "_law_one",.free),(Str.ofString "_law_other",.free)],isGenerator:=false,isCoroutine:=false,more:=[] }
theorem Md : dM A2 (af sF) "_law_k" ["_law_script","_law_first","_law_seats","_law_one","_law_other","_law_many","_law_cell","_law_deed_here","_law_handed","_law_found"] ["_law_script","_law_first","_law_seats","_law_one","_law_other","_law_many","_law_cell","_law_deed_here","_law_handed","_law_found"]:=⟨rfl,rfl,by decide +kernel,by decide +kernel,rfl,by decide +kernel,by decide +kernel,by decide +kernel,by decide +kernel,rfl,by decide +kernel,by decide +kernel⟩
structure Adr where
  fits : Addr
  ym : FuncData
  jS : Addr
  gA : FuncData
  laid : Addr
  ug : FuncData
  words_of : Addr
  e9 : FuncData
  oq : Addr
  iU : FuncData
  lA : Addr
  gZ : FuncData
  y7 : Addr
  ot : FuncData
  lQ : Addr
  ie : FuncData
  jH : Addr
  g0 : FuncData
  gu : Addr
  d9 : FuncData
  g7 : Addr
  eI : FuncData
  jI : Addr
  g8 : FuncData
  jJ : Addr
  g9 : FuncData
  kW : Addr
  iw : FuncData
  lB : Addr
  hG : FuncData
  yn : Addr
  o8 : FuncData
  yo : Addr
  o9 : FuncData
  rV : Addr
  kX : FuncData
  uh : Addr
  mW : FuncData
  qG : Addr
  jT : FuncData
  B7 : Addr
  rW : FuncData
  B8 : Addr
  rX : FuncData
  mX : Addr
  iV : FuncData
  y8 : Addr
  ou : FuncData
  yp : Addr
  pb : FuncData
  yq : Addr
  pd : FuncData
  yr : Addr
  pe : FuncData
  jK : Tok
  c0 : Addr
  c1 : Addr
  c2 : Addr
  c3 : Addr
  c4 : Addr
  c5 : Addr
  c6 : Addr
  c7 : Addr
  Cm : Addr
  tab : Addr
  RZ : Addr
  Me : FuncData
  R0 : Addr
  Mf : FuncData
  R1 : Addr
  Mg : FuncData
  R3 : Addr
  Mh : FuncData
  R4 : Addr
  Mi : FuncData
  R5 : Addr
  Mj : FuncData
  R6 : Addr
  Ml : FuncData
  R7 : Addr
  Mm : FuncData
  f_r : Addr
  ON : FuncData
  f_n : Addr
  B9 : FuncData
  R8 : Addr
  Mo : FuncData
  f_t : Addr
  Mp : FuncData
  R9 : Addr
  Mq : FuncData
  Sa : Addr
  Mr : FuncData
  Sb : Addr
  Ms : FuncData
  Sd : Addr
  Mt : FuncData
  Se : Addr
  Mu : FuncData
  Ka : Addr
  A3 : FuncData
  Kb : Addr
  A4 : FuncData
  Mv : Addr
  Dp : FuncData
  Mw : Addr
  Dq : FuncData
  Mx : Addr
  Dr : FuncData
  ag : Addr
  cH : Addr
  ix : FuncData
  cu : Addr
  fD : FuncData
  cv : Addr
  fE : FuncData
  cw : Addr
  fF : FuncData
  cx : Addr
  fG : FuncData
  cz : Addr
  hJ : FuncData
  cc : Addr
  gv : FuncData
  bP : Addr
  dQ : FuncData
  bG : Addr
  dU : FuncData
  aQ : Addr
  cB : FuncData
  aZ : Addr
  cy : FuncData
  bR : Addr
  ee : FuncData
  bf : Addr
  cM : FuncData
  bN : Addr
  ef : FuncData
  bj : Addr
  dc : FuncData
  bp : Addr
  df : FuncData
  bO : Addr
  eh : FuncData
  bS : Addr
  cj : Addr
  bE : Addr
  br : Addr
  bt : Addr
  a8 : Addr
  bF : Addr
  bI : Addr
  bJ : Addr
  bH : Addr
  cK : Addr
  qH : Addr
  oy : FuncData
  pf : Addr
  mY : FuncData
  ui : Addr
  rY : FuncData
def Adr.C (A : Adr) : Nat → Addr
  | 0=>A.c0
  | 1=>A.c1
  | 2=>A.c2
  | 3=>A.c3
  | 4=>A.c4
  | 5=>A.c5
  | 6=>A.c6
  | _=>A.c7
def Adr.fk (A : Adr) : Nat → Addr
  | 0=>A.RZ
  | 1=>A.R0
  | 2=>A.R1
  | 3=>A.R3
  | 4=>A.R4
  | 5=>A.R5
  | 6=>A.R6
  | _=>A.R7
def Adr.fkd (A : Adr) : Nat → FuncData
  | 0=>A.Me
  | 1=>A.Mf
  | 2=>A.Mg
  | 3=>A.Mh
  | 4=>A.Mi
  | 5=>A.Mj
  | 6=>A.Ml
  | _=>A.Mm
def Adr.fn (A : Adr) : Nat → Addr
  | 0=>A.f_n
  | 1=>A.f_n
  | 2=>A.f_n
  | 3=>A.f_n
  | 4=>A.R8
  | 5=>A.f_n
  | 6=>A.f_n
  | _=>A.f_n
def Adr.fnd (A : Adr) : Nat → FuncData
  | 0=>A.B9
  | 1=>A.B9
  | 2=>A.B9
  | 3=>A.B9
  | 4=>A.Mo
  | 5=>A.B9
  | 6=>A.B9
  | _=>A.B9
def Adr.ft (A : Adr) : Nat → Addr
  | 0=>A.R9
  | 1=>A.Sa
  | 2=>A.Sb
  | 3=>A.Sd
  | 4=>A.f_t
  | 5=>A.f_t
  | 6=>A.f_t
  | _=>A.Se
def Adr.ftd (A : Adr) : Nat → FuncData
  | 0=>A.Mq
  | 1=>A.Mr
  | 2=>A.Ms
  | 3=>A.Mt
  | 4=>A.Mp
  | 5=>A.Mp
  | 6=>A.Mp
  | _=>A.Mu
def nm : Nat → Str
  | 0=>Str.ofString "matter"
  | 1=>Str.ofString "change"
  | 2=>Str.ofString "mend"
  | 3=>Str.ofString "put off"
  | 4=>Str.ofString "close"
  | 5=>Str.ofString "lay"
  | 6=>Str.ofString "rest"
  | _=>Str.ofString "point"
structure Txt (P : Params) (K : PySem.W.Frag) (mg : Str → Option Value) (A : Adr) : Prop where
  GJ : Fun K "fits" "fits" vc A.fits A.ym
  Mz : Binds K A.ym ["things","edit"] []
  MA : mg "fits" = some (.ref A.fits)
  ig : Fun K "require_fit" "require_fit" gf A.jS A.gA
  jL : Binds K A.gA ["things","edit"] []
  jM : mg "require_fit" = some (.ref A.jS)
  Ca : Fun K "laid" "laid" vd A.laid A.ug
  GK : Binds K A.ug ["things","edit"] []
  GL : mg "laid" = some (.ref A.laid)
  iA : Fun K "words_of" "words_of" jj A.words_of A.e9
  jq : Binds K A.e9 ["clause"] []
  jr : mg "words_of" = some (.ref A.words_of)
  mZ : Fun K "clause_of" "clause_of" iJ A.oq A.iU
  qI : Binds K A.iU ["words"] []
  qJ : mg "clause_of" = some (.ref A.oq)
  m3 : Fun K "motion_of" "motion_of" iK A.lA A.gZ
  wk : Binds K A.gZ ["told"] []
  wm : mg "motion_of" = some (.ref A.lA)
  uj : Fun K "bar_of" "bar_of" oa A.y7 A.ot
  y9 : Binds K A.ot ["pile","closed"] []
  za : mg "bar_of" = some (.ref A.y7)
  kY : Fun K "has_matter" "has_matter" fj A.lQ A.ie
  ph : Binds K A.ie ["pile"] []
  pj : mg "has_matter" = some (.ref A.lQ)
  kz : Fun K "can_be_mended" "can_be_mended" d4 A.jH A.g0
  pU : Binds K A.g0 ["pile"] []
  pV : mg "can_be_mended" = some (.ref A.jH)
  ia : Fun K "has_what_it_needs" "has_what_it_needs" cX A.gu A.d9
  kP : Binds K A.d9 ["kind","pile"] []
  kQ : mg "has_what_it_needs" = some (.ref A.gu)
  iB : Fun K "require_in_order" "require_in_order" cZ A.g7 A.eI
  lR : Binds K A.eI ["kind","pile","closed"] []
  lS : mg "require_in_order" = some (.ref A.g7)
  kA : Fun K "words_of_text" "words_of_text" d5 A.jI A.g8
  pW : Binds K A.g8 ["text"] []
  pX : mg "words_of_text" = some (.ref A.jI)
  kB : Fun K "words_of_edit" "words_of_edit" d6 A.jJ A.g9
  pY : Binds K A.g9 ["edit"] []
  pZ : mg "words_of_edit" = some (.ref A.jJ)
  lT : Fun K "words_behind" "words_behind" dP A.kW A.iw
  qK : Binds K A.iw ["deed"] []
  qL : mg "words_behind" = some (.ref A.kW)
  jU : Fun K "show_deed" "show_deed" iL A.lB A.hG
  m5 : Binds K A.hG ["deed"] []
  m6 : mg "show_deed" = some (.ref A.lB)
  vf : Fun K "is_kept" "is_kept" lq A.yn A.o8
  A5 : Binds K A.o8 ["need","ayes","noes"] []
  A6 : mg "is_kept" = some (.ref A.yn)
  vg : Fun K "do_deed" "do_deed" lu A.yo A.o9
  A7 : Binds K A.o9 ["chamber","deed"] []
  A8 : mg "do_deed" = some (.ref A.yo)
  qM : Fun K "_law_cell_at" "_law_cell_at" iM A.rV A.kX
  wo : Binds K A.kX ["_law_script","_law_k"] []
  wq : mg "_law_cell_at" = some (.ref A.rV)
  sW : Fun K "_law_stream" "_law_stream" jm A.uh A.mW
  zb : Binds K A.mW ["_law_cell","_law_many"] []
  zc : mg "_law_stream" = some (.ref A.uh)
  lU : Fun K "_law_clause" "_law_clause" jn A.qG A.jT
  pq : Binds K A.jT ["_law_draw"] []
  pw : mg "_law_clause" = some (.ref A.qG)
  zd : Fun K "_law_edit" "_law_edit" oi A.B7 A.rW
  Ds : Binds K A.rW ["_law_kind","_law_draw","_law_more"] []
  Dt : mg "_law_edit" = some (.ref A.B7)
  ze : Fun K "_law_deed" "_law_deed" lP A.B8 A.rX
  Du : Binds K A.rX ["_law_draws","_law_seats"] []
  Dv : mg "_law_deed" = some (.ref A.B8)
  nq : Fun K "_law_by_method" "_law_by_method" gh A.mX A.iV
  sG : Binds K A.iV ["_law_chamber","_law_deed_here"] []
  sH : mg "_law_by_method" = some (.ref A.mX)
  uk : Fun K "_law_told" "_law_told" oo A.y8 A.ou
  zf : Binds K A.ou ["_law_chamber","_law_deed_here","_law_by_method_here"] []
  zg : mg "_law_told" = some (.ref A.y8)
  rZ : Fun K "_law_class" "_law_class" lx A.yp A.pb
  vh : Binds K A.pb ["_law_caught"] []
  vi : mg "_law_class" = some (.ref A.yp)
  r6 : Fun K "_law_value" "_law_value" ly A.yq A.pd
  vj : Binds K A.pd ["_law_caught"] []
  vk : mg "_law_value" = some (.ref A.yq)
  vm : Fun K "_law_alike" "_law_alike" lz A.yr A.pe
  A9 : Binds K A.pe ["_law_one","_law_other"] []
  Ba : mg "_law_alike" = some (.ref A.yr)
  Cb : mg "range" = none
  pA : mg "list" = none
  bY : mg "isinstance" = none
  Jb : mg "len" = none
  P5 : mg "max" = none
  P6 : mg "any" = none
  P7 : mg "all" = none
  Dw : mg "str" = none
  Dx : mg "sorted" = none
  Cc : mg "ValueError" = none
  um : mg "CLOSED_BAR" = some (.int 4 A.jK)
  cl : ∀ k,k < 8 → Cls K (A.C k)
  uo : mg "Matter" = some (.ref (A.C 0))
  uq : mg "Change" = some (.ref (A.C 1))
  GN : mg "Mend" = some (.ref (A.C 2))
  zh : mg "PutOff" = some (.ref (A.C 3))
  Cd : mg "Close" = some (.ref (A.C 4))
  MB : mg "Lay" = some (.ref (A.C 5))
  GO : mg "Rest" = some (.ref (A.C 6))
  Ce : mg "Point" = some (.ref (A.C 7))
  Cg : mg "RANKS" = some (.ref A.tab)
  tb : Wq P K A.tab
  rk : ∀ k,k < 8 → ∃ t,PySem.W.nsIn K A.tab (nm k) = some (some (.int k t))
  nr : ∀ k,k < 8 → Meth K (A.C k) "kind" (A.fk k)
  nv : ∀ k,k < 8 → Binds K (A.fkd k) ["self"] []
  MC : ∀ k,k < 8 → Meth K (A.C k) "need" (A.fn k)
  MD : ∀ k,k < 8 → Binds K (A.fnd k) ["self"] []
  GP : ∀ k,k < 8 → Meth K (A.C k) "told" (A.ft k)
  GQ : ∀ k,k < 8 → Binds K (A.ftd k) ["self"] []
  ME : ∀ k,k < 8 → Meth K (A.C k) "rank" A.f_r
  MF : ∀ k,k < 8 → Binds K A.ON ["self"] []
  WC : Fun K "kind" "Matter.kind" fP A.RZ A.Me
  WD : Fun K "kind" "Change.kind" fQ A.R0 A.Mf
  WE : Fun K "kind" "Mend.kind" iF A.R1 A.Mg
  WG : Fun K "kind" "PutOff.kind" fR A.R3 A.Mh
  WH : Fun K "kind" "Close.kind" gS A.R4 A.Mi
  WI : Fun K "kind" "Lay.kind" ji A.R5 A.Mj
  WJ : Fun K "kind" "Rest.kind" iG A.R6 A.Ml
  WK : Fun K "kind" "Point.kind" gU A.R7 A.Mm
  F_r : Fun K "rank" "Motion.rank" fS A.f_r A.ON
  F_n : Fun K "need" "Motion.need" fU A.f_n A.B9
  WL : Fun K "need" "Close.need" gW A.R8 A.Mo
  F_t : Fun K "told" "Motion.told" fV A.f_t A.Mp
  WM : Fun K "told" "Matter.told" fW A.R9 A.Mq
  WN : Fun K "told" "Change.told" fX A.Sa A.Mr
  WO : Fun K "told" "Mend.told" iH A.Sb A.Ms
  WQ : Fun K "told" "PutOff.told" fY A.Sd A.Mt
  WR : Fun K "told" "Point.told" gX A.Se A.Mu
  WS : Fun K "__init__" "Matter.__init__" fZ A.Ka A.A3
  WT : Fun K "__init__" "Change.__init__" f6 A.Kb A.A4
  WU : Fun K "__init__" "Mend.__init__" iI A.Mv A.Dp
  WV : Fun K "__init__" "PutOff.__init__" f7 A.Mw A.Dq
  WW : Fun K "__init__" "Point.__init__" gY A.Mx A.Dr
  ur : Mk K (A.C 0) A.Ka
  OO : Binds K A.A3 ["self","text"] []
  na0 : eA K (A.C 0) "text"
  uu : Mk K (A.C 1) A.Kb
  OP : Binds K A.A4 ["self","edit"] []
  na1 : eA K (A.C 1) "edit"
  GR : Mk K (A.C 2) A.Mv
  Sf : Binds K A.Dp ["self","edit"] []
  na2 : eA K (A.C 2) "edit"
  zi : Mk K (A.C 3) A.Mw
  Sg : Binds K A.Dq ["self","sitting"] []
  na3 : eA K (A.C 3) "sitting"
  Ci : Mk K (A.C 7) A.Mx
  Si : Binds K A.Dr ["self","clause"] []
  na7 : eA K (A.C 7) "clause"
  mkn : ∀ k,k = 4 ∨ k = 5 ∨ k = 6 → MkN K (A.C k)
  vn : mg "Chamber" = some (.ref A.ag)
  ai : Cls K A.ag
  gB : Fun K "__init__" "Chamber.__init__" eN A.cH A.ix
  gC : Binds K A.ix ["self","seats"] []
  vo : Mk K A.ag A.cH
  gD : Fun K "move" "Chamber.move" eO A.cu A.fD
  gF : Binds K A.fD ["self","told"] []
  lV : Meth K A.ag "move" A.cu
  gG : Fun K "vote" "Chamber.vote" eP A.cv A.fE
  gH : Binds K A.fE ["self","ayes","noes"] []
  lW : Meth K A.ag "vote" A.cv
  gI : Fun K "drop" "Chamber.drop" eQ A.cw A.fF
  gJ : Binds K A.fF ["self"] []
  lX : Meth K A.ag "drop" A.cw
  gK : Fun K "take" "Chamber.take" eR A.cx A.fG
  gL : Binds K A.fG ["self","number"] []
  lY : Meth K A.ag "take" A.cx
  fH : Fun K "state" "Chamber.state" du A.cz A.hJ
  fJ : Binds K A.hJ ["self"] []
  kD : Meth K A.ag "state" A.cz
  eS : Fun K "motion" "Chamber.motion" dN A.cc A.gv
  eT : Binds K A.gv ["self","number"] []
  js : Meth K A.ag "motion" A.cc
  ei : Fun K "pending" "Chamber.pending" cR A.bP A.dQ
  ej : Binds K A.dQ ["self"] []
  iW : Meth K A.ag "pending" A.bP
  dg : Fun K "told_aside" "Chamber.told_aside" cL A.bG A.dU
  et : Binds K A.dU ["self","number"] []
  jV : Meth K A.ag "told_aside" A.bG
  bW : Fun K "require_can_be_made" "Chamber.require_can_be_made" bM A.aQ A.cB
  cE : Binds K A.cB ["self","told"] []
  fb : Meth K A.ag "require_can_be_made" A.aQ
  cC : Fun K "require_pending" "Chamber.require_pending" bX A.aZ A.cy
  cD : Binds K A.cy ["self"] []
  dX : Meth K A.ag "require_pending" A.aZ
  eU : Fun K "decide" "Chamber.decide" dO A.bR A.ee
  eV : Binds K A.ee ["self","word"] []
  jt : Meth K A.ag "decide" A.bR
  cS : Fun K "end_decision" "Chamber.end_decision" cA A.bf A.cM
  cT : Binds K A.cM ["self","deed"] []
  fm : Meth K A.ag "end_decision" A.bf
  dB : Fun K "carry_out" "Chamber.carry_out" cV A.bN A.ef
  eJ : Binds K A.ef ["self","motion"] []
  kR : Meth K A.ag "carry_out" A.bN
  cN : Fun K "lay_on_matter" "Chamber.lay_on_matter" ck A.bj A.dc
  dn : Binds K A.dc ["self","edit"] []
  iN : Meth K A.ag "lay_on_matter" A.bj
  cO : Fun K "lay_on_change" "Chamber.lay_on_change" cn A.bp A.df
  dq : Binds K A.df ["self","edit"] []
  iO : Meth K A.ag "lay_on_change" A.bp
  dC : Fun K "put_aside" "Chamber.put_aside" cW A.bO A.eh
  dD : Binds K A.eh ["self","until"] []
  ib : Meth K A.ag "put_aside" A.bO
  jqX : eA K A.ag "seats"
  jq1 : eA K A.ag "sitting"
  jq4 : eA K A.ag "closed"
  jq2 : eA K A.ag "made"
  jq0 : eA K A.ag "pile"
  jq3 : eA K A.ag "aside"
  jqj : eA K A.ag "decided"
  jqb : eA K A.ag "first_texts"
  jq5 : eA K A.ag "edits_kept"
  jqk : eA K A.ag "rows"
  gM : mg "ChamberError" = some (.ref A.bS)
  Cj : mg "NoFit" = some (.ref A.cj)
  qN : mg "Barred" = some (.ref A.bE)
  sX : mg "NoMatter" = some (.ref A.br)
  sY : mg "NoChange" = some (.ref A.bt)
  pB : mg "NotLater" = some (.ref A.a8)
  vp : mg "Nothing" = some (.ref A.bF)
  vq : mg "TooMany" = some (.ref A.bI)
  vr : mg "NoAside" = some (.ref A.bJ)
  uv : mg "NotYet" = some (.ref A.bH)
  zj : mg "NoNumber" = some (.ref A.cK)
  iy : P1 K A.bS
  jq3m : PySem.W.kitOne K (.type "NoneType") (.ref A.cj) = some false
  jq2T : PySem.W.kitOne K (.type "NoneType") (.ref A.bE) = some false
  jq2p : PySem.W.kitOne K (.type "NoneType") (.ref A.br) = some false
  jq2q : PySem.W.kitOne K (.type "NoneType") (.ref A.bt) = some false
  jq2r : PySem.W.kitOne K (.type "NoneType") (.ref A.a8) = some false
  jq2G : PySem.W.kitOne K (.type "NoneType") (.ref A.bF) = some false
  jq2H : PySem.W.kitOne K (.type "NoneType") (.ref A.bI) = some false
  jq2I : PySem.W.kitOne K (.type "NoneType") (.ref A.bJ) = some false
  jq2U : PySem.W.kitOne K (.type "NoneType") (.ref A.bH) = some false
  ij : jb K A.cj
  Dy : C9 K A.cj
  jqo : PySem.W.exmOne K (.ref A.cj) (.ref A.bS) = some true
  jq2c : PySem.W.kitOne K (.ref A.cj) (.ref A.cj) = some true
  jq20 : PySem.W.kitOne K (.ref A.cj) (.ref A.bE) = some false
  jq1r : PySem.W.kitOne K (.ref A.cj) (.ref A.br) = some false
  jq1s : PySem.W.kitOne K (.ref A.cj) (.ref A.bt) = some false
  jq1t : PySem.W.kitOne K (.ref A.cj) (.ref A.a8) = some false
  jq1L : PySem.W.kitOne K (.ref A.cj) (.ref A.bF) = some false
  jq1M : PySem.W.kitOne K (.ref A.cj) (.ref A.bI) = some false
  jq1N : PySem.W.kitOne K (.ref A.cj) (.ref A.bJ) = some false
  jq21 : PySem.W.kitOne K (.ref A.cj) (.ref A.bH) = some false
  dG : jb K A.br
  wu : C9 K A.br
  jqc : PySem.W.exmOne K (.ref A.br) (.ref A.bS) = some true
  jq1u : PySem.W.kitOne K (.ref A.br) (.ref A.cj) = some false
  jqY : PySem.W.kitOne K (.ref A.br) (.ref A.bE) = some false
  jqp : PySem.W.kitOne K (.ref A.br) (.ref A.br) = some true
  jqq : PySem.W.kitOne K (.ref A.br) (.ref A.bt) = some false
  jqr : PySem.W.kitOne K (.ref A.br) (.ref A.a8) = some false
  jqC : PySem.W.kitOne K (.ref A.br) (.ref A.bF) = some false
  jqD : PySem.W.kitOne K (.ref A.br) (.ref A.bI) = some false
  jqE : PySem.W.kitOne K (.ref A.br) (.ref A.bJ) = some false
  jqZ : PySem.W.kitOne K (.ref A.br) (.ref A.bH) = some false
  dH : jb K A.bt
  wx : C9 K A.bt
  jqd : PySem.W.exmOne K (.ref A.bt) (.ref A.bS) = some true
  jq1v : PySem.W.kitOne K (.ref A.bt) (.ref A.cj) = some false
  jq10 : PySem.W.kitOne K (.ref A.bt) (.ref A.bE) = some false
  jqs : PySem.W.kitOne K (.ref A.bt) (.ref A.br) = some false
  jqt : PySem.W.kitOne K (.ref A.bt) (.ref A.bt) = some true
  jqu : PySem.W.kitOne K (.ref A.bt) (.ref A.a8) = some false
  jqF : PySem.W.kitOne K (.ref A.bt) (.ref A.bF) = some false
  jqG : PySem.W.kitOne K (.ref A.bt) (.ref A.bI) = some false
  jqH : PySem.W.kitOne K (.ref A.bt) (.ref A.bJ) = some false
  jq11 : PySem.W.kitOne K (.ref A.bt) (.ref A.bH) = some false
  eE : jb K A.bF
  zk : C9 K A.bF
  jqg : PySem.W.exmOne K (.ref A.bF) (.ref A.bS) = some true
  jq1O : PySem.W.kitOne K (.ref A.bF) (.ref A.cj) = some false
  jq1w : PySem.W.kitOne K (.ref A.bF) (.ref A.bE) = some false
  jqI : PySem.W.kitOne K (.ref A.bF) (.ref A.br) = some false
  jqJ : PySem.W.kitOne K (.ref A.bF) (.ref A.bt) = some false
  jqK : PySem.W.kitOne K (.ref A.bF) (.ref A.a8) = some false
  jq12 : PySem.W.kitOne K (.ref A.bF) (.ref A.bF) = some true
  jq13 : PySem.W.kitOne K (.ref A.bF) (.ref A.bI) = some false
  jq14 : PySem.W.kitOne K (.ref A.bF) (.ref A.bJ) = some false
  jq1x : PySem.W.kitOne K (.ref A.bF) (.ref A.bH) = some false
  eF : jb K A.bI
  zm : C9 K A.bI
  jqh : PySem.W.exmOne K (.ref A.bI) (.ref A.bS) = some true
  jq1P : PySem.W.kitOne K (.ref A.bI) (.ref A.cj) = some false
  jq1y : PySem.W.kitOne K (.ref A.bI) (.ref A.bE) = some false
  jqL : PySem.W.kitOne K (.ref A.bI) (.ref A.br) = some false
  jqM : PySem.W.kitOne K (.ref A.bI) (.ref A.bt) = some false
  jqN : PySem.W.kitOne K (.ref A.bI) (.ref A.a8) = some false
  jq15 : PySem.W.kitOne K (.ref A.bI) (.ref A.bF) = some false
  jq16 : PySem.W.kitOne K (.ref A.bI) (.ref A.bI) = some true
  jq17 : PySem.W.kitOne K (.ref A.bI) (.ref A.bJ) = some false
  jq1z : PySem.W.kitOne K (.ref A.bI) (.ref A.bH) = some false
  eG : jb K A.bJ
  zo : C9 K A.bJ
  jqi : PySem.W.exmOne K (.ref A.bJ) (.ref A.bS) = some true
  jq1Q : PySem.W.kitOne K (.ref A.bJ) (.ref A.cj) = some false
  jq1A : PySem.W.kitOne K (.ref A.bJ) (.ref A.bE) = some false
  jqO : PySem.W.kitOne K (.ref A.bJ) (.ref A.br) = some false
  jqP : PySem.W.kitOne K (.ref A.bJ) (.ref A.bt) = some false
  jqQ : PySem.W.kitOne K (.ref A.bJ) (.ref A.a8) = some false
  jq18 : PySem.W.kitOne K (.ref A.bJ) (.ref A.bF) = some false
  jq19 : PySem.W.kitOne K (.ref A.bJ) (.ref A.bI) = some false
  jq1a : PySem.W.kitOne K (.ref A.bJ) (.ref A.bJ) = some true
  jq1B : PySem.W.kitOne K (.ref A.bJ) (.ref A.bH) = some false
  dI : jb K A.cK
  wz : C9 K A.cK
  jqe : PySem.W.exmOne K (.ref A.cK) (.ref A.bS) = some true
  jq1C : PySem.W.kitOne K (.ref A.cK) (.ref A.cj) = some false
  jq1b : PySem.W.kitOne K (.ref A.cK) (.ref A.bE) = some false
  jqv : PySem.W.kitOne K (.ref A.cK) (.ref A.br) = some false
  jqw : PySem.W.kitOne K (.ref A.cK) (.ref A.bt) = some false
  jqx : PySem.W.kitOne K (.ref A.cK) (.ref A.a8) = some false
  jqR : PySem.W.kitOne K (.ref A.cK) (.ref A.bF) = some false
  jqS : PySem.W.kitOne K (.ref A.cK) (.ref A.bI) = some false
  jqT : PySem.W.kitOne K (.ref A.cK) (.ref A.bJ) = some false
  jq1c : PySem.W.kitOne K (.ref A.cK) (.ref A.bH) = some false
  gi : jb K A.bE
  lZ : Fun K "__init__" "Barred.__init__" f9 A.qH A.oy
  l6 : Binds K A.oy ["self","bar"] []
  oz : BU K A.bE A.qH "bar"
  Bb : OH K A.bE "bar"
  jql : PySem.W.exmOne K (.ref A.bE) (.ref A.bS) = some true
  jq22 : PySem.W.kitOne K (.ref A.bE) (.ref A.cj) = some false
  jq1R : PySem.W.kitOne K (.ref A.bE) (.ref A.bE) = some true
  jq1d : PySem.W.kitOne K (.ref A.bE) (.ref A.br) = some false
  jq1e : PySem.W.kitOne K (.ref A.bE) (.ref A.bt) = some false
  jq1f : PySem.W.kitOne K (.ref A.bE) (.ref A.a8) = some false
  jq1D : PySem.W.kitOne K (.ref A.bE) (.ref A.bF) = some false
  jq1E : PySem.W.kitOne K (.ref A.bE) (.ref A.bI) = some false
  jq1F : PySem.W.kitOne K (.ref A.bE) (.ref A.bJ) = some false
  jq1S : PySem.W.kitOne K (.ref A.bE) (.ref A.bH) = some false
  dJ : jb K A.a8
  iX : Fun K "__init__" "NotLater.__init__" d3 A.pf A.mY
  kZ : Binds K A.mY ["self","sitting"] []
  m7 : BU K A.a8 A.pf "sitting"
  wA : OH K A.a8 "sitting"
  jqf : PySem.W.exmOne K (.ref A.a8) (.ref A.bS) = some true
  jq1G : PySem.W.kitOne K (.ref A.a8) (.ref A.cj) = some false
  jq1g : PySem.W.kitOne K (.ref A.a8) (.ref A.bE) = some false
  jqy : PySem.W.kitOne K (.ref A.a8) (.ref A.br) = some false
  jqz : PySem.W.kitOne K (.ref A.a8) (.ref A.bt) = some false
  jqA : PySem.W.kitOne K (.ref A.a8) (.ref A.a8) = some true
  jqU : PySem.W.kitOne K (.ref A.a8) (.ref A.bF) = some false
  jqV : PySem.W.kitOne K (.ref A.a8) (.ref A.bI) = some false
  jqW : PySem.W.kitOne K (.ref A.a8) (.ref A.bJ) = some false
  jq1h : PySem.W.kitOne K (.ref A.a8) (.ref A.bH) = some false
  gj : jb K A.bH
  l7 : Fun K "__init__" "NotYet.__init__" gb A.ui A.rY
  pD : Binds K A.rY ["self","sitting"] []
  r8 : BU K A.bH A.ui "sitting"
  Bc : OH K A.bH "sitting"
  jqm : PySem.W.exmOne K (.ref A.bH) (.ref A.bS) = some true
  jq23 : PySem.W.kitOne K (.ref A.bH) (.ref A.cj) = some false
  jq1T : PySem.W.kitOne K (.ref A.bH) (.ref A.bE) = some false
  jq1i : PySem.W.kitOne K (.ref A.bH) (.ref A.br) = some false
  jq1j : PySem.W.kitOne K (.ref A.bH) (.ref A.bt) = some false
  jq1k : PySem.W.kitOne K (.ref A.bH) (.ref A.a8) = some false
  jq1H : PySem.W.kitOne K (.ref A.bH) (.ref A.bF) = some false
  jq1I : PySem.W.kitOne K (.ref A.bH) (.ref A.bI) = some false
  jq1J : PySem.W.kitOne K (.ref A.bH) (.ref A.bJ) = some false
  jq1U : PySem.W.kitOne K (.ref A.bH) (.ref A.bH) = some true
end My
set_option maxHeartbeats 1000000
namespace My
open PySem L2
seal PySem.wpAny
abbrev bl1 : Str:=Str.ofString " "
def Asc (x : Str) : Prop:=∀ c ∈ x.cps.toList,c < 128
theorem Asc.ok {x : Str} (h : Asc x) : PyData.strOk x = true:=by
  unfold PyData.strOk
  rw [Array.all_eq_true]
  intro i hi
  have:=h x.cps[i] (by simp)
  exact decide_eq_true (by omega)
theorem oB {sep : Str} (hs : Asc sep) : ∀ ws : List Str,(∀ w ∈ ws,Asc w) → Asc (Str.join sep ws)
  | [],_=>fun c hc=>by
    have : c ∈ ([] : List Nat):=hc
    cases this
  | [x],h=>h x List.mem_cons_self
  | x :: y :: r,h=>fun c hc=>by
    have hc' : c ∈ ((x ++ sep) ++ Str.join sep (y :: r)).cps.toList:=hc
    rw [iz,iz,List.mem_append,List.mem_append] at hc'
    rcases hc' with (h1 | h1) | h1
    · exact h x List.mem_cons_self c h1
    · exact hs c h1
    · exact oB hs (y :: r) (fun w hw=>h w (List.mem_cons_of_mem _ hw)) c h1
structure Sh (n : Nat) (x : Str) : Prop where
  asc : Asc x
  len : x.length ≤ n
structure Ed where
  k : Nat
  at_ : Int
  th : Str
def kn : Nat → Str
  | 0=>Str.ofString "put"
  | 1=>Str.ofString "cut"
  | _=>Str.ofString "turn"
def iY (e : Ed) : List V:=match e.k with
  | 0=>[.str (kn 0),.int e.at_,.str e.th]
  | 1=>[.str (kn 1),.int e.at_]
  | _=>[.str (kn 2),.int e.at_,.str e.th]
def edD (e : Ed) : PyData:=match e.k with
  | 0=>.tuple [.str (kn 0),.int e.at_,.str e.th]
  | 1=>.tuple [.str (kn 1),.int e.at_]
  | _=>.tuple [.str (kn 2),.int e.at_,.str e.th]
structure uw (e : Ed) : Prop where
  k3 : e.k = 0 ∨ e.k = 1 ∨ e.k = 2
  lo : -1000 ≤ e.at_
  hi : e.at_ ≤ 1000
  th : Sh 100000 e.th
def iZ (n : Nat) (e : Ed) : Bool:=decide (0 ≤ e.at_) && decide (e.at_ < (n : Int) + (if e.k = 0 then 1 else 0))
def cP (xs : List Str) (e : Ed) : List Str:=match e.k with
  | 0=>xs.take e.at_.toNat ++ e.th :: xs.drop e.at_.toNat
  | 1=>xs.eraseIdx e.at_.toNat
  | _=>xs.set e.at_.toNat e.th
theorem Ck (e : Ed) : atI (iY e) 0 = some (.str (kn e.k)):=by
  unfold iY
  split
  · rename_i h; rw [h]; rfl
  · rename_i h; rw [h]; rfl
  · rename_i h1 h2
    have : kn e.k = kn 2:=by
      unfold kn
      split
      · rename_i h; exact absurd h h1
      · rename_i h; exact absurd h h2
      · rfl
    rw [this]; rfl
theorem Cn (e : Ed) : atI (iY e) 1 = some (.int e.at_):=by
  unfold iY
  split <;> rfl
theorem Co {e : Ed} (h : e.k ≠ 1) : atI (iY e) 2 = some (.str e.th):=by
  unfold iY
  split
  · rfl
  · rename_i z; exact absurd z h
  · rfl
theorem Cp (e : Ed) {K : PySem.W.Frag} {H : Hp} {t : Addr} (h : SqT K H t (iY e)) : DV K H (edD e) (.ref t):=by
  unfold iY at h
  unfold edD
  split
  · rename_i z
    rw [z] at h
    unfold DV
    exact ⟨t,_,rfl,h,by unfold DVs; exact ⟨_,_,rfl,by unfold DV; rfl,by unfold DVs; exact ⟨_,_,rfl,by unfold DV; rfl,by unfold DVs; exact ⟨_,_,rfl,by unfold DV; rfl,by unfold DVs; rfl⟩⟩⟩⟩
  · rename_i z
    rw [z] at h
    unfold DV
    exact ⟨t,_,rfl,h,by unfold DVs; exact ⟨_,_,rfl,by unfold DV; rfl,by unfold DVs; exact ⟨_,_,rfl,by unfold DV; rfl,by unfold DVs; rfl⟩⟩⟩
  · rename_i z1 z2
    split at h
    · rename_i z; exact absurd z z1
    · rename_i z; exact absurd z z2
    · unfold DV
      exact ⟨t,_,rfl,h,by unfold DVs; exact ⟨_,_,rfl,by unfold DV; rfl,by unfold DVs; exact ⟨_,_,rfl,by unfold DV; rfl,by unfold DVs; exact ⟨_,_,rfl,by unfold DV; rfl,by unfold DVs; rfl⟩⟩⟩⟩
theorem Bd {i : Int} (h0 : -1000 ≤ i) (h1 : i ≤ 1000) : i.natAbs.log2 < 1920:=by
  have h : i.natAbs < 2 ^ 10:=by omega
  by_cases hz : i.natAbs = 0
  · rw [hz]; decide
  · exact Nat.lt_trans ((Nat.log2_lt hz).mpr h) (by decide)
theorem MG {e : Ed} (o : uw e) : (edD e).showable = true ∧ (edD e).hasDict = false ∧ (edD e).depth ≤ 60:=by
  have lg:=Bd o.lo o.hi
  unfold edD
  split <;> simp [PyData.showable,PyData.showableAll,PyData.hasDict,PyData.hasDictAll,PyData.depth,PyData.depthAll,lg]
theorem OQ {i : Int} (h0 : -1000 ≤ i) (h1 : i ≤ 1000) : (Str.ofString (toString i)).length ≤ 1921:=by
  have h:=int_text_length_le (a:=i) (k:=1920) (by decide) (Bd h0 h1)
  have e : (Str.ofString (toString i)).length = (toString i).length:=by first | exact PySem.ofString_length _ | exact ofString_length _
  omega
theorem Sh.rep {n : Nat} {x : Str} (s : Sh n x) : (reprText x).length ≤ 10 * n + 2:=by
  have h:=StrLaws.reprText_len x fun c hc=>Nat.lt_trans (s.asc c hc) (by decide)
  have:=s.len
  omega
theorem MH (k : Nat) : Sh 4 (kn k):=by
  unfold kn
  split <;> exact ⟨by unfold Asc; decide +kernel,by decide +kernel⟩
theorem OR {e : Ed} (o : uw e) : (edD e).shown.length ≤ 1100000:=by
  have a:=(MH 0).rep
  have b:=(MH 1).rep
  have c:=(MH 2).rep
  have d:=o.th.rep
  have i:=OQ o.lo o.hi
  unfold edD
  split
  · have h:=tupleText_len_le [reprText (kn 0),Str.ofString (toString e.at_),reprText e.th]
    simp only [List.map_cons,List.map_nil,List.sum_cons,List.sum_nil,List.length_cons,List.length_nil] at h
    show (tupleText [reprText (kn 0),Str.ofString (toString e.at_),reprText e.th]).length ≤ _
    omega
  · have h:=tupleText_len_le [reprText (kn 1),Str.ofString (toString e.at_)]
    simp only [List.map_cons,List.map_nil,List.sum_cons,List.sum_nil,List.length_cons,List.length_nil] at h
    show (tupleText [reprText (kn 1),Str.ofString (toString e.at_)]).length ≤ _
    omega
  · have h:=tupleText_len_le [reprText (kn 2),Str.ofString (toString e.at_),reprText e.th]
    simp only [List.map_cons,List.map_nil,List.sum_cons,List.sum_nil,List.length_cons,List.length_nil] at h
    show (tupleText [reprText (kn 2),Str.ofString (toString e.at_),reprText e.th]).length ≤ _
    omega
theorem Cq {e : Ed} (o : uw e) : (V.str (kn e.k) = V.str (Str.ofString "put")) ↔ e.k = 0:=by
  rcases o.k3 with h | h | h <;> rw [h] <;> decide +kernel
theorem zp {e : Ed} (o : uw e) : (V.str (kn e.k) = V.str (Str.ofString "cut")) ↔ e.k = 1:=by
  rcases o.k3 with h | h | h <;> rw [h] <;> decide +kernel
def MI (K : PySem.W.Frag) : Sp:=fun vs H Q _=>∃ (a t : Addr) (xs : List V) (e : Ed),vs = [.ref a,.ref t] ∧ SqL K H a xs ∧ SqT K H t (iY e) ∧ uw e ∧ Q (.bl (iZ xs.length e)) H
def MJ (A : Adr) (K : PySem.W.Frag) : Sp:=fun vs H Q E=>∃ (a t : Addr) (xs : List V) (e : Ed),vs = [.ref a,.ref t] ∧ SqL K H a xs ∧ SqT K H t (iY e) ∧ uw e ∧ (iZ xs.length e = true → Q .non H) ∧ (iZ xs.length e = false → E (.ref A.cj) none H)
def GS (A : Adr) (K : PySem.W.Frag) : Sp:=fun vs H Q E=>∃ (a t : Addr) (xs : List Str) (e : Ed),vs = [.ref a,.ref t] ∧ SqL K H a (xs.map V.str) ∧ xs.length ≤ 1000 ∧ SqT K H t (iY e) ∧ uw e ∧
  (iZ xs.length e = true → ∀ p,H p = none → Q (.ref p) (upd H p (.lst ((cP xs e).map V.str)))) ∧ (iZ xs.length e = false → E (.ref A.cj) none H)
theorem Dz {n : Nat} {e : Ed} : iZ n e = true ↔ 0 ≤ e.at_ ∧ e.at_ < (n : Int) + (if e.k = 0 then 1 else 0):=by
  unfold iZ
  rw [Bool.and_eq_true,decide_eq_true_iff,decide_eq_true_iff]
section
variable {P : Program} {w : World} {K : PySem.W.Frag} {mg : Str → Option Value} {base : Heap} {A : Adr}
theorem MK {H H' : Hp} {t : Addr} {xs : List V} (s : bQ H H') (h : SqT K H t xs) : SqT K H' t xs:=by
  rcases h with (h | ⟨o,h⟩) | h
  · exact .inl (.inl (s _ _ h))
  · exact .inl (.inr ⟨o,s _ _ h⟩)
  · exact .inr h
theorem OS (T : Txt w.params K mg A) : aw P w K mg base CX0 1 A.fits A.ym ["things","edit"] (MI K):=by
  refine T.GJ.ok B3 (fun vs H Q E h=>?_) (fun cdv A' outer s H vs Q E hr h=>?_)
  · obtain ⟨a,t,xs,e,rfl,_⟩:=h
    rfl
  · obtain ⟨a,t,xs,e,rfl,ha,ht,o,q⟩:=h
    refine ⟨_,(ao (bA (i:=2) B3.nd rfl (Or.inl rfl) (cG t6 (by rfl) T.Jb Gu (aa (pv 0) ah)))
  (ao (bU (aI cf (aS aY (pv 1) ak (fun _ _=>rfl)) au (aT _))
  (aj (bA (i:=2) B3.nd rfl (Or.inl rfl) (cg hZ (pv 2) ak)))
  aJ)
  (aj (aG (Lv IL yy ak (aS aY (pv 1) ak (fun _ _=>rfl)) (pv 2)))))),?_⟩
    refine ⟨_,rfl,a,xs,rfl,.inl ha,?_⟩
    refine ⟨_,rfl,t,_,_,_,rfl,rfl,ht,Ck e,rfl,_,rfl,n5 (fun z=>?_) (fun z=>?_)⟩
    · have hk : e.k = 0:=(Cq o).mp (of_decide_eq_true z)
      refine ⟨_,rfl,_,_,rfl,rfl,?_⟩
      unfold iZ at q
      rw [if_pos hk] at q
      refine ⟨_,rfl,t,_,_,_,rfl,rfl,ht,Cn e,_,_,rfl,rfl,_,rfl,n5 (fun z1=>?_) (fun z1=>?_)⟩
      · have h1 : 0 ≤ e.at_:=of_decide_eq_true z1
        rw [decide_eq_true h1,Bool.true_and] at q
        exact ⟨_,rfl,_,_,rfl,rfl,q⟩
      · have h1 : ¬ 0 ≤ e.at_:=fun y=>z1 (decide_eq_true y)
        rw [decide_eq_false h1,Bool.false_and] at q
        exact q
    · have hk : ¬ e.k = 0:=fun y=>z (decide_eq_true ((Cq o).mpr y))
      unfold iZ at q
      rw [if_neg hk,Int.add_zero] at q
      refine ⟨_,rfl,t,_,_,_,rfl,rfl,ht,Cn e,_,_,rfl,rfl,_,rfl,n5 (fun z1=>?_) (fun z1=>?_)⟩
      · have h1 : 0 ≤ e.at_:=of_decide_eq_true z1
        rw [decide_eq_true h1,Bool.true_and] at q
        exact ⟨_,rfl,_,_,rfl,rfl,q⟩
      · have h1 : ¬ 0 ≤ e.at_:=fun y=>z1 (decide_eq_true y)
        rw [decide_eq_false h1,Bool.false_and] at q
        exact q
theorem qO (T : Txt w.params K mg A) : aw P w K mg base (CXX P w) 2 A.jS A.gA ["things","edit"] (MJ A K):=by
  have Sj : aw P w K mg base CX0 1 A.fits A.ym ["things","edit"] (MI K):=OS T
  refine T.ig.okX y3 (fun vs H Q E h=>?_) (fun cdv A' outer s H vs Q E hr h=>?_)
  · obtain ⟨a,t,xs,e,rfl,_⟩:=h
    rfl
  · obtain ⟨a,t,xs,e,rfl,ha,ht,o,q1,q2⟩:=h
    have OT:=hr
    have hgd:=hr.gd
    have Cr:=hr.units
    refine ⟨_,(bq (eM (u0 (nk (bK Sj OT rfl T.MA T.GJ.kp T.Mz .nil bh (aa (pv 0) (aa (pv 1) ah)))))
  (bq (jh T.Dy rfl rfl T.Cj (aa (Wu hgd Cr (pv 1)) ah)))
  (qB aJ))),?_⟩
    refine ⟨_,rfl,_,rfl,a,t,xs,e,rfl,ha,ht,o,_,rfl,?_⟩
    cases hf : iZ xs.length e with
    | true=>exact eD (q1 hf)
    | false =>
      obtain ⟨s1,s2,s3⟩:=MG o
      have s4:=OR o
      refine jO ⟨_,rfl,t,edD e,rfl,Cp e ht,s1,s2,s3,Nat.le_trans (Nat.add_le_add_right s4 _) (by decide +kernel),fun z=>?_⟩
      exact ⟨(by show 1 ≤ sizeLine; decide),q2 hf⟩
theorem Jc (T : Txt w.params K mg A) : aw P w K mg base (CXX P w) 3 A.laid A.ug ["things","edit"] (GS A K):=by
  have jN : aw P w K mg base (CXX P w) 2 A.jS A.gA ["things","edit"] (MJ A K):=qO T
  refine T.Ca.okX yl (fun vs H Q E h=>?_) (fun cdv A' outer s H vs Q E hr h=>?_)
  · obtain ⟨a,t,xs,e,rfl,_⟩:=h
    rfl
  · obtain ⟨a,t,xs,e,rfl,ha,hz,ht,o,q1,q2⟩:=h
    have i3:=hr
    refine ⟨_,(aL (lI (n8 jN i3 rfl T.jM T.ig.kp T.jL (pax (aa (pv 0) (aa (pv 1) ah)))))
  (aL (psx (bA (i:=2) yl.nd rfl (Or.inl rfl) (aS aY (pv 1) ak (fun _ _=>rfl))))
  (aL (psx (bA (i:=3) yl.nd rfl (Or.inl rfl) (aS aY (pv 1) ak (fun _ _=>rfl))))
  (aL (psx (bA (i:=4) yl.nd rfl (Or.inl rfl) (fN d7 (by rfl) T.pA mS (aa (pv 0) ah))))
  (aL (psx (bU (aI cf (pv 2) au (aT _))
  (aj (cI (lH PySem.F.plainAttrs_list PySem.F.slot_list_insert PySem.F.type_list_insert J3 (pv 4) (aa (pv 3) (aa (aS aY (pv 1) ak (fun _ _=>rfl)) ah)))))
  (aj (bU (aI cf (pv 2) au (aT _))
  (aj (cI (lH PySem.F.plainAttrs_list PySem.F.slot_list_pop PySem.F.type_list_pop LG (pv 4) (aa (pv 3) ah))))
  (aj (Ri (aS aY (pv 1) ak (fun _ _=>rfl)) (Rg (pv 4) (pv 3) set_list)))))))
  (bq (psx (aG (pv 4))))))))),?_⟩
    refine ⟨_,rfl,_,rfl,a,t,_,e,rfl,ha,ht,o,fun hf=>?_,fun hf=>q2 (by rw [List.length_map] at hf; exact hf)⟩
    rw [List.length_map] at hf
    obtain ⟨f0,f1⟩:=Dz.mp hf
    have q:=q1 hf
    have lim : (1001 : Nat) < sizeLine:=by decide
    obtain ⟨n,hn⟩ : ∃ n : Nat,e.at_ = (n : Int):=⟨e.at_.toNat,by omega⟩
    refine ⟨_,rfl,t,_,_,_,rfl,rfl,ht,Ck e,?_⟩
    refine ⟨_,rfl,t,_,_,_,rfl,rfl,ht,Cn e,?_⟩
    refine ⟨_,rfl,a,_,rfl,.inl ha,fun p hp=>?_⟩
    have sp : bQ H (upd H p (.lst (xs.map V.str))):=aH hp
    have ht':=MK sp ht
    have q:=q p hp
    rw [hn]
    rw [hn] at f1
    refine ⟨_,rfl,rfl,_,rfl,n5 (fun z=>?_) (fun z=>?_)⟩
    · have hk : e.k = 0:=(Cq o).mp (of_decide_eq_true z)
      rw [if_pos hk] at f1
      refine ⟨_,rfl,.inl ⟨rfl,_,SqL.of ae⟩,_,rfl,_,rfl,t,_,_,_,rfl,rfl,ht',Co (by omega),p,_,_,n,_,rfl,rfl,rfl,ae,(by rw [List.length_map]; omega),(by rw [List.length_map]; omega),?_⟩
      rw [mQ]
      refine ⟨_,rfl,?_⟩
      have e1 : (cP xs e).map V.str = (xs.map V.str).take n ++ V.str e.th :: (xs.map V.str).drop n:=by
        unfold cP
        rw [hk,hn]
        simp
      rw [e1] at q
      exact q
    · have hk0 : ¬ e.k = 0:=fun y=>z (decide_eq_true ((Cq o).mpr y))
      rw [if_neg hk0,Int.add_zero] at f1
      have hlt : n < xs.length:=by omega
      refine ⟨_,rfl,rfl,_,rfl,n5 (fun z2=>?_) (fun z2=>?_)⟩
      · have hk : e.k = 1:=(zp o).mp (of_decide_eq_true z2)
        refine ⟨_,rfl,.inl ⟨rfl,_,SqL.of ae⟩,_,rfl,p,_,(n : Int),n,_,rfl,rfl,ae,by omega,by omega,?_,(by rw [List.getElem?_eq_getElem (by rw [List.length_map]; exact hlt)]),?_⟩
        · rw [List.length_map]
          exact (BE (by unfold ixN; rw [if_pos (by omega),if_pos (by omega)]; rfl)).1
        · rw [mQ]
          refine ⟨_,rfl,?_⟩
          have e1 : (cP xs e).map V.str = (xs.map V.str).eraseIdx n:=by
            unfold cP
            rw [hk,hn]
            exact AV V.str xs _
          rw [e1] at q
          exact q
      · have hk1 : ¬ e.k = 1:=fun y=>z2 (decide_eq_true ((zp o).mpr y))
        have hk : e.k = 2:=by have:=o.k3; omega
        refine ⟨_,rfl,t,_,_,_,rfl,rfl,ht',Co (by omega),_,rfl,_,rfl,p,_,(n : Int),n,rfl,rfl,ae,?_,?_⟩
        · rw [List.length_map]
          unfold ixN
          rw [if_pos (by omega),if_pos (by omega)]; rfl
        · rw [mQ]
          refine ⟨_,rfl,?_⟩
          have e1 : (cP xs e).map V.str = (xs.map V.str).set n (V.str e.th):=by
            unfold cP
            rw [hk,hn]
            simp [List.map_set]
          rw [e1] at q
          exact q
end
mutual
theorem eqv_refl : ∀ d : PyData,d.canLay0 = true → PyData.eqv d d = true
  | .none,_=>by simp [PyData.eqv]
  | .bool _,_=>by simp [PyData.eqv]
  | .int _,_=>by simp [PyData.eqv]
  | .str _,_=>by simp [PyData.eqv]
  | .list xs,h=>by simp only [PyData.eqv]; exact eqvAll_refl xs (by simpa [PyData.canLay0] using h)
  | .tuple xs,h=>by simp only [PyData.eqv]; exact eqvAll_refl xs (by simpa [PyData.canLay0] using h)
  | .dict _,h=>by simp [PyData.canLay0] at h
theorem eqvAll_refl : ∀ xs : List PyData,PyData.canLayAll0 xs = true → PyData.eqvAll xs xs = true
  | [],_=>by simp [PyData.eqvAll]
  | x :: xs,h=>by
    have h' : x.canLay0 = true ∧ PyData.canLayAll0 xs = true:=by simpa [PyData.canLayAll0] using h
    simp only [PyData.eqvAll,eqv_refl x h'.1,eqvAll_refl xs h'.2,Bool.and_self]
end
theorem wB : ∀ k,k < 8 → PyData.strOk (nm k) = true
  | 0,_=>by decide +kernel
  | 1,_=>by decide +kernel
  | 2,_=>by decide +kernel
  | 3,_=>by decide +kernel
  | 4,_=>by decide +kernel
  | 5,_=>by decide +kernel
  | 6,_=>by decide +kernel
  | 7,_=>by decide +kernel
  | n + 8,h=>absurd h (by omega)
def nd (k : Nat) : Str:=if k = 4 then Str.ofString "two thirds" else Str.ofString "more"
def rowOf (k : Nat) (v : V) : List V:=match k with
  | 4=>[.str (nm 4)]
  | 5=>[.str (nm 5)]
  | 6=>[.str (nm 6)]
  | k=>[.str (nm k),v]
def oE (k : Nat) (v : V) : List (Str × V):=match k with
  | 0=>[(Str.ofString "text",v)]
  | 1=>[(Str.ofString "edit",v)]
  | 2=>[(Str.ofString "edit",v)]
  | 3=>[(Str.ofString "sitting",v)]
  | 4=>[]
  | 5=>[]
  | 6=>[]
  | _=>[(Str.ofString "clause",v)]
theorem Jd {m : Str} (h : m ≠ Str.ofString "text" ∧ m ≠ Str.ofString "edit" ∧ m ≠ Str.ofString "sitting" ∧ m ≠ Str.ofString "clause") (k : Nat) (v : V) : (oE k v).lookup m = none:=by
  obtain ⟨h1,h2,h3,h4⟩:=h
  have b1 : (m == Str.ofString "text") = false:=beq_eq_false_iff_ne.mpr h1
  have b2 : (m == Str.ofString "edit") = false:=beq_eq_false_iff_ne.mpr h2
  have b3 : (m == Str.ofString "sitting") = false:=beq_eq_false_iff_ne.mpr h3
  have b4 : (m == Str.ofString "clause") = false:=beq_eq_false_iff_ne.mpr h4
  unfold oE
  split <;> simp [List.lookup_cons,b1,b2,b3,b4]
theorem k9 (k : Nat) (v : V) : (oE k v).lookup (Str.ofString "kind") = none:=Jd (by decide +kernel) k v
theorem OU (k : Nat) (v : V) : (oE k v).lookup (Str.ofString "rank") = none:=Jd (by decide +kernel) k v
theorem OV (k : Nat) (v : V) : (oE k v).lookup (Str.ofString "need") = none:=Jd (by decide +kernel) k v
theorem Je (k : Nat) (v : V) : (oE k v).lookup (Str.ofString "told") = none:=Jd (by decide +kernel) k v
def gm (k : Nat) : Sp:=fun vs H Q _=>∃ m : Addr,vs = [.ref m] ∧ Q (.str (nm k)) H
def ML (A : Adr) : Sp:=fun vs H Q _=>∃ (m : Addr) (k : Nat) (dx : Addr) (fs : List (Str × V)),k < 8 ∧ vs = [.ref m] ∧ H m = some (.ins (A.C k) dx fs) ∧ fs.lookup (Str.ofString "kind") = none ∧ Q (.int k) H
def Cs (k : Nat) : Sp:=fun vs H Q _=>∃ m : Addr,vs = [.ref m] ∧ Q (.str (nd k)) H
def Jf (A : Adr) : Sp:=fun vs H Q _=>∃ (m : Addr) (k : Nat) (dx : Addr) (fs : List (Str × V)),k < 8 ∧ vs = [.ref m] ∧ H m = some (.ins (A.C k) dx fs) ∧ fs.lookup (Str.ofString "kind") = none ∧ ∀ p,H p = none → Q (.ref p) (upd H p (.tup [.str (nm k)]))
def yt (A : Adr) (k : Nat) (a : Str) : Sp:=fun vs H Q _=>∃ (m dx : Addr) (fs : List (Str × V)) (v : V),vs = [.ref m] ∧ H m = some (.ins (A.C k) dx fs) ∧ fs.lookup (Str.ofString "kind") = none ∧ fs.lookup a = some v ∧ ∀ p,H p = none → Q (.ref p) (upd H p (.tup [.str (nm k),v]))
def GU (A : Adr) (k : Nat) : Sp:=fun vs H Q _=>1 ≤ k ∧ ∃ (m dx : Addr) (v : V),vs = [.ref m] ∧ H m = some (.ins (A.C k) dx (oE k v)) ∧ ∀ p,H p = none → Q (.ref p) (upd H p (.tup (rowOf k v)))
def ju (A : Adr) (k : Nat) : Sp:=fun vs H Q _=>∃ (m dx : Addr) (v : V),vs = [.ref m,v] ∧ H m = some (.ins (A.C k) dx []) ∧ Q .non (upd H m (.ins (A.C k) dx (oE k v)))
def Jg (A : Adr) (K : PySem.W.Frag) : Sp:=fun vs H Q _=>∃ (m dx L : Addr) (xs : List V),vs = [.ref m] ∧ H m = some (.ins (A.C 0) dx (oE 0 (.ref L))) ∧ SqL K H L xs ∧ ∀ p q,H p = none → H q = none → p ≠ q → Q (.ref q) (upd (upd H p (.lst xs)) q (.tup [.str (nm 0),.ref p]))
def yu (A : Adr) (K : PySem.W.Frag) : Sp:=fun vs H Q _=>∃ (m dx L : Addr) (xs : List V),vs = [.ref m,.ref L] ∧ H m = some (.ins (A.C 0) dx []) ∧ SqL K H L xs ∧ ∀ p,H p = none → Q .non (upd (upd H p (.lst xs)) m (.ins (A.C 0) dx (oE 0 (.ref p))))
def Jh (A : Adr) : Sp:=fun vs H Q _=>∃ (t : Addr) (k : Nat) (v : V),1 ≤ k ∧ k < 8 ∧ vs = [.ref t] ∧ H t = some (.tup (rowOf k v)) ∧ ∀ m H',bQ H H' → H m = none → (∃ dx,H' m = some (.ins (A.C k) dx (oE k v))) → Q (.ref m) H'
def DA (A : Adr) (K : PySem.W.Frag) : Sp:=fun vs H Q _=>∃ (t L : Addr) (xs : List V),vs = [.ref t] ∧ H t = some (.tup [.str (nm 0),.ref L]) ∧ SqL K H L xs ∧
  ∀ m p H',bQ H H' → H m = none → H p = none → H' p = some (.lst xs) → (∃ dx,H' m = some (.ins (A.C 0) dx (oE 0 (.ref p)))) → Q (.ref m) H'
section
variable {P : Program} {w : World} {K : PySem.W.Frag} {mg : Str → Option Value} {base : Heap} {A : Adr}
theorem zq (T : Txt w.params K mg A) : aw P w K mg base CX0 1 A.RZ A.Me ["self"] (gm 0):=by
  refine T.WC.ok yM (fun vs H Q E h=>?_) (fun cdv A' outer s H vs Q E hr h=>?_)
  · obtain ⟨m,rfl,_⟩:=h
    rfl
  · obtain ⟨m,rfl,q⟩:=h
    exact ⟨_,(aj (aG au)),q⟩
theorem zr (T : Txt w.params K mg A) : aw P w K mg base CX0 1 A.R0 A.Mf ["self"] (gm 1):=by
  refine T.WD.ok yN (fun vs H Q E h=>?_) (fun cdv A' outer s H vs Q E hr h=>?_)
  · obtain ⟨m,rfl,_⟩:=h
    rfl
  · obtain ⟨m,rfl,q⟩:=h
    exact ⟨_,(aj (aG au)),q⟩
theorem Ct (T : Txt w.params K mg A) : aw P w K mg base CX0 1 A.R1 A.Mg ["self"] (gm 2):=by
  refine T.WE.ok BZ (fun vs H Q E h=>?_) (fun cdv A' outer s H vs Q E hr h=>?_)
  · obtain ⟨m,rfl,_⟩:=h
    rfl
  · obtain ⟨m,rfl,q⟩:=h
    exact ⟨_,(aj (aG au)),q⟩
theorem zt (T : Txt w.params K mg A) : aw P w K mg base CX0 1 A.R3 A.Mh ["self"] (gm 3):=by
  refine T.WG.ok yO (fun vs H Q E h=>?_) (fun cdv A' outer s H vs Q E hr h=>?_)
  · obtain ⟨m,rfl,_⟩:=h
    rfl
  · obtain ⟨m,rfl,q⟩:=h
    exact ⟨_,(aj (aG au)),q⟩
theorem Am (T : Txt w.params K mg A) : aw P w K mg base CX0 1 A.R4 A.Mi ["self"] (gm 4):=by
  refine T.WH.ok Ag (fun vs H Q E h=>?_) (fun cdv A' outer s H vs Q E hr h=>?_)
  · obtain ⟨m,rfl,_⟩:=h
    rfl
  · obtain ⟨m,rfl,q⟩:=h
    exact ⟨_,(aj (aG au)),q⟩
theorem DB (T : Txt w.params K mg A) : aw P w K mg base CX0 1 A.R5 A.Mj ["self"] (gm 5):=by
  refine T.WI.ok Dl (fun vs H Q E h=>?_) (fun cdv A' outer s H vs Q E hr h=>?_)
  · obtain ⟨m,rfl,_⟩:=h
    rfl
  · obtain ⟨m,rfl,q⟩:=h
    exact ⟨_,(aj (aG au)),q⟩
theorem Cu (T : Txt w.params K mg A) : aw P w K mg base CX0 1 A.R6 A.Ml ["self"] (gm 6):=by
  refine T.WJ.ok B0 (fun vs H Q E h=>?_) (fun cdv A' outer s H vs Q E hr h=>?_)
  · obtain ⟨m,rfl,_⟩:=h
    rfl
  · obtain ⟨m,rfl,q⟩:=h
    exact ⟨_,(aj (aG au)),q⟩
theorem An (T : Txt w.params K mg A) : aw P w K mg base CX0 1 A.R7 A.Mm ["self"] (gm 7):=by
  refine T.WK.ok Ah (fun vs H Q E h=>?_) (fun cdv A' outer s H vs Q E hr h=>?_)
  · obtain ⟨m,rfl,_⟩:=h
    rfl
  · obtain ⟨m,rfl,q⟩:=h
    exact ⟨_,(aj (aG au)),q⟩
theorem lb (T : Txt w.params K mg A) : ∀ k,k < 8 → aw P w K mg base CX0 1 (A.fk k) (A.fkd k) ["self"] (gm k)
  | 0,_=>zq T
  | 1,_=>zr T
  | 2,_=>Ct T
  | 3,_=>zt T
  | 4,_=>Am T
  | 5,_=>DB T
  | 6,_=>Cu T
  | 7,_=>An T
  | n + 8,h=>absurd h (by omega)
theorem OW (T : Txt w.params K mg A) : aw P w K mg base CX0 2 A.f_r A.ON ["self"] (ML A):=by
  have gN : ∀ k,k < 8 → aw P w K mg base CX0 1 (A.fk k) (A.fkd k) ["self"] (gm k):=lb T
  refine T.F_r.ok yP (fun vs H Q E h=>?_) (fun cdv A' outer s H vs Q E hr h=>?_)
  · obtain ⟨m,k,dx,fs,_,rfl,_⟩:=h
    rfl
  · obtain ⟨m,k,dx,fs,hk,rfl,hm,hl,q⟩:=h
    have eu:=hr
    obtain ⟨t,ht⟩:=T.rk k hk
    refine ⟨_,(aj (aG (aS LQ (fh (v:=V.ref A.tab) rfl T.Cg rfl) (gx (pv 0) (T.cl k hk) (T.nr k hk) (gN k hk) eu (T.nv k hk) .nil bh) (fun _ _=>rfl)))),?_⟩
    exact ⟨_,rfl,m,dx,fs,rfl,hm,hl,m,rfl,A.tab,nm k,.int k,_,rfl,rfl,T.tb,ht,⟨_,rfl⟩,q⟩
theorem vt (T : Txt w.params K mg A) : aw P w K mg base CX0 2 A.f_t A.Mp ["self"] (Jf A):=by
  have gN : ∀ k,k < 8 → aw P w K mg base CX0 1 (A.fk k) (A.fkd k) ["self"] (gm k):=lb T
  refine T.F_t.ok yR (fun vs H Q E h=>?_) (fun cdv A' outer s H vs Q E hr h=>?_)
  · obtain ⟨m,k,dx,fs,_,rfl,_⟩:=h
    rfl
  · obtain ⟨m,k,dx,fs,hk,rfl,hm,hl,q⟩:=h
    have eu:=hr
    refine ⟨_,(aj (aG (cQ (aa (gx (pv 0) (T.cl k hk) (T.nr k hk) (gN k hk) eu (T.nv k hk) .nil bh) ah)))),?_⟩
    exact ⟨_,rfl,m,dx,fs,rfl,hm,hl,m,rfl,(by show 1 ≤ sizeLine; decide),fun p hp=>q p hp⟩
theorem zu (T : Txt w.params K mg A) : aw P w K mg base CX0 2 A.Sa A.Mr ["self"] (yt A 1 "edit"):=by
  have gN : ∀ k,k < 8 → aw P w K mg base CX0 1 (A.fk k) (A.fkd k) ["self"] (gm k):=lb T
  refine T.WN.ok yT (fun vs H Q E h=>?_) (fun cdv A' outer s H vs Q E hr h=>?_)
  · obtain ⟨m,dx,fs,v,rfl,_⟩:=h
    rfl
  · obtain ⟨m,dx,fs,v,rfl,hm,hl,hv,q⟩:=h
    have eu:=hr
    obtain ⟨k,hk,ek⟩ : ∃ k,k < 8 ∧ k = 1:=⟨1,by decide,rfl⟩
    have hm' : H m = some (.ins (A.C k) dx fs):=by rw [ek]; exact hm
    refine ⟨_,(aj (aG (cQ (aa (gx (pv 0) (T.cl k hk) (T.nr k hk) (gN k hk) eu (T.nv k hk) .nil bh) (aa (bg (pv 0) rfl) ah))))),?_⟩
    subst ek
    exact ⟨_,rfl,m,dx,fs,rfl,hm,hl,m,rfl,_,rfl,m,A.C 1,dx,fs,v,rfl,hm,T.cl 1 hk,T.na1,hv,(by show 2 ≤ sizeLine; decide),fun p hp=>q p hp⟩
theorem l8 (T : Txt w.params K mg A) : aw P w K mg base CX0 1 A.Kb A.A4 ["self","edit"] (ju A 1):=by
  refine T.WT.ok yW (fun vs H Q E h=>?_) (fun cdv A' outer s H vs Q E hr h=>?_)
  · obtain ⟨m,dx,v,rfl,_⟩:=h
    rfl
  · obtain ⟨m,dx,v,rfl,hm,q⟩:=h
    refine ⟨_,(aj (eL (pv 0) (pv 1) rfl)),?_⟩
    exact ⟨_,rfl,_,rfl,m,A.C 1,dx,[],rfl,hm,T.cl 1 (by decide),T.na1,by decide,q⟩
theorem Cv (T : Txt w.params K mg A) : aw P w K mg base CX0 2 A.Sb A.Ms ["self"] (yt A 2 "edit"):=by
  have gN : ∀ k,k < 8 → aw P w K mg base CX0 1 (A.fk k) (A.fkd k) ["self"] (gm k):=lb T
  refine T.WO.ok B1 (fun vs H Q E h=>?_) (fun cdv A' outer s H vs Q E hr h=>?_)
  · obtain ⟨m,dx,fs,v,rfl,_⟩:=h
    rfl
  · obtain ⟨m,dx,fs,v,rfl,hm,hl,hv,q⟩:=h
    have eu:=hr
    obtain ⟨k,hk,ek⟩ : ∃ k,k < 8 ∧ k = 2:=⟨2,by decide,rfl⟩
    have hm' : H m = some (.ins (A.C k) dx fs):=by rw [ek]; exact hm
    refine ⟨_,(aj (aG (cQ (aa (gx (pv 0) (T.cl k hk) (T.nr k hk) (gN k hk) eu (T.nv k hk) .nil bh) (aa (bg (pv 0) rfl) ah))))),?_⟩
    subst ek
    exact ⟨_,rfl,m,dx,fs,rfl,hm,hl,m,rfl,_,rfl,m,A.C 2,dx,fs,v,rfl,hm,T.cl 2 hk,T.na2,hv,(by show 2 ≤ sizeLine; decide),fun p hp=>q p hp⟩
theorem ux (T : Txt w.params K mg A) : aw P w K mg base CX0 1 A.Mv A.Dp ["self","edit"] (ju A 2):=by
  refine T.WU.ok B2 (fun vs H Q E h=>?_) (fun cdv A' outer s H vs Q E hr h=>?_)
  · obtain ⟨m,dx,v,rfl,_⟩:=h
    rfl
  · obtain ⟨m,dx,v,rfl,hm,q⟩:=h
    refine ⟨_,(aj (eL (pv 0) (pv 1) rfl)),?_⟩
    exact ⟨_,rfl,_,rfl,m,A.C 2,dx,[],rfl,hm,T.cl 2 (by decide),T.na2,by decide,q⟩
theorem zv (T : Txt w.params K mg A) : aw P w K mg base CX0 2 A.Sd A.Mt ["self"] (yt A 3 "sitting"):=by
  have gN : ∀ k,k < 8 → aw P w K mg base CX0 1 (A.fk k) (A.fkd k) ["self"] (gm k):=lb T
  refine T.WQ.ok yU (fun vs H Q E h=>?_) (fun cdv A' outer s H vs Q E hr h=>?_)
  · obtain ⟨m,dx,fs,v,rfl,_⟩:=h
    rfl
  · obtain ⟨m,dx,fs,v,rfl,hm,hl,hv,q⟩:=h
    have eu:=hr
    obtain ⟨k,hk,ek⟩ : ∃ k,k < 8 ∧ k = 3:=⟨3,by decide,rfl⟩
    have hm' : H m = some (.ins (A.C k) dx fs):=by rw [ek]; exact hm
    refine ⟨_,(aj (aG (cQ (aa (gx (pv 0) (T.cl k hk) (T.nr k hk) (gN k hk) eu (T.nv k hk) .nil bh) (aa (bg (pv 0) rfl) ah))))),?_⟩
    subst ek
    exact ⟨_,rfl,m,dx,fs,rfl,hm,hl,m,rfl,_,rfl,m,A.C 3,dx,fs,v,rfl,hm,T.cl 3 hk,T.na3,hv,(by show 2 ≤ sizeLine; decide),fun p hp=>q p hp⟩
theorem qP (T : Txt w.params K mg A) : aw P w K mg base CX0 1 A.Mw A.Dq ["self","sitting"] (ju A 3):=by
  refine T.WV.ok yX (fun vs H Q E h=>?_) (fun cdv A' outer s H vs Q E hr h=>?_)
  · obtain ⟨m,dx,v,rfl,_⟩:=h
    rfl
  · obtain ⟨m,dx,v,rfl,hm,q⟩:=h
    refine ⟨_,(aj (eL (pv 0) (pv 1) rfl)),?_⟩
    exact ⟨_,rfl,_,rfl,m,A.C 3,dx,[],rfl,hm,T.cl 3 (by decide),T.na3,by decide,q⟩
theorem Ao (T : Txt w.params K mg A) : aw P w K mg base CX0 2 A.Se A.Mu ["self"] (yt A 7 "clause"):=by
  have gN : ∀ k,k < 8 → aw P w K mg base CX0 1 (A.fk k) (A.fkd k) ["self"] (gm k):=lb T
  refine T.WR.ok Aj (fun vs H Q E h=>?_) (fun cdv A' outer s H vs Q E hr h=>?_)
  · obtain ⟨m,dx,fs,v,rfl,_⟩:=h
    rfl
  · obtain ⟨m,dx,fs,v,rfl,hm,hl,hv,q⟩:=h
    have eu:=hr
    obtain ⟨k,hk,ek⟩ : ∃ k,k < 8 ∧ k = 7:=⟨7,by decide,rfl⟩
    have hm' : H m = some (.ins (A.C k) dx fs):=by rw [ek]; exact hm
    refine ⟨_,(aj (aG (cQ (aa (gx (pv 0) (T.cl k hk) (T.nr k hk) (gN k hk) eu (T.nv k hk) .nil bh) (aa (bg (pv 0) rfl) ah))))),?_⟩
    subst ek
    exact ⟨_,rfl,m,dx,fs,rfl,hm,hl,m,rfl,_,rfl,m,A.C 7,dx,fs,v,rfl,hm,T.cl 7 hk,T.na7,hv,(by show 2 ≤ sizeLine; decide),fun p hp=>q p hp⟩
theorem sI (T : Txt w.params K mg A) : aw P w K mg base CX0 1 A.Mx A.Dr ["self","clause"] (ju A 7):=by
  refine T.WW.ok Ak (fun vs H Q E h=>?_) (fun cdv A' outer s H vs Q E hr h=>?_)
  · obtain ⟨m,dx,v,rfl,_⟩:=h
    rfl
  · obtain ⟨m,dx,v,rfl,hm,q⟩:=h
    refine ⟨_,(aj (eL (pv 0) (pv 1) rfl)),?_⟩
    exact ⟨_,rfl,_,rfl,m,A.C 7,dx,[],rfl,hm,T.cl 7 (by decide),T.na7,by decide,q⟩
theorem MM {k : Nat} {f : Addr} {fd : FuncData} {ps : List Str} {sp : Sp} (h : ∀ vs H Q E,¬ sp vs H Q E) : aw P w K mg base CX0 k f fd ps sp :=
  ⟨fun vs H Q E z=>(h vs H Q E z).elim,fun _ _ _ H _ _ vs Q E _ _ _ _ z=>(h vs H Q E z).elim⟩
theorem sZ {k : Nat} (hk : k = 4 ∨ k = 5 ∨ k = 6) : ∀ vs H Q E,GU A k vs H Q E → Jf A vs H Q E:=fun vs H Q E ⟨_,m,dx,v,e,hm,q⟩ =>
  ⟨m,k,dx,oE k v,by omega,e,hm,k9 k v,fun p hp=>by
    have:=q p hp
    rcases hk with rfl | rfl | rfl <;> exact this⟩
theorem pE (T : Txt w.params K mg A) : ∀ k,k < 8 → aw P w K mg base CX0 2 (A.ft k) (A.ftd k) ["self"] (GU A k)
  | 0,_=>MM fun vs H Q E h=>absurd h.1 (by decide)
  | 1,_=>(zu T).imp fun vs H Q E ⟨_,m,dx,v,e,hm,q⟩=>⟨m,dx,_,v,e,hm,k9 1 v,rfl,q⟩
  | 2,_=>(Cv T).imp fun vs H Q E ⟨_,m,dx,v,e,hm,q⟩=>⟨m,dx,_,v,e,hm,k9 2 v,rfl,q⟩
  | 3,_=>(zv T).imp fun vs H Q E ⟨_,m,dx,v,e,hm,q⟩=>⟨m,dx,_,v,e,hm,k9 3 v,rfl,q⟩
  | 4,_=>(vt T).imp (sZ (.inl rfl))
  | 5,_=>(vt T).imp (sZ (.inr (.inl rfl)))
  | 6,_=>(vt T).imp (sZ (.inr (.inr rfl)))
  | 7,_=>(Ao T).imp fun vs H Q E ⟨_,m,dx,v,e,hm,q⟩=>⟨m,dx,_,v,e,hm,k9 7 v,rfl,q⟩
  | n + 8,h=>absurd h (by omega)
theorem zw (T : Txt w.params K mg A) : aw P w K mg base CX0 1 A.Ka A.A3 ["self","text"] (yu A K):=by
  refine T.WS.ok yV (fun vs H Q E h=>?_) (fun cdv A' outer s H vs Q E hr h=>?_)
  · obtain ⟨m,dx,L,xs,rfl,_⟩:=h
    rfl
  · obtain ⟨m,dx,L,xs,rfl,hm,hL,q⟩:=h
    refine ⟨_,(aj (eL (pv 0) (fN d7 (by rfl) T.pA mS (aa (pv 1) ah)) rfl)),?_⟩
    refine ⟨_,rfl,L,xs,rfl,.inl hL,fun p hp=>?_⟩
    have nmp : m ≠ p:=aV hm hp
    exact ⟨_,rfl,m,A.C 0,dx,[],rfl,(aq nmp).trans hm,T.cl 0 (by decide),T.na0,by decide,q p hp⟩
theorem MN (T : Txt w.params K mg A) : aw P w K mg base CX0 2 A.R9 A.Mq ["self"] (Jg A K):=by
  have gN : ∀ k,k < 8 → aw P w K mg base CX0 1 (A.fk k) (A.fkd k) ["self"] (gm k):=lb T
  refine T.WM.ok yS (fun vs H Q E h=>?_) (fun cdv A' outer s H vs Q E hr h=>?_)
  · obtain ⟨m,dx,L,xs,rfl,_⟩:=h
    rfl
  · obtain ⟨m,dx,L,xs,rfl,hm,hL,q⟩:=h
    have eu:=hr
    obtain ⟨k,hk,ek⟩ : ∃ k,k < 8 ∧ k = 0:=⟨0,by decide,rfl⟩
    refine ⟨_,(aj (aG (cQ (aa (gx (pv 0) (T.cl k hk) (T.nr k hk) (gN k hk) eu (T.nv k hk) .nil bh) (aa (fN d7 (by rfl) T.pA mS (aa (bg (pv 0) rfl) ah)) ah))))),?_⟩
    subst ek
    refine ⟨_,rfl,m,dx,_,rfl,hm,k9 0 _,m,rfl,_,rfl,m,A.C 0,dx,_,_,rfl,hm,T.cl 0 hk,T.na0,rfl,L,xs,rfl,.inl hL,fun p hp=>⟨(by show 2 ≤ sizeLine; decide),fun q' hq'=>?_⟩⟩
    have npq : p ≠ q':=aV ae hq'
    have hq : H q' = none:=by rw [aq (Ne.symm npq)] at hq'; exact hq'
    exact q p q' hp hq npq
theorem Cw (T : Txt w.params K mg A) : aw P w K mg base CX0 3 A.lA A.gZ ["told"] (Jh A):=by
  have MO : aw P w K mg base CX0 1 A.Ka A.A3 ["self","text"] (yu A K):=zw T
  have MP : aw P w K mg base CX0 1 A.Kb A.A4 ["self","edit"] (ju A 1):=l8 T
  have Sk : aw P w K mg base CX0 1 A.Mv A.Dp ["self","edit"] (ju A 2):=ux T
  have Sl : aw P w K mg base CX0 1 A.Mw A.Dq ["self","sitting"] (ju A 3):=qP T
  have Sm : aw P w K mg base CX0 1 A.Mx A.Dr ["self","clause"] (ju A 7):=sI T
  refine T.m3.ok kU (fun vs H Q E h=>?_) (fun cdv A' outer s H vs Q E hr h=>?_)
  · obtain ⟨t,k,v,_,_,rfl,_⟩:=h
    rfl
  · obtain ⟨t,k,v,h1,h8,rfl,ht,q⟩:=h
    have fq:=hr
    refine ⟨_,(ao (bA (i:=1) kU.nd rfl (Or.inl rfl) (aS aY (pv 0) ak (fun _ _=>rfl)))
  (ao (bU (aI cf (pv 1) au (aT _))
  (aj (aG (gs T.ur MO fq rfl T.uo T.OO .nil bh (aa (aS aY (pv 0) ak (fun _ _=>rfl)) ah))))
  aJ)
  (ao (bU (aI cf (pv 1) au (aT _))
  (aj (aG (gs T.uu MP fq rfl T.uq T.OP .nil bh (aa (aS aY (pv 0) ak (fun _ _=>rfl)) ah))))
  aJ)
  (ao (bU (aI cf (pv 1) au (aT _))
  (aj (aG (gs T.GR Sk fq rfl T.GN T.Sf .nil bh (aa (aS aY (pv 0) ak (fun _ _=>rfl)) ah))))
  aJ)
  (ao (bU (aI cf (pv 1) au (aT _))
  (aj (aG (gs T.zi Sl fq rfl T.zh T.Sg .nil bh (aa (aS aY (pv 0) ak (fun _ _=>rfl)) ah))))
  aJ)
  (ao (bU (aI cf (pv 1) au (aT _))
  (aj (aG (n6 (T.mkn 4 (by decide)) rfl T.Cd)))
  aJ)
  (ao (bU (aI cf (pv 1) au (aT _))
  (aj (aG (n6 (T.mkn 5 (by decide)) rfl T.MB)))
  aJ)
  (ao (bU (aI cf (pv 1) au (aT _))
  (aj (aG (n6 (T.mkn 6 (by decide)) rfl T.GO)))
  aJ)
  (aj (aG (gs T.Ci Sm fq rfl T.Ce T.Si .nil bh (aa (aS aY (pv 0) ak (fun _ _=>rfl)) ah)))))))))))),?_⟩
    have h0 : atI (rowOf k v) 0 = some (.str (nm k)):=by
      have hk : k = 1 ∨ k = 2 ∨ k = 3 ∨ k = 4 ∨ k = 5 ∨ k = 6 ∨ k = 7:=by omega
      rcases hk with rfl | rfl | rfl | rfl | rfl | rfl | rfl <;> rfl
    refine ⟨_,rfl,t,_,_,_,rfl,rfl,SqT.of ht,h0,?_⟩
    have hk : k = 1 ∨ k = 2 ∨ k = 3 ∨ k = 4 ∨ k = 5 ∨ k = 6 ∨ k = 7:=by omega
    rcases hk with rfl | rfl | rfl | rfl | rfl | rfl | rfl
    · refine ⟨_,rfl,rfl,_,rfl,aN (by decide +kernel) ⟨_,rfl,rfl,_,rfl,dj (by decide +kernel) ?_⟩⟩
      exact ⟨_,rfl,t,_,_,v,rfl,rfl,SqT.of ht,rfl,fun m dx nm ndx ne=>⟨m,dx,v,rfl,ae,rfl,q m _ ((((bQ.refl H).own ndx).own nm).own nm) nm ⟨dx,ae⟩⟩⟩
    · refine ⟨_,rfl,rfl,_,rfl,aN (by decide +kernel) ⟨_,rfl,rfl,_,rfl,aN (by decide +kernel) ⟨_,rfl,rfl,_,rfl,dj (by decide +kernel) ?_⟩⟩⟩
      exact ⟨_,rfl,t,_,_,v,rfl,rfl,SqT.of ht,rfl,fun m dx nm ndx ne=>⟨m,dx,v,rfl,ae,rfl,q m _ ((((bQ.refl H).own ndx).own nm).own nm) nm ⟨dx,ae⟩⟩⟩
    · refine ⟨_,rfl,rfl,_,rfl,aN (by decide +kernel) ⟨_,rfl,rfl,_,rfl,aN (by decide +kernel) ⟨_,rfl,rfl,_,rfl,aN (by decide +kernel) ⟨_,rfl,rfl,_,rfl,dj (by decide +kernel) ?_⟩⟩⟩⟩
      exact ⟨_,rfl,t,_,_,v,rfl,rfl,SqT.of ht,rfl,fun m dx nm ndx ne=>⟨m,dx,v,rfl,ae,rfl,q m _ ((((bQ.refl H).own ndx).own nm).own nm) nm ⟨dx,ae⟩⟩⟩
    · refine ⟨_,rfl,rfl,_,rfl,aN (by decide +kernel) ⟨_,rfl,rfl,_,rfl,aN (by decide +kernel) ⟨_,rfl,rfl,_,rfl,aN (by decide +kernel) ⟨_,rfl,rfl,_,rfl,aN (by decide +kernel) ⟨_,rfl,rfl,_,rfl,dj (by decide +kernel) ?_⟩⟩⟩⟩⟩
      exact fun m dx nm ndx ne=>q m _ (((bQ.refl H).own ndx).own nm) nm ⟨dx,ae⟩
    · refine ⟨_,rfl,rfl,_,rfl,aN (by decide +kernel) ⟨_,rfl,rfl,_,rfl,aN (by decide +kernel) ⟨_,rfl,rfl,_,rfl,aN (by decide +kernel) ⟨_,rfl,rfl,_,rfl,aN (by decide +kernel) ⟨_,rfl,rfl,_,rfl,aN (by decide +kernel) ⟨_,rfl,rfl,_,rfl,dj (by decide +kernel) ?_⟩⟩⟩⟩⟩⟩
      exact fun m dx nm ndx ne=>q m _ (((bQ.refl H).own ndx).own nm) nm ⟨dx,ae⟩
    · refine ⟨_,rfl,rfl,_,rfl,aN (by decide +kernel) ⟨_,rfl,rfl,_,rfl,aN (by decide +kernel) ⟨_,rfl,rfl,_,rfl,aN (by decide +kernel) ⟨_,rfl,rfl,_,rfl,aN (by decide +kernel) ⟨_,rfl,rfl,_,rfl,aN (by decide +kernel) ⟨_,rfl,rfl,_,rfl,aN (by decide +kernel) ⟨_,rfl,rfl,_,rfl,dj (by decide +kernel) ?_⟩⟩⟩⟩⟩⟩⟩
      exact fun m dx nm ndx ne=>q m _ (((bQ.refl H).own ndx).own nm) nm ⟨dx,ae⟩
    · refine ⟨_,rfl,rfl,_,rfl,aN (by decide +kernel) ⟨_,rfl,rfl,_,rfl,aN (by decide +kernel) ⟨_,rfl,rfl,_,rfl,aN (by decide +kernel) ⟨_,rfl,rfl,_,rfl,aN (by decide +kernel) ⟨_,rfl,rfl,_,rfl,aN (by decide +kernel) ⟨_,rfl,rfl,_,rfl,aN (by decide +kernel) ⟨_,rfl,rfl,_,rfl,aN (by decide +kernel) ?_⟩⟩⟩⟩⟩⟩⟩
      exact ⟨_,rfl,t,_,_,v,rfl,rfl,SqT.of ht,rfl,fun m dx nm ndx ne=>⟨m,dx,v,rfl,ae,rfl,q m _ ((((bQ.refl H).own ndx).own nm).own nm) nm ⟨dx,ae⟩⟩⟩
end
section
variable {P : Program} {w : World} {K : PySem.W.Frag} {mg : Str → Option Value} {base : Heap} {A : Adr}
theorem Aq (T : Txt w.params K mg A) : aw P w K mg base CX0 3 A.lA A.gZ ["told"] (DA A K):=by
  have MO : aw P w K mg base CX0 1 A.Ka A.A3 ["self","text"] (yu A K):=zw T
  have MP : aw P w K mg base CX0 1 A.Kb A.A4 ["self","edit"] (ju A 1):=l8 T
  have Sk : aw P w K mg base CX0 1 A.Mv A.Dp ["self","edit"] (ju A 2):=ux T
  have Sl : aw P w K mg base CX0 1 A.Mw A.Dq ["self","sitting"] (ju A 3):=qP T
  have Sm : aw P w K mg base CX0 1 A.Mx A.Dr ["self","clause"] (ju A 7):=sI T
  refine T.m3.ok kU (fun vs H Q E h=>?_) (fun cdv A' outer s H vs Q E hr h=>?_)
  · obtain ⟨t,L,xs,rfl,_⟩:=h
    rfl
  · obtain ⟨t,L,xs,rfl,ht,hL,q⟩:=h
    have fq:=hr
    refine ⟨_,(ao (bA (i:=1) kU.nd rfl (Or.inl rfl) (aS aY (pv 0) ak (fun _ _=>rfl)))
  (ao (bU (aI cf (pv 1) au (aT _))
  (aj (aG (gs T.ur MO fq rfl T.uo T.OO .nil bh (aa (aS aY (pv 0) ak (fun _ _=>rfl)) ah))))
  aJ)
  (ao (bU (aI cf (pv 1) au (aT _))
  (aj (aG (gs T.uu MP fq rfl T.uq T.OP .nil bh (aa (aS aY (pv 0) ak (fun _ _=>rfl)) ah))))
  aJ)
  (ao (bU (aI cf (pv 1) au (aT _))
  (aj (aG (gs T.GR Sk fq rfl T.GN T.Sf .nil bh (aa (aS aY (pv 0) ak (fun _ _=>rfl)) ah))))
  aJ)
  (ao (bU (aI cf (pv 1) au (aT _))
  (aj (aG (gs T.zi Sl fq rfl T.zh T.Sg .nil bh (aa (aS aY (pv 0) ak (fun _ _=>rfl)) ah))))
  aJ)
  (ao (bU (aI cf (pv 1) au (aT _))
  (aj (aG (n6 (T.mkn 4 (by decide)) rfl T.Cd)))
  aJ)
  (ao (bU (aI cf (pv 1) au (aT _))
  (aj (aG (n6 (T.mkn 5 (by decide)) rfl T.MB)))
  aJ)
  (ao (bU (aI cf (pv 1) au (aT _))
  (aj (aG (n6 (T.mkn 6 (by decide)) rfl T.GO)))
  aJ)
  (aj (aG (gs T.Ci Sm fq rfl T.Ce T.Si .nil bh (aa (aS aY (pv 0) ak (fun _ _=>rfl)) ah)))))))))))),?_⟩
    refine ⟨_,rfl,t,_,_,_,rfl,rfl,SqT.of ht,rfl,?_⟩
    refine ⟨_,rfl,rfl,_,rfl,dj (by decide +kernel) ?_⟩
    refine ⟨_,rfl,t,_,_,.ref L,rfl,rfl,SqT.of ht,rfl,fun m dx nm ndx ne=>⟨m,dx,L,xs,rfl,ae,(((bQ.refl H).own ndx).own nm).seq hL,fun p hp=>⟨rfl,?_⟩⟩⟩
    have s1 : bQ H (upd (upd H dx (.own m)) m (.ins (A.C 0) dx [])):=((bQ.refl H).own ndx).own nm
    have npm : p ≠ m:=fun z=>by rw [z,ae] at hp; cases hp
    exact q m p _ ((s1.new hp).own nm) nm (s1.free hp) ((aq npm).trans ae) ⟨dx,ae⟩
end
abbrev MQ : Str:=Str.ofString "more"
def sJ (n : Str) (a b : Int) : Bool:=if a ≤ b then false else (decide (n = MQ) || decide (2 * b ≤ a))
def MR : Sp:=fun vs H Q _=>∃ (n : Str) (a b : Int),vs = [.str n,.int a,.int b] ∧ Q (.bl (sJ n a b)) H
section
variable {P : Program} {w : World} {K : PySem.W.Frag} {mg : Str → Option Value} {base : Heap} {A : Adr}
theorem GV (T : Txt w.params K mg A) : aw P w K mg base CX0 1 A.yn A.o8 ["need","ayes","noes"] MR:=by
  refine T.vf.ok GG (fun vs H Q E h=>?_) (fun cdv A' outer s H vs Q E hr h=>?_)
  · obtain ⟨n,a,b,rfl,_⟩:=h
    rfl
  · obtain ⟨n,a,b,rfl,q⟩:=h
    refine ⟨_,(ao (bU (aI IL (pv 1) (pv 2) (aT _))
  (aj (aG qt))
  aJ)
  (aj (aG (VT (mR cf (pv 0) au (aT _)) (Ga (mR V2 (pv 1) (cg Gf ak (pv 2)) (aT _))))))),?_⟩
    refine ⟨_,rfl,_,rfl,_,_,rfl,rfl,_,rfl,n5 (fun e=>?_) (fun e=>?_)⟩
    · have e' : a ≤ b:=of_decide_eq_true e
      rw [sJ,if_pos e'] at q
      exact q
    · have e' : ¬ a ≤ b:=fun z=>e (decide_eq_true z)
      rw [sJ,if_neg e'] at q
      refine ⟨_,rfl,rfl,_,rfl,n5 (fun e2=>?_) (fun e2=>?_)⟩
      · have h2 : n = MQ:=by injection of_decide_eq_true e2
        rw [decide_eq_true h2,Bool.true_or] at q
        exact q
      · have h2 : ¬ n = MQ:=fun z=>e2 (decide_eq_true (by rw [z]))
        rw [decide_eq_false h2,Bool.false_or] at q
        exact ⟨_,rfl,_,rfl,_,_,rfl,rfl,.inl ⟨by decide,by decide⟩,_,_,rfl,rfl,q⟩
end
end My
set_option maxHeartbeats 1000000
namespace My
open PySem L2
seal PySem.wpAny
namespace R
abbrev bl1 : Str:=Str.ofString " "
abbrev em : Str:=Str.ofString ""
theorem qQ : bl1 = ⟨#[32]⟩:=by decide +kernel
theorem P8 : em = ⟨#[]⟩:=by decide +kernel
def Sign (c : Nat) : Prop:=33 ≤ c ∧ c ≤ 126 ∧ c ≠ 37
instance : DecidablePred Sign:=fun c=>by unfold Sign; exact inferInstance
structure ny (x : Str) : Prop where
  l1 : 1 ≤ x.length
  l2 : x.length ≤ 20
  sgn : ∀ c ∈ x.cps.toList,Sign c
  ns : x ≠ Str.ofString "/"
def Asc (x : Str) : Prop:=∀ c ∈ x.cps.toList,c < 128
theorem Asc.ok {x : Str} (h : Asc x) : PyData.strOk x = true:=by
  unfold PyData.strOk
  rw [Array.all_eq_true]
  intro i hi
  have:=h x.cps[i] (by simp)
  exact decide_eq_true (by omega)
theorem ny.asc {x : Str} (w : ny x) : Asc x:=fun c hc=>by have:=w.sgn c hc; unfold Sign at this; omega
theorem oB {sep : Str} (hs : Asc sep) : ∀ ws : List Str,(∀ w ∈ ws,Asc w) → Asc (Str.join sep ws)
  | [],_=>fun c hc=>by
    have : c ∈ ([] : List Nat):=hc
    cases this
  | [x],h=>h x List.mem_cons_self
  | x :: y :: r,h=>fun c hc=>by
    have hc' : c ∈ ((x ++ sep) ++ Str.join sep (y :: r)).cps.toList:=hc
    rw [iz,iz,List.mem_append,List.mem_append] at hc'
    rcases hc' with (h1 | h1) | h1
    · exact h x List.mem_cons_self c h1
    · exact hs c h1
    · exact oB hs (y :: r) (fun w hw=>h w (List.mem_cons_of_mem _ hw)) c h1
abbrev WX : List Str:=[Str.ofString "-",Str.ofString "put",Str.ofString "/a",Str.ofString "0",Str.ofString "off",Str.ofString "//",Str.ofString "matter",Str.ofString "a"]
theorem DC {x : Str} (h : decide (1 ≤ x.length ∧ x.length ≤ 20 ∧ (∀ c ∈ x.cps.toList,Sign c) ∧ x ≠ Str.ofString "/") = true) : ny x:=by
  obtain ⟨a,b,c,d⟩:=of_decide_eq_true h
  exact ⟨a,b,c,d⟩
theorem Sn : ∀ x ∈ WX,ny x:=by
  intro x hx
  simp only [List.mem_cons,List.not_mem_nil,or_false] at hx
  rcases hx with rfl | rfl | rfl | rfl | rfl | rfl | rfl | rfl <;> exact DC (by decide +kernel)
structure Clause (n : Nat) (x : Str) (ws : List Str) : Prop where
  eq : x = Str.join bl1 ws
  len : ws.length ≤ n
  wd : ∀ w ∈ ws,ny w
theorem Clause.asc {n : Nat} {x : Str} {ws : List Str} (c : Clause n x ws) : Asc x:=by
  rw [c.eq]
  exact oB (by rw [qQ]; intro d hd; have : d = 32:=(by simpa using hd); omega) ws fun w hw=>(c.wd w hw).asc
theorem DD {ws : List Str} (h : ∀ w ∈ ws,ny w) : (ws.map (·.length)).sum ≤ ws.length * 20:=StrLaws.sumLen_le ws fun w hw=>(h w hw).l2
theorem Clause.size {n : Nat} {x : Str} {ws : List Str} (c : Clause n x ws) : x.length ≤ n * 21:=by
  rw [c.eq,qQ]
  have h1:=rO 32 ws
  have h2:=DD c.wd
  have h3:=c.len
  omega
def DE : Sp:=fun vs H Q _=>∃ (c n : Int),vs = [.int c,.int n] ∧ 0 ≤ n ∧ n ≤ 1000 ∧
  ∀ (zs : List Int) (p : Addr) (H' : Hp),(zs.length : Int) = n → (∀ z ∈ zs,0 ≤ z ∧ z < 4294967311) → bQ H H' → H p = none → H' p = some (.lst (zs.map V.int)) → Q (.ref p) H'
abbrev sl1 : Str:=Str.ofString "/"
def num (i : Int) : Str:=Str.ofString (toString i)
theorem Ji {i : Int} (h0 : 0 ≤ i) (h1 : i < 10 ^ 10) : (num i).length ≤ 10:=PyProof.Rows.toString_length_le h0 (by decide) h1
theorem Jj {i : Int} (h0 : 0 ≤ i) (h1 : i < 10 ^ 10) : i.natAbs.log2 < 1920:=by
  have h : i.natAbs < 2 ^ 34:=by
    have : (10 : Int) ^ 10 ≤ 2 ^ 34:=by decide
    omega
  by_cases hz : i.natAbs = 0
  · rw [hz]; decide
  · exact Nat.lt_trans ((Nat.log2_lt hz).mpr h) (by decide)
def bZ (z : Str) : List Str:=if z = em then [] else PySem.Txt.split z bl1
theorem ny.free {x : Str} (w : ny x) : 32 ∉ x.cps.toList:=fun z=>by have:=w.sgn _ z; unfold Sign at this; omega
theorem lh {ws : List Str} (h : ∀ w ∈ ws,ny w) : bZ (Str.join bl1 ws) = ws:=by
  cases ws with
  | nil=>exact if_pos (by rw [P8]; rfl)
  | cons x r =>
    have l:=Ae (c:=32) (List.cons_ne_nil x r) fun w hw=>(h w hw).l1
    have ne : ¬ Str.join bl1 (x :: r) = em:=fun e=>by
      rw [qQ] at e
      rw [e,P8] at l
      exact absurd l (by decide)
    unfold bZ
    rw [if_neg ne,qQ]
    exact Gx (List.cons_ne_nil x r) fun w hw=>(h w hw).free
inductive dz where
  | mat (cs : List (List Str))
  | ed (m : Bool) (k : Nat) (i : Int) (ws : List Str)
  | pt (ws : List Str)
  | nums (kd : Str) (ns : List Int)
def kEd (m : Bool) : Str:=if m then Str.ofString "mend" else Str.ofString "change"
def kn : Nat → Str
  | 0=>Str.ofString "put"
  | 1=>Str.ofString "cut"
  | _=>Str.ofString "turn"
def edR (k : Nat) (i : Int) (x : Str) : List V:=if k = 1 then [.str (kn 1),.int i] else [.str (kn k),.int i,.str x]
def i4 : List (Str × Nat):=[(Str.ofString "put off",1),(Str.ofString "vote",2),(Str.ofString "take",1),(Str.ofString "close",0),(Str.ofString "lay",0),(Str.ofString "rest",0),(Str.ofString "drop",0)]
structure qg (n : Nat) (ws : List Str) : Prop where
  len : ws.length ≤ n
  wd : ∀ w ∈ ws,ny w
def DOk : dz → Prop
  | .mat cs=>cs.length ≤ 12 ∧ ∀ ws ∈ cs,qg 12 ws
  | .ed m k i ws=>(k = 0 ∨ k = 1 ∨ k = 2) ∧ (0 ≤ i ∧ i < 10 ^ 10) ∧ qg 12 ws ∧ (m = true → ws.length = 1)
  | .pt ws=>qg 12 ws
  | .nums kd ns=>(kd,ns.length) ∈ i4 ∧ ∀ i ∈ ns,0 ≤ i ∧ i < 10 ^ 10
def qR (K : PySem.W.Frag) (H : Hp) : dz → Addr → Prop
  | .mat cs,t=>∃ L,SqT K H t [.str (Str.ofString "matter"),.ref L] ∧ SqL K H L ((cs.map (Str.join bl1)).map V.str)
  | .ed m k i ws,t=>∃ e,SqT K H t [.str (kEd m),.ref e] ∧ SqT K H e (edR k i (Str.join bl1 ws))
  | .pt ws,t=>SqT K H t [.str (Str.ofString "point"),.str (Str.join bl1 ws)]
  | .nums kd ns,t=>SqT K H t (.str kd :: ns.map V.int)
theorem qR.same {K : PySem.W.Frag} {H H' : Hp} (s : bQ H H') : ∀ {d : dz} {t : Addr},qR K H d t → qR K H' d t
  | .mat _,_,⟨L,a,b⟩=>⟨L,d8 s a,s.seq b⟩
  | .ed _ _ _ _,_,⟨e,a,b⟩=>⟨e,d8 s a,d8 s b⟩
  | .pt _,_,a=>d8 s a
  | .nums _ _,_,a=>d8 s a
def m8 : dz → Str
  | .mat _=>Str.ofString "matter"
  | .ed m _ _ _=>kEd m
  | .pt _=>Str.ofString "point"
  | .nums kd _=>kd
def i5 : dz → List Str
  | .mat cs=>cs.flatMap fun ws=>sl1 :: ws
  | .ed _ k i ws=>kn k :: num i :: (if k = 1 then [] else ws)
  | .pt ws=>ws
  | .nums _ ns=>ns.map num
def tf (d : dz) : Str:=Str.join bl1 (m8 d :: i5 d)
theorem So (k : Nat) : (kn k).length ≤ 4:=by
  unfold kn
  split <;> decide +kernel
theorem OX (m : Bool) : (kEd m).length ≤ 6:=by cases m <;> decide +kernel
theorem kd_len {kd : Str} {n : Nat} (h : (kd,n) ∈ i4) : kd.length ≤ 7 ∧ n ≤ 2:=by
  simp only [i4,List.mem_cons,List.not_mem_nil,or_false,Prod.mk.injEq] at h
  rcases h with ⟨rfl,rfl⟩ | ⟨rfl,rfl⟩ | ⟨rfl,rfl⟩ | ⟨rfl,rfl⟩ | ⟨rfl,rfl⟩ | ⟨rfl,rfl⟩ | ⟨rfl,rfl⟩ <;> decide +kernel
theorem Be {d : dz} (o : DOk d) : (i5 d).length ≤ 200 ∧ (∀ w ∈ i5 d,w.length ≤ 20) ∧ (m8 d).length ≤ 20:=by
  cases d with
  | mat cs =>
    obtain ⟨o1,o2⟩:=o
    refine ⟨?_,fun w hw=>?_,by show (Str.ofString "matter").length ≤ 20; decide +kernel⟩
    · show (cs.flatMap fun ws=>sl1 :: ws).length ≤ 200
      have : ∀ l : List (List Str),(∀ ws ∈ l,qg 12 ws) → (l.flatMap fun ws=>sl1 :: ws).length ≤ l.length * 13:=fun l=>by
        induction l with
        | nil=>intro _; exact Nat.le_refl _
        | cons x l ih =>
          intro h
          have h1:=(h x List.mem_cons_self).len
          have h2:=ih fun w hw=>h w (List.mem_cons_of_mem _ hw)
          rw [List.flatMap_cons,List.length_append,List.length_cons,List.length_cons]
          omega
      have:=this cs o2
      omega
    · obtain ⟨ws,h1,h2⟩:=List.mem_flatMap.mp hw
      rcases List.mem_cons.mp h2 with rfl | h2
      · decide +kernel
      · exact ((o2 ws h1).wd w h2).l2
  | ed m k i ws =>
    obtain ⟨o1,⟨i0,i1⟩,o3,_⟩:=o
    have l:=o3.len
    refine ⟨?_,fun w hw=>?_,?_⟩
    · show (kn k :: num i :: (if k = 1 then [] else ws)).length ≤ 200
      split <;> simp <;> omega
    · have hw' : w ∈ kn k :: num i :: (if k = 1 then [] else ws):=hw
      rcases List.mem_cons.mp hw' with rfl | hw'
      · have:=So k; omega
      · rcases List.mem_cons.mp hw' with rfl | hw'
        · have:=Ji i0 i1; omega
        · split at hw'
          · cases hw'
          · exact (o3.wd w hw').l2
    · have:=OX m
      show (kEd m).length ≤ 20
      omega
  | pt ws=>exact ⟨by have:=o.len; show ws.length ≤ 200; omega,fun w hw=>(o.wd w hw).l2,by show (Str.ofString "point").length ≤ 20; decide +kernel⟩
  | nums kd ns =>
    obtain ⟨o1,o2⟩:=o
    have:=kd_len o1
    refine ⟨by show (ns.map num).length ≤ 200; rw [List.length_map]; omega,fun w hw=>?_,by show kd.length ≤ 20; omega⟩
    obtain ⟨i,hi,rfl⟩:=List.mem_map.mp hw
    have:=Ji (o2 i hi).1 (o2 i hi).2
    omega
def lC : Sp:=fun vs H Q _=>∃ z,vs = [.str z] ∧ z.length + 2 ≤ sizeLine ∧ ∀ p,H p = none → Q (.ref p) (upd H p (.lst ((bZ z).map V.str)))
def tj (K : PySem.W.Frag) : Sp:=fun vs H Q _=>∃ a ws,vs = [.ref a] ∧ SqL K H a (ws.map V.str) ∧ (ws.map (·.length)).sum + ws.length ≤ 16777216 ∧ Q (.str (Str.join bl1 ws)) H
def MS (K : PySem.W.Frag) : Sp:=fun vs H Q _=>∃ (L : Addr) (cs : List (List Str)),vs = [.ref L] ∧ SqL K H L ((cs.map (Str.join bl1)).map V.str) ∧ DOk (.mat cs) ∧ ∀ p H',bQ H H' → H p = none → H' p = some (.lst ((i5 (.mat cs)).map V.str)) → Q (.ref p) H'
def Jk (K : PySem.W.Frag) : Sp:=fun vs H Q _=>∃ (t : Addr) (m : Bool) (k : Nat) (i : Int) (ws : List Str),vs = [.ref t] ∧ SqT K H t (edR k i (Str.join bl1 ws)) ∧ DOk (.ed m k i ws) ∧ ∀ p H',bQ H H' → H p = none → H' p = some (.lst ((i5 (.ed m k i ws)).map V.str)) → Q (.ref p) H'
def DF (K : PySem.W.Frag) : Sp:=fun vs H Q _=>∃ (t : Addr) (d : dz),vs = [.ref t] ∧ qR K H d t ∧ DOk d ∧ ∀ p H',bQ H H' → H p = none → H' p = some (.lst ((i5 d).map V.str)) → Q (.ref p) H'
def Cy (K : PySem.W.Frag) : Sp:=fun vs H Q _=>∃ (t : Addr) (d : dz),vs = [.ref t] ∧ qR K H d t ∧ DOk d ∧ ∀ H',bQ H H' → Q (.str (tf d)) H'
theorem zp {k : Nat} (h : k = 0 ∨ k = 1 ∨ k = 2) : (V.str (kn k) = V.str (Str.ofString "cut")) ↔ k = 1:=by
  rcases h with rfl | rfl | rfl <;> decide +kernel
theorem Jl (k : Nat) (i : Int) (x : Str) : atI (edR k i x) 0 = some (.str (kn k)):=by
  unfold edR
  split
  · rename_i h; rw [h]; rfl
  · rfl
theorem OY (k : Nat) (i : Int) (x : Str) : atI (edR k i x) 1 = some (.int i):=by
  unfold edR
  split <;> rfl
theorem OZ {k : Nat} (h : k ≠ 1) (i : Int) (x : Str) : atI (edR k i x) 2 = some (.str x):=by
  unfold edR
  rw [if_neg h]; rfl
theorem tq {ws : List Str} (o : qg 12 ws) : (Str.join bl1 ws).length ≤ 300:=by
  have h1:=rO 32 ws
  have h2:=DD o.wd
  have h3:=o.len
  rw [qQ]
  omega
theorem WY {kd : Str} {n : Nat} (h : (kd,n) ∈ i4) : V.str kd ≠ V.str (Str.ofString "matter") ∧ V.str kd ≠ V.str (Str.ofString "change") ∧ V.str kd ≠ V.str (Str.ofString "mend") ∧ V.str kd ≠ V.str (Str.ofString "point"):=by
  simp only [i4,List.mem_cons,List.not_mem_nil,or_false,Prod.mk.injEq] at h
  rcases h with ⟨rfl,rfl⟩ | ⟨rfl,rfl⟩ | ⟨rfl,rfl⟩ | ⟨rfl,rfl⟩ | ⟨rfl,rfl⟩ | ⟨rfl,rfl⟩ | ⟨rfl,rfl⟩ <;> decide +kernel
section
variable {K : PySem.W.Frag}
theorem qR.at0 {H : Hp} {d : dz} {t : Addr} (h : qR K H d t) : ∃ xs,SqT K H t xs ∧ atI xs 0 = some (.str (m8 d)):=by
  cases d with
  | mat cs=>obtain ⟨L,a,b⟩:=h; exact ⟨_,a,rfl⟩
  | ed m k i ws=>obtain ⟨e,a,b⟩:=h; exact ⟨_,a,rfl⟩
  | pt ws=>exact ⟨_,h,rfl⟩
  | nums kd ns=>exact ⟨_,h,oY (j:=0) rfl⟩
end
section
variable {P : Program} {w : World} {K : PySem.W.Frag} {mg : Str → Option Value} {base : Heap} {A : Adr}
theorem uy (T : Txt w.params K mg A) : aw P w K mg base CX0 1 A.oq A.iU ["words"] (tj K):=by
  refine T.mZ.ok B4 (fun vs H Q E h=>?_) (fun cdv A' outer s H vs Q E hr h=>?_)
  · obtain ⟨a,ws,rfl,_⟩:=h
    rfl
  · obtain ⟨a,ws,rfl,hq,hz,k⟩:=h
    refine ⟨_,(aj (aG (lH PySem.F.plainAttrs_str PySem.F.slot_str_join PySem.F.type_str_join IU au (aa (pv 0) ah)))),?_⟩
    exact ⟨rfl,_,rfl,bl1,a,ws,rfl,rfl,hq,by rw [qQ]; show _ + ws.length * 1 ≤ _; omega,k⟩
end
section
variable {P : Program} {w : World} {K : PySem.W.Frag} {mg : Str → Option Value} {base : Heap} {A : Adr}
theorem jW (T : Txt w.params K mg A) : aw P w K mg base CX0 1 A.words_of A.e9 ["clause"] lC:=by
  refine T.iA.ok Dm (fun vs H Q E h=>?_) (fun cdv A' outer s H vs Q E hr h=>?_)
  · obtain ⟨z,rfl,_⟩:=h
    rfl
  · obtain ⟨z,rfl,hz,k⟩:=h
    refine ⟨_,(ao (bU (aI cf (pv 0) au (aT _))
  (aj (aG (eB ah)))
  aJ)
  (aj (aG (lH PySem.F.plainAttrs_str PySem.F.slot_str_split PySem.F.type_str_split LJ (pv 0) (aa au ah))))),?_⟩
    refine ⟨_,rfl,rfl,_,rfl,n5 (fun e=>?_) (fun e=>?_)⟩
    · have e' : z = em:=by injection of_decide_eq_true e
      refine ⟨Nat.zero_le _,fun p hp=>?_⟩
      have:=k p hp
      rw [bZ,if_pos e'] at this
      exact this
    · have e' : ¬ z = em:=fun q=>e (decide_eq_true (by rw [q]))
      refine ⟨_,rfl,rfl,z,bl1,rfl,rfl,by rw [qQ]; rfl,hz,fun p hp=>?_⟩
      have:=k p hp
      rw [bZ,if_neg e'] at this
      exact this
theorem vv (T : Txt w.params K mg A) : aw P w K mg base CX0 2 A.jI A.g8 ["text"] (MS K):=by
  have fv : aw P w K mg base CX0 1 A.words_of A.e9 ["clause"] lC:=jW T
  refine T.kA.ok jk (fun vs H Q E h=>?_) (fun cdv A' outer s H vs Q E hr h=>?_)
  · obtain ⟨L,cs,rfl,_⟩:=h
    rfl
  · obtain ⟨L,cs,rfl,hL,o,k⟩:=h
    have ez:=hr
    refine ⟨_,(ao (bA (i:=1) jk.nd rfl (Or.inl rfl) (eB ah))
  (ao (Ge PassesOwn.never rfl (rL (pv 0)) (BA (i:=2) jk.nd rfl (Or.inl rfl))
  (ao (cI (lH PySem.F.plainAttrs_list PySem.F.slot_list_append PySem.F.type_list_append gR (pv 1) (aa au ah)))
  (aj (cI (lH PySem.F.plainAttrs_list PySem.F.slot_list_extend PySem.F.type_list_extend AO (pv 1) (aa (bK fv ez rfl T.jr T.iA.kp T.jq .nil bh (aa (pv 2) ah)) ah))))))
  (aj (aG (pv 1))))),?_⟩
    have lim : sizeLine = 16777216:=by decide
    refine ⟨Nat.zero_le _,fun W hW=>?_⟩
    refine ⟨_,rfl,L,rfl,⟨_,(aH hW).seq hL⟩,?_⟩
    refine CW (K:=K) (a:=L) (xs:=(cs.map (Str.join bl1)).map V.str) (fun i σ H2=>∃ v2 : Option V,σ = [some (.ref L),some (.ref W),v2] ∧ bQ H H2 ∧ H2 W = some (.lst ((i5 (.mat (cs.take i))).map V.str)))
      ⟨_,rfl,aH hW,ae⟩ (fun i σ H2 _ ⟨_,_,s2,_⟩=>s2.seq hL) ?_ ?_
    · rintro i y σ H2 hi ⟨v2,rfl,s2,h2⟩
      rw [List.getElem?_map,List.getElem?_map] at hi
      cases hc : cs[i]? with
      | none=>rw [hc] at hi; cases hi
      | some ws =>
        rw [hc] at hi
        obtain rfl : V.str (Str.join bl1 ws) = y:=Option.some.inj hi
        have ow:=o.2 ws (List.mem_of_getElem? hc)
        have hcl:=tq ow
        have hil : i < cs.length:=(List.getElem?_eq_some_iff.mp hc).1
        have hb : (i5 (.mat (cs.take i))).length ≤ 200:=(Be (d:=.mat (cs.take i)) ⟨by rw [List.length_take]; have:=o.1; omega,fun ws hw=>o.2 ws (List.mem_of_mem_take hw)⟩).1
        refine ⟨_,rfl,.inl ⟨rfl,_,SqL.of h2⟩,W,_,_,rfl,rfl,h2,(by rw [List.length_map]; omega),?_⟩
        refine ⟨_,rfl,.inl ⟨rfl,_,SqL.of ae⟩,_,rfl,_,rfl,by omega,fun p hp=>?_⟩
        rw [lh ow.wd]
        have nWp : W ≠ p:=aV ae hp
        have wl:=ow.len
        refine ⟨W,p,_,_,rfl,rfl,(aq nWp).trans ae,ae,(by rw [List.length_append,List.length_map,List.length_map]; show _ + 1 + _ ≤ _; omega),?_⟩
        refine ⟨_,rfl,((s2.own hW).new hp).own hW,?_⟩
        rw [ae,List.take_succ,hc]
        show some (HO.lst _) = some (HO.lst (((cs.take i ++ [ws]).flatMap fun ws=>sl1 :: ws).map V.str))
        rw [List.flatMap_append]
        simp [i5]
    · rintro σ H2 ⟨v2,rfl,s2,h2⟩
      rw [List.length_map,List.length_map,List.take_length] at h2
      exact ⟨_,rfl,k W H2 s2 hW h2⟩
theorem vw (T : Txt w.params K mg A) : aw P w K mg base CX0 2 A.jJ A.g9 ["edit"] (Jk K):=by
  have fv : aw P w K mg base CX0 1 A.words_of A.e9 ["clause"] lC:=jW T
  refine T.kB.ok oh (fun vs H Q E h=>?_) (fun cdv A' outer s H vs Q E hr h=>?_)
  · obtain ⟨t,m,k,i,ws,rfl,_⟩:=h
    rfl
  · obtain ⟨t,m,k,i,ws,rfl,ht,⟨o1,⟨i0,i1⟩,o3,_⟩,q⟩:=h
    have ez:=hr
    refine ⟨_,(ao (bA (i:=1) oh.nd rfl (Or.inl rfl) (eB (aa (aS aY (pv 0) ak (fun _ _=>rfl)) (aa (fN tX (by rfl) T.Dw BJ (aa (aS aY (pv 0) ak (fun _ _=>rfl)) ah)) ah))))
  (ao (bU (aI Lu (aS aY (pv 0) ak (fun _ _=>rfl)) au (aT _))
  (aj (cI (lH PySem.F.plainAttrs_list PySem.F.slot_list_extend PySem.F.type_list_extend AO (pv 1) (aa (bK fv ez rfl T.jr T.iA.kp T.jq .nil bh (aa (aS aY (pv 0) ak (fun _ _=>rfl)) ah)) ah))))
  aJ)
  (aj (aG (pv 1))))),?_⟩
    have lim : sizeLine = 16777216:=by decide
    refine ⟨_,rfl,t,_,_,_,rfl,rfl,ht,Jl k i _,_,rfl,t,_,_,_,rfl,rfl,ht,OY k i _,_,rfl,Jj i0 i1,(by show 2 ≤ sizeLine; decide),fun W hW=>?_⟩
    have s1 : bQ H (upd H W (.lst [V.str (kn k),V.str (num i)])):=aH hW
    have hcl:=tq o3
    refine ⟨_,rfl,t,_,_,_,rfl,rfl,d8 s1 ht,Jl k i _,rfl,_,rfl,?_⟩
    by_cases hk : k = 1
    · rw [decide_eq_true ((zp o1).mpr hk)]
      refine eD ⟨_,rfl,q W _ s1 hW ?_⟩
      show (upd H W (.lst [V.str (kn k),V.str (num i)])) W = some (.lst ((kn k :: num i :: (if k = 1 then [] else ws)).map V.str))
      rw [ae,if_pos hk]; rfl
    · rw [decide_eq_false fun z=>hk ((zp o1).mp z)]
      refine jO ⟨_,rfl,.inl ⟨rfl,_,SqL.of ae⟩,_,rfl,t,_,_,_,rfl,rfl,d8 s1 ht,OZ hk i _,_,rfl,by omega,fun p hp=>?_⟩
      rw [lh o3.wd]
      have nWp : W ≠ p:=aV ae hp
      have wl:=o3.len
      refine ⟨W,p,_,_,rfl,rfl,(aq nWp).trans ae,ae,(by rw [List.length_map]; show 2 + _ ≤ _; omega),_,rfl,q W _ ((s1.new hp).own hW) hW ?_⟩
      show (upd (upd (upd H W (.lst [V.str (kn k),V.str (num i)])) p (.lst (ws.map V.str))) W (.lst ([V.str (kn k),V.str (num i)] ++ ws.map V.str))) W = some (.lst ((kn k :: num i :: (if k = 1 then [] else ws)).map V.str))
      rw [ae,if_neg hk]; rfl
theorem wX (T : Txt w.params K mg A) : aw P w K mg base CX0 3 A.kW A.iw ["deed"] (DF K):=by
  have fv : aw P w K mg base CX0 2 A.words_of A.e9 ["clause"] lC:=(jW T).mono (by decide)
  have wY : aw P w K mg base CX0 2 A.jI A.g8 ["text"] (MS K):=vv T
  have wZ : aw P w K mg base CX0 2 A.jJ A.g9 ["edit"] (Jk K):=vw T
  refine T.lT.ok pT (fun vs H Q E h=>?_) (fun cdv A' outer s H vs Q E hr h=>?_)
  · obtain ⟨t,d,rfl,_⟩:=h
    rfl
  · obtain ⟨t,d,rfl,hd,o,q⟩:=h
    have ez:=hr
    have vx:=hr
    have vy:=hr
    refine ⟨_,(ao (bA (i:=1) pT.nd rfl (Or.inl rfl) (aS aY (pv 0) ak (fun _ _=>rfl)))
  (ao (bU (aI cf (pv 1) au (aT _))
  (aj (aG (bK wY vx rfl T.pX T.kA.kp T.pW .nil bh (aa (aS aY (pv 0) ak (fun _ _=>rfl)) ah))))
  aJ)
  (ao (bU (PW.pt (pw_or (aI cf (pv 1) au (aT _)) (pw_or1 (aI cf (pv 1) au (aT _)))))
  (aj (aG (bK wZ vy rfl T.pZ T.kB.kp T.pY .nil bh (aa (aS aY (pv 0) ak (fun _ _=>rfl)) ah))))
  aJ)
  (ao (bU (aI cf (pv 1) au (aT _))
  (aj (aG (bK fv ez rfl T.jr T.iA.kp T.jq .nil bh (aa (aS aY (pv 0) ak (fun _ _=>rfl)) ah))))
  aJ)
  (aj (aG (t8 (scope:=lO) ue rfl (Rj (qw Rv (pv 0) (rN ak) yg)) (fun _ _ _ _ _=>(fN tX (by rfl) T.Dw BJ (aa (pv 0) ah)))))))))),?_⟩
    have lim : sizeLine = 16777216:=by decide
    cases d with
    | mat cs =>
      obtain ⟨L,ht,hL⟩:=hd
      refine ⟨_,rfl,t,_,_,_,rfl,rfl,ht,rfl,?_⟩
      refine ⟨_,rfl,rfl,_,rfl,dj (decide_eq_true rfl) ?_⟩
      exact ⟨_,rfl,t,_,_,_,rfl,rfl,ht,rfl,L,cs,rfl,hL,o,q⟩
    | ed m k i ws =>
      obtain ⟨e,ht,he⟩:=hd
      refine ⟨_,rfl,t,_,_,_,rfl,rfl,ht,rfl,?_⟩
      refine ⟨_,rfl,rfl,_,rfl,aN (decide_eq_false (by cases m <;> decide +kernel)) ?_⟩
      cases m with
      | false =>
        refine ⟨_,rfl,rfl,_,rfl,dj (decide_eq_true rfl) ?_⟩
        exact ⟨_,rfl,t,_,_,_,rfl,rfl,ht,rfl,e,false,k,i,ws,rfl,he,o,q⟩
      | true =>
        refine ⟨_,rfl,rfl,_,rfl,aN (decide_eq_false (by decide +kernel)) ?_⟩
        refine ⟨_,rfl,rfl,_,rfl,dj (decide_eq_true rfl) ?_⟩
        exact ⟨_,rfl,t,_,_,_,rfl,rfl,ht,rfl,e,true,k,i,ws,rfl,he,o,q⟩
    | pt ws =>
      have ht:=hd
      refine ⟨_,rfl,t,_,_,_,rfl,rfl,ht,rfl,?_⟩
      refine ⟨_,rfl,rfl,_,rfl,aN (decide_eq_false (by decide +kernel)) ?_⟩
      refine ⟨_,rfl,rfl,_,rfl,aN (decide_eq_false (by decide +kernel)) ?_⟩
      refine ⟨_,rfl,rfl,_,rfl,aN (decide_eq_false (by decide +kernel)) ?_⟩
      refine ⟨_,rfl,rfl,_,rfl,dj (decide_eq_true rfl) ?_⟩
      have hcl:=tq o
      refine ⟨_,rfl,t,_,_,_,rfl,rfl,ht,rfl,_,rfl,by omega,fun p hp=>q p _ (aH hp) hp ?_⟩
      rw [ae,lh o.wd]; rfl
    | nums kd ns =>
      have ht:=hd
      obtain ⟨o1,o2⟩:=o
      obtain ⟨n1,n2,n3,n4⟩:=WY o1
      have kl:=(kd_len o1).2
      refine ⟨_,rfl,t,_,_,_,rfl,rfl,ht,oY (j:=0) rfl,?_⟩
      refine ⟨_,rfl,rfl,_,rfl,aN (decide_eq_false n1) ?_⟩
      refine ⟨_,rfl,rfl,_,rfl,aN (decide_eq_false n2) ?_⟩
      refine ⟨_,rfl,rfl,_,rfl,aN (decide_eq_false n3) ?_⟩
      refine ⟨_,rfl,rfl,_,rfl,aN (decide_eq_false n4) ?_⟩
      refine ⟨_,rfl,_,rfl,t,_,rfl,ht,fun z=>?_,fun p hp=>?_⟩
      · have z1:=z.1
        rw [show (1 : Int) = ((1 : Nat) : Int) from rfl,HT.tZ,List.length_cons] at z1
        omega
      · rw [show (1 : Int) = ((1 : Nat) : Int) from rfl,C6]
        show _
        have hs1 : bQ H (upd H p (.tup (ns.map V.int))):=aH hp
        have hpp : (upd H p (.tup (ns.map V.int))) p = some (.tup (ns.map V.int)):=ae
        refine ⟨p,rfl,⟨_,SqT.of hpp⟩,fun D hD=>?_⟩
        have npD : p ≠ D:=aV hpp hD
        refine L4 (K:=K) (a:=p) (xs:=ns.map V.int) (fun i ys H3=>ys = (ns.take i).map (fun n=>V.str (num n)) ∧ H3 = upd (upd H p (.tup (ns.map V.int))) D (.lst ys)) ⟨rfl,rfl⟩ (by rw [List.length_map]; omega) ?_ ?_ ?_
        · rintro i ys H3 hi ⟨rfl,rfl⟩
          rw [List.length_map] at hi
          exact ⟨SqT.of ((aq npD).trans hpp),ae,by rw [List.length_map,List.length_take]; omega⟩
        · rintro i y ys H3 hi ⟨rfl,rfl⟩
          rw [List.getElem?_map] at hi
          cases hc : ns[i]? with
          | none=>rw [hc] at hi; cases hi
          | some n =>
            rw [hc] at hi
            obtain rfl : V.int n = y:=Option.some.inj hi
            obtain ⟨b0,b1⟩:=o2 n (List.mem_of_getElem? hc)
            refine ⟨_,rfl,_,rfl,Jj b0 b1,?_⟩
            refine gz.mk (by rw [List.length_map]; exact (List.getElem?_eq_some_iff.mp hc).1) ae ⟨?_,by rw [mQ]⟩
            rw [List.take_succ,hc,List.map_append]; rfl
        · rintro ys H3 ⟨rfl,rfl⟩
          rw [List.length_map,List.take_length]
          refine q D _ (hs1.new hD) (hs1.free hD) ?_
          rw [ae]
          show some (HO.lst _) = some (HO.lst ((ns.map num).map V.str))
          rw [List.map_map]; rfl
theorem pF (T : Txt w.params K mg A) : aw P w K mg base CX0 4 A.lB A.hG ["deed"] (Cy K):=by
  have qS : aw P w K mg base CX0 3 A.oq A.iU ["words"] (tj K):=(uy T).mono (by decide)
  have zx : aw P w K mg base CX0 3 A.kW A.iw ["deed"] (DF K):=wX T
  refine T.jU.ok B5 (fun vs H Q E h=>?_) (fun cdv A' outer s H vs Q E hr h=>?_)
  · obtain ⟨t,d,rfl,_⟩:=h
    rfl
  · obtain ⟨t,d,rfl,hd,o,q⟩:=h
    have pG:=hr
    have w4:=hr
    refine ⟨_,(aj (aG (bK qS pG rfl T.qJ T.mZ.kp T.qI .nil bh (aa (cg BK (eB (aa (aS aY (pv 0) ak (fun _ _=>rfl)) ah)) (bK zx w4 rfl T.qL T.lT.kp T.qK .nil bh (aa (pv 0) ah))) ah)))),?_⟩
    have lim : sizeLine = 16777216:=by decide
    obtain ⟨b1,b2,b3⟩:=Be o
    obtain ⟨xs,hx,hx0⟩:=hd.at0
    refine ⟨_,rfl,t,_,_,_,rfl,rfl,hx,hx0,(by show 1 ≤ sizeLine; decide),fun p hp=>?_⟩
    refine ⟨_,rfl,t,d,rfl,hd.same (aH hp),o,fun p2 H2 s2 hn2 h2=>?_⟩
    have hp2 : H2 p = some (.lst [V.str (m8 d)]):=s2 _ _ ae
    refine ⟨p,p2,_,_,rfl,rfl,hp2,h2,(by rw [List.length_map]; show 1 + _ ≤ _; omega),fun p3 hp3=>?_⟩
    refine ⟨p3,m8 d :: i5 d,rfl,SqL.of (by rw [ae]; rfl),?_,q _ (((aH hp).trans s2).new hp3)⟩
    have:=StrLaws.sumLen_le (B:=20) (m8 d :: i5 d) (fun w hw=>by
      rcases List.mem_cons.mp hw with rfl | hw
      · exact b3
      · exact b2 w hw)
    rw [List.length_cons] at this ⊢
    omega
end
end R
end My
set_option maxHeartbeats 1000000
namespace My
open PySem L2
seal PySem.wpAny
inductive Rl where
  | ob | made | aC | aO | decided | firsts | kept | rows
  | l9 (n : Nat) | qT (n : Nat) | md (n : Nat)
abbrev Col:=Addr → Option (Nat × Rl)
def hU (i : Nat) (x : Option (Nat × Rl)) : Prop:=∃ r,x = some (i,r)
theorem tw {i j : Nat} (n : i ≠ j) (r : Rl) : ¬ hU j (some (i,r)):=fun ⟨_,e⟩=>by cases e; exact n rfl
theorem a6 {i : Nat} : ¬ hU i none:=fun ⟨_,e⟩=>by cases e
structure Step (W : Option (Nat × Rl) → Prop) (c c' : Col) (H H' : Hp) : Prop where
  nn : ¬ W none
  keep : ∀ a v,H a = some v → ¬ W (c a) → H' a = some v
  there : ∀ a v,H a = some v → ∃ v',H' a = some v'
  col : ∀ a v,H a = some v → ¬ W (c a) → c' a = c a
section
variable {W W' : Option (Nat × Rl) → Prop} {c c1 c2 : Col} {H H' H1 H2 : Hp} {a : Addr} {o : HO}
theorem Step.refl (n : ¬ W none) : Step W c c H H:=⟨n,fun _ _ h _=>h,fun _ v h=>⟨v,h⟩,fun _ _ _ _=>rfl⟩
theorem Step.same (n : ¬ W none) (s : bQ H H') : Step W c c H H':=⟨n,fun a v h _=>s a v h,fun a v h=>⟨v,s a v h⟩,fun _ _ _ _=>rfl⟩
theorem Step.mono (f : ∀ x,W x → W' x) (n : ¬ W' none) (s : Step W c c1 H H1) : Step W' c c1 H H1 where
  nn:=n
  keep:=fun a v h m=>s.keep a v h fun z=>m (f _ z)
  there:=s.there
  col:=fun a v h m=>s.col a v h fun z=>m (f _ z)
theorem Step.trans (x : Step W c c1 H H1) (y : Step W c1 c2 H1 H2) : Step W c c2 H H2 where
  nn:=x.nn
  keep:=fun a v h n=>y.keep a v (x.keep a v h n) (by rw [x.col a v h n]; exact n)
  there:=fun a v h=>let ⟨v1,h1⟩:=x.there a v h; y.there a v1 h1
  col:=fun a v h n=>(y.col a v (x.keep a v h n) (by rw [x.col a v h n]; exact n)).trans (x.col a v h n)
theorem Step.upd (n : ¬ W none) (m : W (c a)) : Step W c c H (L2.upd H a o) where
  nn:=n
  keep:=fun b v h n=>by rw [aq (fun z=>n (by rw [z]; exact m))]; exact h
  there:=fun b v h=>by
    by_cases z : b = a
    · rw [z]; exact ⟨o,ae⟩
    · exact ⟨v,by rw [aq z]; exact h⟩
  col:=fun _ _ _ _=>rfl
def aW (c : Col) (a : Addr) (x : Option (Nat × Rl)) : Col:=fun b=>if b = a then x else c b
theorem bD {x : Option (Nat × Rl)} : aW c a x a = x:=if_pos rfl
theorem av {b : Addr} {x : Option (Nat × Rl)} (h : b ≠ a) : aW c a x b = c b:=if_neg h
theorem Step.new {x : Option (Nat × Rl)} (n : ¬ W none) (h : H a = none) : Step W c (aW c a x) H (L2.upd H a o) where
  nn:=n
  keep:=fun b v e _=>aH h b v e
  there:=fun b v e=>⟨v,aH h b v e⟩
  col:=fun b v e _=>av (fun z=>by rw [z,h] at e; cases e)
theorem Step.role {x : Option (Nat × Rl)} (n : ¬ W none) (m : W (c a)) : Step W c (aW c a x) H H where
  nn:=n
  keep:=fun _ _ h _=>h
  there:=fun _ v h=>⟨v,h⟩
  col:=fun b _ _ n=>av (fun z=>n (by rw [z]; exact m))
def hX (c : Col) (H : Hp) : Col:=fun a=>if (H a).isSome then c a else none
theorem dY (h : H a = none) : hX c H a = none:=by unfold hX; rw [h]; rfl
theorem Sq {v : HO} (h : H a = some v) : hX c H a = c a:=by unfold hX; rw [h]; rfl
theorem Step.cl (n : ¬ W none) (s : bQ H H') : Step W c (hX c H) H H':=⟨n,fun a v h _=>s a v h,fun a v h=>⟨v,s a v h⟩,fun _ _ h _=>Sq h⟩
end
def Wr (i : Nat) (p : Rl → Bool) (x : Option (Nat × Rl)) : Prop:=∃ r,x = some (i,r) ∧ p r = true
section
variable {i : Nat} {p : Rl → Bool} {r : Rl} {c c' : Col} {H H' : Hp} {a : Addr}
theorem Wr.nn : ¬ Wr i p none:=fun ⟨_,e,_⟩=>nomatch e
theorem Wr.no (h : p r = false) : ¬ Wr i p (some (i,r)):=fun ⟨_,e,z⟩=>by cases e; rw [h] at z; cases z
theorem Wr.yes (e : c a = some (i,r)) (h : p r = true) : Wr i p (c a):=⟨r,e,h⟩
theorem Step.qU (s : Step (Wr i p) c c' H H') : Step (hU i) c c' H H':=s.mono (fun _ ⟨r,e,_⟩=>⟨r,e⟩) a6
theorem tD {o : Addr} {v : HO} (h : p .ob = false) (s : Step (Wr i p) c c' H H') (h1 : c o = some (i,.ob)) (h2 : H o = some v) : c' o = some (i,.ob) ∧ H' o = some v:=by
  have hn : ¬ Wr i p (c o):=by rw [h1]; exact Wr.no h
  exact ⟨by rw [s.col o _ h2 hn]; exact h1,s.keep _ _ h2 hn⟩
end
inductive Mn where
  | mat (tx : List Str) | chg (e : Ed) | mnd (e : Ed) | off (n : Int) | cls | lay | rst | pnt (z : Str)
def Mn.k : Mn → Nat
  | .mat _=>0 | .chg _=>1 | .mnd _=>2 | .off _=>3 | .cls=>4 | .lay=>5 | .rst=>6 | .pnt _=>7
theorem Mn.k8 (m : Mn) : m.k < 8:=by cases m <;> simp only [Mn.k] <;> omega
def TupAt (c : Col) (H : Hp) (t : Addr) (xs : List V) : Prop:=c t = none ∧ Rd H t (.tup xs)
theorem TupAt.sq {K : PySem.W.Frag} {c : Col} {H : Hp} {t : Addr} {xs : List V} (h : TupAt c H t xs) : SqT K H t xs:=.inl h.2
theorem TupAt.step {W : Option (Nat × Rl) → Prop} {c c' : Col} {H H' : Hp} {t : Addr} {xs : List V} (s : Step W c c' H H') (h : TupAt c H t xs) : TupAt c' H' t xs:=by
  obtain ⟨n,h⟩:=h
  have hn : ¬ W (c t):=by rw [n]; exact s.nn
  rcases h with h | ⟨o,h⟩
  · exact ⟨by rw [s.col t _ h hn]; exact n,.inl (s.keep _ _ h hn)⟩
  · exact ⟨by rw [s.col t _ h hn]; exact n,.inr ⟨o,s.keep _ _ h hn⟩⟩
def Jm (c : Col) (H : Hp) (p : Addr) (tx : List Str) : Prop:=c p = none ∧ H p = some (.lst (tx.map V.str))
theorem Jm.step {W : Option (Nat × Rl) → Prop} {c c' : Col} {H H' : Hp} {p : Addr} {tx : List Str} (s : Step W c c' H H') (h : Jm c H p tx) : Jm c' H' p tx :=
  have hn : ¬ W (c p):=by rw [h.1]; exact s.nn
  ⟨by rw [s.col p _ h.2 hn]; exact h.1,s.keep _ _ h.2 hn⟩
def Mn.Val (c : Col) (H : Hp) : Mn → V → Prop
  | .mat tx,v=>∃ p,v = .ref p ∧ Jm c H p tx
  | .chg e,v=>∃ t,v = .ref t ∧ TupAt c H t (iY e)
  | .mnd e,v=>∃ t,v = .ref t ∧ TupAt c H t (iY e)
  | .off n,v=>v = .int n
  | .pnt z,v=>v = .str z
  | _,_=>True
theorem Mn.Val.step {W : Option (Nat × Rl) → Prop} {c c' : Col} {H H' : Hp} (s : Step W c c' H H') : ∀ {m : Mn} {v : V},m.Val c H v → m.Val c' H' v
  | .mat _,_,⟨p,e,h⟩=>⟨p,e,h.step s⟩
  | .chg _,_,⟨t,e,h⟩=>⟨t,e,h.step s⟩
  | .mnd _,_,⟨t,e,h⟩=>⟨t,e,h.step s⟩
  | .off _,_,h=>h
  | .pnt _,_,h=>h
  | .cls,_,_=>trivial
  | .lay,_,_=>trivial
  | .rst,_,_=>trivial
def mf (A : Adr) (c : Col) (H : Hp) (m : Mn) (o : Addr) : Prop:=c o = none ∧ ∃ dx v,H o = some (.ins (A.C m.k) dx (oE m.k v)) ∧ m.Val c H v
theorem mf.step {A : Adr} {W : Option (Nat × Rl) → Prop} {c c' : Col} {H H' : Hp} {m : Mn} {o : Addr} (s : Step W c c' H H') (h : mf A c H m o) : mf A c' H' m o:=by
  obtain ⟨n,dx,v,h,hv⟩:=h
  have hn : ¬ W (c o):=by rw [n]; exact s.nn
  exact ⟨by rw [s.col o _ h hn]; exact n,dx,v,s.keep _ _ h hn,hv.step s⟩
structure Ch where
  dh : Int
  a7 : Int
  closed : Bool
  made : List Mn
  aC : List Nat
  aO : List (Nat × Int × List Nat)
  decided : List (Nat × Str)
  firsts : List (Nat × List Str)
  kept : List (Nat × List Ed)
  rows : List Str
def nV (n : Nat) : V:=.int (n : Int)
def bz (xs : List (Nat × V)) : List (Key × V):=xs.map fun p=>(Sum.inl (p.1 : Int),p.2)
inductive cF {α β : Type} (R : α → β → Prop) : List α → List β → Prop
  | nil : cF R [] []
  | cons {a b as bs} : R a b → cF R as bs → cF R (a :: as) (b :: bs)
theorem cF.imp {α β : Type} {R R' : α → β → Prop} (f : ∀ a b,R a b → R' a b) : ∀ {as : List α} {bs : List β},cF R as bs → cF R' as bs
  | _,_,.nil=>.nil
  | _,_,.cons h t=>.cons (f _ _ h) (t.imp f)
def LstAt (i : Nat) (c : Col) (H : Hp) (r : Rl) (a : Addr) (xs : List V) : Prop:=c a = some (i,r) ∧ H a = some (.lst xs)
def jX (i : Nat) (c : Col) (H : Hp) (r : Rl) (a : Addr) (xs : List (Nat × V)) : Prop:=c a = some (i,r) ∧ H a = some (.dK (bz xs))
def chF (v0 v1 v2 v3 v4 v5 v6 v7 v8 v9 : V) : List (Str × V):=[(Str.ofString "seats",v0),(Str.ofString "sitting",v1),(Str.ofString "closed",v2),(Str.ofString "made",v3),(Str.ofString "pile",v4),(Str.ofString "aside",v5),(Str.ofString "decided",v6),(Str.ofString "first_texts",v7),(Str.ofString "edits_kept",v8),(Str.ofString "rows",v9)]
abbrev MT (i : Nat) (c : Col) (H : Hp) (x : Nat × Int × List Nat) (v : V) : Prop:=∃ t p,v = .ref t ∧ TupAt c H t [.int x.2.1,.ref p] ∧ LstAt i c H (.l9 x.1) p (x.2.2.map nV)
abbrev Cz (i : Nat) (c : Col) (H : Hp) (x : Nat × List Str) (v : V) : Prop:=∃ p,v = .ref p ∧ LstAt i c H (.md x.1) p (x.2.map V.str)
abbrev Jn (i : Nat) (c : Col) (H : Hp) (x : Nat × List Ed) (v : V) : Prop:=∃ p ts,v = .ref p ∧ LstAt i c H (.qT x.1) p (ts.map V.ref) ∧ cF (fun e t=>TupAt c H t (iY e)) x.2 ts
structure ChX (A : Adr) (i : Nat) (c : Col) (H : Hp) (o : Addr) (st : Ch) (dx aM aP aA aD aF aE aR : Addr) (ms ds : List Addr) (ws fs es : List V) : Prop where
  co : c o = some (i,.ob)
  ob : H o = some (.ins A.ag dx (chF (.int st.dh) (.int st.a7) (.bl st.closed) (.ref aM) (.ref aP) (.ref aA) (.ref aD) (.ref aF) (.ref aE) (.ref aR)))
  made : jX i c H .made aM ((List.range' 1 st.made.length).zip (ms.map V.ref))
  mot : cF (fun m p=>mf A c H m p) st.made ms
  aC : LstAt i c H .aC aP (st.aC.map nV)
  aO : jX i c H .aO aA ((st.aO.map (·.1)).zip ws)
  wait : cF (MT i c H) st.aO ws
  dec : LstAt i c H .decided aD (ds.map V.ref)
  w5 : cF (fun (x : Nat × Str) t=>TupAt c H t [nV x.1,.str x.2]) st.decided ds
  firsts : jX i c H .firsts aF ((st.firsts.map (·.1)).zip fs)
  first : cF (Cz i c H) st.firsts fs
  jY : jX i c H .kept aE ((st.kept.map (·.1)).zip es)
  kept : cF (Jn i c H) st.kept es
  rows : LstAt i c H .rows aR (st.rows.map V.str)
structure eZ (A : Adr) (i : Nat) (c : Col) (H : Hp) (o : Addr) (st : Ch) : Prop where
  ex : ∃ (dx aM aP aA aD aF aE aR : Addr) (ms ds : List Addr) (ws fs es : List V),ChX A i c H o st dx aM aP aA aD aF aE aR ms ds ws fs es
theorem LstAt.keep {i : Nat} {W : Option (Nat × Rl) → Prop} {c c' : Col} {H H' : Hp} {r : Rl} {a : Addr} {xs : List V} (n : ¬ W (some (i,r))) (s : Step W c c' H H') (h : LstAt i c H r a xs) : LstAt i c' H' r a xs:=by
  have hn : ¬ W (c a):=by rw [h.1]; exact n
  exact ⟨by rw [s.col a _ h.2 hn]; exact h.1,s.keep _ _ h.2 hn⟩
theorem jX.keep {i : Nat} {W : Option (Nat × Rl) → Prop} {c c' : Col} {H H' : Hp} {r : Rl} {a : Addr} {xs : List (Nat × V)} (n : ¬ W (some (i,r))) (s : Step W c c' H H') (h : jX i c H r a xs) : jX i c' H' r a xs:=by
  have hn : ¬ W (c a):=by rw [h.1]; exact n
  exact ⟨by rw [s.col a _ h.2 hn]; exact h.1,s.keep _ _ h.2 hn⟩
section
variable {A : Adr} {i : Nat} {p : Rl → Bool} {r : Rl} {c c' : Col} {H H' : Hp} {a o : Addr}
theorem LstAt.kp {xs : List V} (h : p r = false) (s : Step (Wr i p) c c' H H') (z : LstAt i c H r a xs) : LstAt i c' H' r a xs:=z.keep (Wr.no h) s
theorem jX.kp {xs : List (Nat × V)} (h : p r = false) (s : Step (Wr i p) c c' H H') (z : jX i c H r a xs) : jX i c' H' r a xs:=z.keep (Wr.no h) s
theorem cF.imp_mem {α β : Type} {R R' : α → β → Prop} : ∀ {as : List α} {bs : List β},(∀ a ∈ as,∀ b,R a b → R' a b) → cF R as bs → cF R' as bs
  | _,_,_,.nil=>.nil
  | _,_,f,.cons h t=>.cons (f _ List.mem_cons_self _ h) (t.imp_mem fun a m b=>f a (List.mem_cons_of_mem _ m) b)
theorem qV {as : List Mn} {ms : List Addr} {W : Option (Nat × Rl) → Prop} (s : Step W c c' H H') (z : cF (fun m p=>mf A c H m p) as ms) : cF (fun m p=>mf A c' H' m p) as ms:=z.imp fun _ _ y=>y.step s
theorem qW {as : List (Nat × Str)} {ds : List Addr} {W : Option (Nat × Rl) → Prop} (s : Step W c c' H H') (z : cF (fun (x : Nat × Str) t=>TupAt c H t [nV x.1,.str x.2]) as ds) : cF (fun (x : Nat × Str) t=>TupAt c' H' t [nV x.1,.str x.2]) as ds:=z.imp fun _ _ y=>y.step s
theorem sL {as : List (Nat × Int × List Nat)} {ws : List V} (h : ∀ x ∈ as,p (.l9 x.1) = false) (s : Step (Wr i p) c c' H H') (z : cF (MT i c H) as ws) : cF (MT i c' H') as ws :=
  z.imp_mem fun x m v ⟨t,q,e,z1,z2⟩=>⟨t,q,e,z1.step s,z2.kp (h x m) s⟩
theorem sM {as : List (Nat × List Str)} {ws : List V} (h : ∀ x ∈ as,p (.md x.1) = false) (s : Step (Wr i p) c c' H H') (z : cF (Cz i c H) as ws) : cF (Cz i c' H') as ws :=
  z.imp_mem fun x m v ⟨q,e,z2⟩=>⟨q,e,z2.kp (h x m) s⟩
theorem uz {as : List (Nat × List Ed)} {ws : List V} (h : ∀ x ∈ as,p (.qT x.1) = false) (s : Step (Wr i p) c c' H H') (z : cF (Jn i c H) as ws) : cF (Jn i c' H') as ws :=
  z.imp_mem fun x m v ⟨q,ts,e,z2,z3⟩=>⟨q,ts,e,z2.kp (h x m) s,z3.imp fun _ _ y=>y.step s⟩
end
theorem eZ.other {A : Adr} {i j : Nat} (n : i ≠ j) {c c' : Col} {H H' : Hp} {o : Addr} {st : Ch} (s : Step (hU j) c c' H H') (h : eZ A i c H o st) : eZ A i c' H' o st:=by
  obtain ⟨dx,aM,aP,aA,aD,aF,aE,aR,ms,ds,ws,fs,es,h1,h2,h3,h4,h5,h6,h7,h8,h9,h10,h11,h12,h13,h14⟩:=h.ex
  have no:=fun r=>tw n r
  have hn : ¬ hU j (c o):=by rw [h1]; exact no _
  refine ⟨dx,aM,aP,aA,aD,aF,aE,aR,ms,ds,ws,fs,es,by rw [s.col o _ h2 hn]; exact h1,s.keep _ _ h2 hn,h3.keep (no _) s,h4.imp fun _ _ z=>z.step s,h5.keep (no _) s,h6.keep (no _) s,h7.imp ?_,h8.keep (no _) s,h9.imp fun _ _ z=>z.step s,
    h10.keep (no _) s,h11.imp ?_,h12.keep (no _) s,h13.imp ?_,h14.keep (no _) s⟩
  · rintro x v ⟨t,p,e,z1,z2⟩
    exact ⟨t,p,e,z1.step s,z2.keep (no _) s⟩
  · rintro x v ⟨p,e,z⟩
    exact ⟨p,e,z.keep (no _) s⟩
  · rintro x v ⟨p,ts,e,z1,z2⟩
    exact ⟨p,ts,e,z1.keep (no _) s,z2.imp fun _ _ y=>y.step s⟩
end My
set_option maxHeartbeats 1000000
namespace My
open PySem L2
seal PySem.wpAny
section
variable {v0 v1 v2 v3 v4 v5 v6 v7 v8 v9 y : V}
theorem Kc : (chF v0 v1 v2 v3 v4 v5 v6 v7 v8 v9).lookup (Str.ofString "seats") = some v0:=by simp only [chF,List.lookup,show (Str.ofString "seats" == Str.ofString "seats") = true from by decide +kernel]
theorem iP : (chF v0 v1 v2 v3 v4 v5 v6 v7 v8 v9).lookup (Str.ofString "sitting") = some v1:=by simp only [chF,List.lookup,show (Str.ofString "sitting" == Str.ofString "seats") = false from by decide +kernel,show (Str.ofString "sitting" == Str.ofString "sitting") = true from by decide +kernel]
theorem tE : (chF v0 v1 v2 v3 v4 v5 v6 v7 v8 v9).lookup (Str.ofString "closed") = some v2:=by simp only [chF,List.lookup,show (Str.ofString "closed" == Str.ofString "seats") = false from by decide +kernel,show (Str.ofString "closed" == Str.ofString "sitting") = false from by decide +kernel,show (Str.ofString "closed" == Str.ofString "closed") = true from by decide +kernel]
theorem il : (chF v0 v1 v2 v3 v4 v5 v6 v7 v8 v9).lookup (Str.ofString "made") = some v3:=by simp only [chF,List.lookup,show (Str.ofString "made" == Str.ofString "seats") = false from by decide +kernel,show (Str.ofString "made" == Str.ofString "sitting") = false from by decide +kernel,show (Str.ofString "made" == Str.ofString "closed") = false from by decide +kernel,show (Str.ofString "made" == Str.ofString "made") = true from by decide +kernel]
theorem fK : (chF v0 v1 v2 v3 v4 v5 v6 v7 v8 v9).lookup (Str.ofString "pile") = some v4:=by simp only [chF,List.lookup,show (Str.ofString "pile" == Str.ofString "seats") = false from by decide +kernel,show (Str.ofString "pile" == Str.ofString "sitting") = false from by decide +kernel,show (Str.ofString "pile" == Str.ofString "closed") = false from by decide +kernel,show (Str.ofString "pile" == Str.ofString "made") = false from by decide +kernel,show (Str.ofString "pile" == Str.ofString "pile") = true from by decide +kernel]
theorem lD : (chF v0 v1 v2 v3 v4 v5 v6 v7 v8 v9).lookup (Str.ofString "aside") = some v5:=by simp only [chF,List.lookup,show (Str.ofString "aside" == Str.ofString "seats") = false from by decide +kernel,show (Str.ofString "aside" == Str.ofString "sitting") = false from by decide +kernel,show (Str.ofString "aside" == Str.ofString "closed") = false from by decide +kernel,show (Str.ofString "aside" == Str.ofString "made") = false from by decide +kernel,show (Str.ofString "aside" == Str.ofString "pile") = false from by decide +kernel,show (Str.ofString "aside" == Str.ofString "aside") = true from by decide +kernel]
theorem wC : (chF v0 v1 v2 v3 v4 v5 v6 v7 v8 v9).lookup (Str.ofString "decided") = some v6:=by simp only [chF,List.lookup,show (Str.ofString "decided" == Str.ofString "seats") = false from by decide +kernel,show (Str.ofString "decided" == Str.ofString "sitting") = false from by decide +kernel,show (Str.ofString "decided" == Str.ofString "closed") = false from by decide +kernel,show (Str.ofString "decided" == Str.ofString "made") = false from by decide +kernel,show (Str.ofString "decided" == Str.ofString "pile") = false from by decide +kernel,show (Str.ofString "decided" == Str.ofString "aside") = false from by decide +kernel,show (Str.ofString "decided" == Str.ofString "decided") = true from by decide +kernel]
theorem w6 : (chF v0 v1 v2 v3 v4 v5 v6 v7 v8 v9).lookup (Str.ofString "first_texts") = some v7:=by simp only [chF,List.lookup,show (Str.ofString "first_texts" == Str.ofString "seats") = false from by decide +kernel,show (Str.ofString "first_texts" == Str.ofString "sitting") = false from by decide +kernel,show (Str.ofString "first_texts" == Str.ofString "closed") = false from by decide +kernel,show (Str.ofString "first_texts" == Str.ofString "made") = false from by decide +kernel,show (Str.ofString "first_texts" == Str.ofString "pile") = false from by decide +kernel,show (Str.ofString "first_texts" == Str.ofString "aside") = false from by decide +kernel,show (Str.ofString "first_texts" == Str.ofString "decided") = false from by decide +kernel,show (Str.ofString "first_texts" == Str.ofString "first_texts") = true from by decide +kernel]
theorem qX : (chF v0 v1 v2 v3 v4 v5 v6 v7 v8 v9).lookup (Str.ofString "edits_kept") = some v8:=by simp only [chF,List.lookup,show (Str.ofString "edits_kept" == Str.ofString "seats") = false from by decide +kernel,show (Str.ofString "edits_kept" == Str.ofString "sitting") = false from by decide +kernel,show (Str.ofString "edits_kept" == Str.ofString "closed") = false from by decide +kernel,show (Str.ofString "edits_kept" == Str.ofString "made") = false from by decide +kernel,show (Str.ofString "edits_kept" == Str.ofString "pile") = false from by decide +kernel,show (Str.ofString "edits_kept" == Str.ofString "aside") = false from by decide +kernel,show (Str.ofString "edits_kept" == Str.ofString "decided") = false from by decide +kernel,show (Str.ofString "edits_kept" == Str.ofString "first_texts") = false from by decide +kernel,show (Str.ofString "edits_kept" == Str.ofString "edits_kept") = true from by decide +kernel]
theorem uA : (chF v0 v1 v2 v3 v4 v5 v6 v7 v8 v9).lookup (Str.ofString "rows") = some v9:=by simp only [chF,List.lookup,show (Str.ofString "rows" == Str.ofString "seats") = false from by decide +kernel,show (Str.ofString "rows" == Str.ofString "sitting") = false from by decide +kernel,show (Str.ofString "rows" == Str.ofString "closed") = false from by decide +kernel,show (Str.ofString "rows" == Str.ofString "made") = false from by decide +kernel,show (Str.ofString "rows" == Str.ofString "pile") = false from by decide +kernel,show (Str.ofString "rows" == Str.ofString "aside") = false from by decide +kernel,show (Str.ofString "rows" == Str.ofString "decided") = false from by decide +kernel,show (Str.ofString "rows" == Str.ofString "first_texts") = false from by decide +kernel,show (Str.ofString "rows" == Str.ofString "edits_kept") = false from by decide +kernel,show (Str.ofString "rows" == Str.ofString "rows") = true from by decide +kernel]
theorem DG : gw (Str.ofString "sitting") y (chF v0 v1 v2 v3 v4 v5 v6 v7 v8 v9) = chF v0 y v2 v3 v4 v5 v6 v7 v8 v9:=by
  unfold chF
  simp only [gw]
  rw [if_neg (by decide +kernel),if_pos trivial]
theorem zy : gw (Str.ofString "closed") y (chF v0 v1 v2 v3 v4 v5 v6 v7 v8 v9) = chF v0 v1 y v3 v4 v5 v6 v7 v8 v9:=by
  unfold chF
  simp only [gw]
  rw [if_neg (by decide +kernel),if_neg (by decide +kernel),if_pos trivial]
theorem DH : gw (Str.ofString "pile") y (chF v0 v1 v2 v3 v4 v5 v6 v7 v8 v9) = chF v0 v1 v2 v3 y v5 v6 v7 v8 v9:=by
  unfold chF
  simp only [gw]
  rw [if_neg (by decide +kernel),if_neg (by decide +kernel),if_neg (by decide +kernel),if_neg (by decide +kernel),if_pos trivial]
end
def vz (A : Adr) (i : Nat) : Sp:=fun vs H Q E=>∃ (o : Addr) (c : Col) (st : Ch),vs = [.ref o] ∧ eZ A i c H o st ∧ (st.aC ≠ [] → Q .non H) ∧ (st.aC = [] → E (.ref A.bF) none H)
section
variable {P : Program} {w : World} {K : PySem.W.Frag} {mg : Str → Option Value} {base : Heap} {A : Adr}
theorem mh (T : Txt w.params K mg A) {i : Nat} : aw P w K mg base (CXX P w) 1 A.aZ A.cy ["self"] (vz A i):=by
  refine T.cC.okX lN (fun vs H Q E h=>?_) (fun cdv A' outer s H vs Q E hr h=>?_)
  · obtain ⟨o,c,st,rfl,_⟩:=h
    rfl
  · obtain ⟨o,c,st,rfl,hc,q1,q2⟩:=h
    obtain ⟨dx,aM,aP,aA,aD,aF,aE,aR,ms,ds,ws,fs,es,h1,h2,h3,h4,h5,h6,h7,h8,h9,h10,h11,h12,h13,h14⟩:=hc.ex
    refine ⟨_,(bq (eM (u0 (qv (bg (pv 0) rfl) (fun _=>rfl)))
  (bq (jh T.zk rfl rfl T.vp (aa au ah)))
  (qB aJ))),?_⟩
    refine ⟨_,rfl,o,A.ag,dx,_,.ref aP,rfl,h2,T.ai,T.jq0,fK,?_⟩
    refine ⟨_,.inl ⟨_,.inl (.inl h5.2),rfl⟩,?_⟩
    cases e : st.aC with
    | nil=>exact jO ⟨by decide,q2 e⟩
    | cons x r=>exact eD (q1 (by rw [e]; exact List.cons_ne_nil _ _))
end
end My
set_option maxHeartbeats 1000000
namespace My
open PySem L2
seal PySem.wpAny
theorem cF.len {α β : Type} {R : α → β → Prop} : ∀ {as : List α} {bs : List β},cF R as bs → as.length = bs.length
  | _,_,.nil=>rfl
  | _,_,.cons _ t=>by rw [List.length_cons,List.length_cons,t.len]
theorem cF.get {α β : Type} {R : α → β → Prop} : ∀ {as : List α} {bs : List β} {i : Nat} {a : α},cF R as bs → as[i]? = some a → ∃ b,bs[i]? = some b ∧ R a b
  | _,_,_,_,.nil,h=>by simp at h
  | _,_,0,_,.cons h t,e=>by
    rw [List.getElem?_cons_zero] at e
    cases e
    exact ⟨_,List.getElem?_cons_zero,h⟩
  | _,_,i + 1,_,.cons h t,e=>by
    rw [List.getElem?_cons_succ] at e
    obtain ⟨b,e1,e2⟩:=t.get e
    exact ⟨b,by rw [List.getElem?_cons_succ]; exact e1,e2⟩
theorem zz : ∀ (ms : List Addr) (s k : Nat) {o : Addr},ms[k]? = some o → j8 (bz ((List.range' s ms.length).zip (ms.map V.ref))) (Sum.inl ((s + k : Nat) : Int)) = some (.ref o)
  | [],_,_,_,h=>by simp at h
  | m :: ms,s,0,o,h=>by
    rw [List.getElem?_cons_zero] at h
    cases h
    exact lL (p:=(Sum.inl ((s : Nat) : Int),V.ref m)) rfl
  | m :: ms,s,k + 1,o,h=>by
    rw [List.getElem?_cons_succ] at h
    have ih:=zz ms (s + 1) k h
    have e : s + (k + 1) = s + 1 + k:=by omega
    rw [e]
    refine (jP (p:=(Sum.inl ((s : Nat) : Int),V.ref m)) ?_).trans ih
    intro z
    have z' : ((s : Nat) : Int) = ((s + 1 + k : Nat) : Int):=Sum.inl.inj z
    omega
def Ch.mo (st : Ch) (n : Nat) : Mn:=st.made.getD (n - 1) .cls
def gO (st : Ch) (n : Nat) : Prop:=1 ≤ n ∧ n ≤ st.made.length
def vA (A : Adr) (i : Nat) : Sp:=fun vs H Q _=>∃ (o : Addr) (c : Col) (st : Ch),vs = [.ref o] ∧ eZ A i c H o st ∧ (∀ n ∈ st.aC,gO st n) ∧ st.aC.length ≤ 1000 ∧
  ∀ R os,H R = none → cF (fun n m=>mf A c H (st.mo n) m) st.aC os → Q (.ref R) (upd H R (.lst (os.map V.ref)))
theorem Jo {A : Adr} {c : Col} {H : Hp} {st : Ch} {ms : List Addr} (h : cF (fun m p=>mf A c H m p) st.made ms) : ∀ (ns : List Nat),(∀ n ∈ ns,gO st n) → cF (fun n m=>mf A c H (st.mo n) m) ns (ns.map fun n=>ms.getD (n - 1) 0)
  | [],_=>.nil
  | n :: ns,g=>by
    have hn:=g n List.mem_cons_self
    have hlt : n - 1 < st.made.length:=by have:=hn.1; have:=hn.2; omega
    obtain ⟨b,e1,e2⟩:=h.get (List.getElem?_eq_getElem hlt)
    refine .cons ?_ (Jo h ns fun n hn=>g n (List.mem_cons_of_mem _ hn))
    have e3 : st.mo n = st.made[n - 1]:=by unfold Ch.mo; rw [List.getD_eq_getElem?_getD,List.getElem?_eq_getElem hlt]; rfl
    have e4 : ms.getD (n - 1) 0 = b:=by rw [List.getD_eq_getElem?_getD,e1]; rfl
    show mf A c H (st.mo n) (ms.getD (n - 1) 0)
    rw [e3,e4]; exact e2
section
variable {P : Program} {w : World} {K : PySem.W.Frag} {mg : Str → Option Value} {base : Heap} {A : Adr}
theorem zA (T : Txt w.params K mg A) {i : Nat} : aw P w K mg base CX0 1 A.bP A.dQ ["self"] (vA A i):=by
  refine T.ei.ok sU (fun vs H Q E h=>?_) (fun cdv A' outer s H vs Q E hr h=>?_)
  · obtain ⟨o,c,st,rfl,_⟩:=h
    rfl
  · obtain ⟨o,c,st,rfl,hc,hp,hpl,q⟩:=h
    obtain ⟨dx,aM,aP,aA,aD,aF,aE,aR,ms,ds,ws,fs,es,h1,h2,h3,h4,h5,h6,h7,h8,h9,h10,h11,h12,h13,h14⟩:=hc.ex
    have hu1:=hr.u1
    refine ⟨_,(aj (aG (t8 (scope:=jc) qC rfl (rL (bg (pv 0) rfl)) (fun _ _ _ _ _=>(mV hu1 (OL (K:=K) rfl (pv 1) rfl) (pv 0) (fun _ _=>rfl)))))),?_⟩
    have ml:=h4.len
    refine ⟨_,rfl,o,A.ag,dx,_,.ref aP,rfl,h2,T.ai,T.jq0,fK,?_⟩
    have hB : SqL K H aP (st.aC.map nV):=SqL.of h5.2
    refine ⟨aP,rfl,⟨_,hB⟩,fun R hR=>?_⟩
    have sR : ∀ {o : HO},bQ H (upd H R o):=aH hR
    refine rP (K:=K) (a:=aP) (xs:=st.aC.map nV) (fun i ys H2=>ys = ((st.aC.take i).map fun n=>V.ref (ms.getD (n - 1) 0)) ∧ H2 = upd H R (.lst ys)) ⟨rfl,rfl⟩ (by rw [List.length_map,sizeLine_eq]; omega) ?_ ?_ ?_
    · rintro i ys H2 hi ⟨rfl,rfl⟩
      rw [List.length_map] at hi
      exact ⟨sR.seq hB,ae,by rw [List.length_map,List.length_take]; omega⟩
    · rintro i y ys H2 hy ⟨rfl,rfl⟩
      obtain ⟨n,hn1,rfl⟩ : ∃ n,st.aC[i]? = some n ∧ nV n = y:=by
        rw [List.getElem?_map] at hy
        cases ht : st.aC[i]? with
        | none=>rw [ht] at hy; cases hy
        | some t=>rw [ht] at hy; exact ⟨t,rfl,Option.some.inj hy⟩
      have hn:=hp n (List.mem_of_getElem? hn1)
      have hlt : n - 1 < ms.length:=by have:=hn.1; have:=hn.2; omega
      have hm : ms[n - 1]? = some (ms.getD (n - 1) 0):=by rw [List.getD_eq_getElem?_getD,List.getElem?_eq_getElem hlt]; rfl
      have hv:=zz ms 1 (n - 1) hm
      rw [← ml,show 1 + (n - 1) = n by have:=hn.1; omega] at hv
      refine ⟨_,rfl,o,A.ag,dx,_,.ref aM,rfl,sR _ _ h2,T.ai,T.jq2,il,?_⟩
      refine ⟨_,rfl,aM,_,rfl,.inl ⟨_,Sum.inl (n : Int),.inl (sR _ _ h3.2),rfl,hv.symm⟩,?_⟩
      refine gz.mk (List.getElem?_eq_some_iff.mp hy).1 ae ⟨?_,by rw [mQ]⟩
      rw [List.take_succ,hn1,List.map_append]; rfl
    · rintro ys H2 ⟨rfl,rfl⟩
      rw [List.length_map,List.take_length]
      have:=q R _ hR (Jo h4 st.aC hp)
      rw [List.map_map] at this
      exact this
end
end My
set_option maxHeartbeats 1000000
namespace My
open PySem L2
seal PySem.wpAny
theorem cF.snoc {α β : Type} {R : α → β → Prop} : ∀ {as : List α} {bs : List β} {a : α} {b : β},cF R as bs → R a b → cF R (as ++ [a]) (bs ++ [b])
  | _,_,_,_,.nil,h=>.cons h .nil
  | _,_,_,_,.cons g t,h=>.cons g (t.snoc h)
def zB (A : Adr) (i : Nat) : Sp:=fun vs H Q _=>∃ (o : Addr) (wd : Str) (c : Col) (st : Ch) (pre : List Nat) (n : Nat),vs = [.ref o,.str wd] ∧ eZ A i c H o st ∧ st.aC = pre ++ [n] ∧ st.aC.length ≤ 1000 ∧ st.decided.length ≤ 1000 ∧
  ∀ c' H',Step (hU i) c c' H H' → eZ A i c' H' o { st with aC:=pre,decided:=st.decided ++ [(n,wd)] } → Q .non H'
section
variable {P : Program} {w : World} {K : PySem.W.Frag} {mg : Str → Option Value} {base : Heap} {A : Adr}
theorem Bf (T : Txt w.params K mg A) {i : Nat} : aw P w K mg base CX0 1 A.bR A.ee ["self","word"] (zB A i):=by
  refine T.eU.ok ud (fun vs H Q E h=>?_) (fun cdv A' outer s H vs Q E hr h=>?_)
  · obtain ⟨o,wd,c,st,pre,n,rfl,_⟩:=h
    rfl
  · obtain ⟨o,wd,c,st,pre,n,rfl,hc,hp,hpl,hdl,q⟩:=h
    obtain ⟨dx,aM,aP,aA,aD,aF,aE,aR,ms,ds,ws,fs,es,h1,h2,h3,h4,h5,h6,h7,h8,h9,h10,h11,h12,h13,h14⟩:=hc.ex
    refine ⟨_,(aj (cI (lH PySem.F.plainAttrs_list PySem.F.slot_list_append PySem.F.type_list_append gR (bg (pv 0) rfl) (aa (cQ (aa (LC PySem.F.plainAttrs_list PySem.F.slot_list_pop PySem.F.type_list_pop RC (bg (pv 0) rfl)) (aa (pv 1) ah))) ah)))),?_⟩
    refine ⟨_,rfl,o,A.ag,dx,_,.ref aD,rfl,h2,T.ai,T.jqj,wC,?_⟩
    have hy : (st.aC.map nV)[(st.aC.map nV).length - 1]? = some (nV n):=by rw [hp]; simp
    have hdr : (st.aC.map nV).dropLast = pre.map nV:=by rw [hp,List.map_append]; simp
    have nPD : aD ≠ aP:=fun z=>by have:=h8.1; rw [z,h5.1] at this; cases this
    refine ⟨.inl ⟨rfl,_,SqL.of h8.2⟩,_,rfl,o,A.ag,dx,_,.ref aP,rfl,h2,T.ai,T.jq0,fK,?_⟩
    refine ⟨.inl ⟨rfl,_,SqL.of h5.2⟩,aP,_,_,rfl,rfl,h5.2,hy,_,rfl,(by show 2 ≤ sizeLine; decide),fun p hp0=>?_⟩
    have np : ∀ {a : Addr} {v : HO},H a = some v → a ≠ p:=by
      intro a v e z
      subst z
      by_cases y : a = aP
      · subst y; rw [ae] at hp0; cases hp0
      · rw [aq y,e] at hp0; cases hp0
    have nn : ¬ (fun x=>x = some (i,Rl.aC) ∨ x = some (i,Rl.decided)) (none : Option (Nat × Rl)):=by rintro (z | z) <;> cases z
    refine ⟨aD,_,_,rfl,rfl,(aq (np h8.2)).trans ((aq nPD).trans h8.2),?_,?_⟩
    · rw [List.length_map,← h9.len,sizeLine_eq]; omega
    have sp : Step (fun x=>x = some (i,Rl.aC) ∨ x = some (i,Rl.decided)) c (aW c p none) H (upd (upd (upd H aP (.lst (st.aC.map nV).dropLast)) p (.tup [nV n,.str wd])) aD (.lst (ds.map V.ref ++ [.ref p]))) :=
      ((Step.upd nn (.inl h5.1)).trans (Step.new nn hp0)).trans (Step.upd nn (.inr (by rw [av (np h8.2)]; exact h8.1)))
    have ht : TupAt (aW c p none) (upd (upd (upd H aP (.lst (st.aC.map nV).dropLast)) p (.tup [nV n,.str wd])) aD (.lst (ds.map V.ref ++ [.ref p]))) p [nV n,.str wd] :=
      ⟨bD,.inl ((aq (np h8.2).symm).trans ae)⟩
    have kp : LstAt i (aW c p none) (upd (upd (upd H aP (.lst (st.aC.map nV).dropLast)) p (.tup [nV n,.str wd])) aD (.lst (ds.map V.ref ++ [.ref p]))) .aC aP (pre.map nV) :=
      ⟨by rw [av (np h5.2)]; exact h5.1,by rw [aq nPD.symm,aq (np h5.2),ae,hdr]⟩
    have kd : LstAt i (aW c p none) (upd (upd (upd H aP (.lst (st.aC.map nV).dropLast)) p (.tup [nV n,.str wd])) aD (.lst (ds.map V.ref ++ [.ref p]))) .decided aD ((ds ++ [p]).map V.ref) :=
      ⟨by rw [av (np h8.2)]; exact h8.1,by rw [ae,List.map_append]; rfl⟩
    generalize upd (upd (upd H aP (.lst (st.aC.map nV).dropLast)) p (.tup [nV n,.str wd])) aD (.lst (ds.map V.ref ++ [.ref p])) = H' at sp ht kp kd ⊢
    generalize aW c p none = c' at sp ht kp kd
    have no : ∀ r,r ≠ Rl.aC → r ≠ Rl.decided → ¬ (fun x=>x = some (i,Rl.aC) ∨ x = some (i,Rl.decided)) (some (i,r)):=fun r y1 y2=>by
      rintro (z | z)
      · cases z; exact y1 rfl
      · cases z; exact y2 rfl
    have hno:=no .ob (fun z=>nomatch z) (fun z=>nomatch z)
    refine q c' H' (sp.mono (by rintro x (z | z) <;> exact ⟨_,z⟩) a6) ⟨dx,aM,aP,aA,aD,aF,aE,aR,ms,ds ++ [p],ws,fs,es,by rw [sp.col o _ h2 (by rw [h1]; exact hno)]; exact h1,sp.keep _ _ h2 (by rw [h1]; exact hno),
      h3.keep (no .made (fun z=>nomatch z) (fun z=>nomatch z)) sp,h4.imp fun _ _ z=>z.step sp,kp,h6.keep (no .aO (fun z=>nomatch z) (fun z=>nomatch z)) sp,h7.imp ?_,kd,(h9.imp fun _ _ z=>z.step sp).snoc ht,
      h10.keep (no .firsts (fun z=>nomatch z) (fun z=>nomatch z)) sp,h11.imp ?_,h12.keep (no .kept (fun z=>nomatch z) (fun z=>nomatch z)) sp,h13.imp ?_,h14.keep (no .rows (fun z=>nomatch z) (fun z=>nomatch z)) sp⟩
    · rintro x v ⟨t,a,e,z1,z2⟩
      exact ⟨t,a,e,z1.step sp,z2.keep (no (.l9 x.1) (fun z=>nomatch z) (fun z=>nomatch z)) sp⟩
    · rintro x v ⟨a,e,z⟩
      exact ⟨a,e,z.keep (no (.md x.1) (fun z=>nomatch z) (fun z=>nomatch z)) sp⟩
    · rintro x v ⟨a,ts,e,z1,z2⟩
      exact ⟨a,ts,e,z1.keep (no (.qT x.1) (fun z=>nomatch z) (fun z=>nomatch z)) sp,z2.imp fun _ _ y=>y.step sp⟩
end
end My
set_option maxHeartbeats 1000000
namespace My
open PySem L2
seal PySem.wpAny
inductive Xc where
  | jv (b : Int) | mi | noChange | noFit | fL (n : Int) | nothing | tooMany | pH | mj (n : Int) | oF
def Xc.At (A : Adr) (H : Hp) : Xc → Value → Option Addr → Prop
  | .jv b,C,d=>C = .ref A.bE ∧ ∃ a,d = some a ∧ H a = some (.xd [(Str.ofString "bar",.int b)])
  | .mi,C,d=>C = .ref A.br ∧ d = none
  | .noChange,C,d=>C = .ref A.bt ∧ d = none
  | .noFit,C,d=>C = .ref A.cj ∧ d = none
  | .fL n,C,d=>C = .ref A.a8 ∧ ∃ a,d = some a ∧ H a = some (.xd [(Str.ofString "sitting",.int n)])
  | .nothing,C,d=>C = .ref A.bF ∧ d = none
  | .tooMany,C,d=>C = .ref A.bI ∧ d = none
  | .pH,C,d=>C = .ref A.bJ ∧ d = none
  | .mj n,C,d=>C = .ref A.bH ∧ ∃ a,d = some a ∧ H a = some (.xd [(Str.ofString "sitting",.int n)])
  | .oF,C,d=>C = .ref A.cK ∧ d = none
def Xc.New (A : Adr) (H H' : Hp) (x : Xc) (C : Value) (d : Option Addr) : Prop:=x.At A H' C d ∧ ∀ a,d = some a → H a = none
theorem same_none {H H' : Hp} (s : bQ H H') {a : Addr} (h : H' a = none) : H a = none:=by
  cases z : H a with
  | none=>rfl
  | some v=>rw [s _ _ z] at h; cases h
theorem lE {i : Int} (h0 : -10000000000 < i) (h1 : i < 10000000000) : i.natAbs.log2 < 1920:=by
  have h : i.natAbs < 2 ^ 34:=by
    have : (10000000000 : Int) ≤ 2 ^ 34:=by decide
    omega
  by_cases hz : i.natAbs = 0
  · rw [hz]; decide
  · exact Nat.lt_trans ((Nat.log2_lt hz).mpr h) (by decide)
theorem vB {i : Int} (h0 : 0 ≤ i) (h1 : i < 10000000000) : (Str.ofString (toString i)).length ≤ 20 :=
  Nat.le_trans (PyProof.Rows.toString_length_le h0 (by decide : (1 : Nat) ≤ 11) (by show i < (10 : Int) ^ 11; omega)) (by decide)
theorem r9 {i : Int} (h0 : 0 ≤ i) (h1 : i < 10000000000) : ∃ z,De (.int i) z ∧ z.length ≤ 10000 :=
  ⟨_,.int (lE (by omega) h1),Nat.le_trans (vB h0 h1) (by decide)⟩
def sv (ms : List Mn) : Int:=match ms.getLast? with
  | none=>-1
  | some m=>(m.k : Int)
def uB (cl : Bool) (ms : List Mn) : Int:=if cl = true then (if (4 : Int) > sv ms then 4 else sv ms) else sv ms
def Kd (ms : List Mn) : Bool:=ms.any fun m=>decide (m.k = 0)
def pI (ms : List Mn) : Bool:=match ms.getLast? with
  | some (.chg e)=>!decide (e.k = 1)
  | _=>false
def DI (ms : List Mn) (k : Nat) : Bool:=if k = 2 then pI ms else if k = 1 ∨ k = 3 ∨ k = 4 ∨ k = 5 then Kd ms else true
def zC (cl : Bool) (ms : List Mn) (k : Nat) : Option Xc :=
  if (k : Int) ≤ uB cl ms then some (.jv (uB cl ms)) else if DI ms k = true then none else if Kd ms = true then some .noChange else some .mi
theorem MU (ms : List Mn) : -1 ≤ sv ms ∧ sv ms < 8:=by
  unfold sv
  split
  · omega
  · rename_i m _
    have:=m.k8
    omega
theorem CA (cl : Bool) (ms : List Mn) : -1 ≤ uB cl ms ∧ uB cl ms < 8:=by
  have:=MU ms
  unfold uB
  split
  · split <;> omega
  · omega
def uC (A : Adr) (K : PySem.W.Frag) (c : Col) (H : Hp) (B : Addr) (ms : List Mn) (os : List Addr) : Prop:=SqL K H B (os.map V.ref) ∧ cF (fun m p=>mf A c H m p) ms os
theorem mf.same {A : Adr} {c : Col} {H H' : Hp} {m : Mn} {o : Addr} (s : bQ H H') (h : mf A c H m o) : mf A c H' m o:=h.step (Step.same (W:=fun _=>False) id s)
theorem uC.same {A : Adr} {K : PySem.W.Frag} {c : Col} {H H' : Hp} {B : Addr} {ms : List Mn} {os : List Addr} (s : bQ H H') (h : uC A K c H B ms os) : uC A K c H' B ms os:=⟨s.seq h.1,h.2.imp fun _ _ y=>y.same s⟩
def MV (A : Adr) (K : PySem.W.Frag) : Sp:=fun vs H Q _=>∃ (B : Addr) (cl : Bool) (c : Col) (ms : List Mn) (os : List Addr),vs = [.ref B,.bl cl] ∧ uC A K c H B ms os ∧ Q (.int (uB cl ms)) H
def MW (A : Adr) (K : PySem.W.Frag) : Sp:=fun vs H Q _=>∃ (B : Addr) (c : Col) (ms : List Mn) (os : List Addr),vs = [.ref B] ∧ uC A K c H B ms os ∧ ms.length ≤ 1000 ∧ ∀ H',bQ H H' → Q (.bl (Kd ms)) H'
def MX (A : Adr) (K : PySem.W.Frag) : Sp:=fun vs H Q _=>∃ (B : Addr) (c : Col) (ms : List Mn) (os : List Addr),vs = [.ref B] ∧ uC A K c H B ms os ∧ ∀ H',bQ H H' → Q (.bl (pI ms)) H'
def Jp (A : Adr) (K : PySem.W.Frag) : Sp:=fun vs H Q _=>∃ (k : Nat) (B : Addr) (c : Col) (ms : List Mn) (os : List Addr),vs = [.str (nm k),.ref B] ∧ k < 8 ∧ uC A K c H B ms os ∧ ms.length ≤ 1000 ∧ ∀ H',bQ H H' → Q (.bl (DI ms k)) H'
def P9 (A : Adr) (K : PySem.W.Frag) : Sp:=fun vs H Q E=>∃ (k : Nat) (B : Addr) (cl : Bool) (c : Col) (ms : List Mn) (os : List Addr),vs = [.str (nm k),.ref B,.bl cl] ∧ k < 8 ∧ uC A K c H B ms os ∧ ms.length ≤ 1000 ∧
  (zC cl ms k = none → ∀ H',bQ H H' → Q .non H') ∧ ∀ x,zC cl ms k = some x → ∀ C d H',bQ H H' → x.New A H H' C d → E C d H'
def CB (A : Adr) (K : PySem.W.Frag) (k : Nat) : Sp:=fun vs H Q E=>(k = 0 ∧ Jg A K vs H Q E) ∨ GU A k vs H Q E
theorem zD (pre : List Addr) (q : Addr) : atI ((pre ++ [q]).map V.ref) (-1) = some (.ref q):=by
  rw [List.map_append]; exact yB _ _
theorem GW : ∀ k,k < 8 → decide (V.str (nm k) = V.str (Str.ofString "matter")) = decide (k = 0):=by decide +kernel
theorem gq : ∀ k,k < 8 → decide (V.str (nm k) = V.str (Str.ofString "change")) = decide (k = 1):=by decide +kernel
theorem iC : ∀ k,k < 8 → decide (V.str (nm k) = V.str (Str.ofString "mend")) = decide (k = 2):=by decide +kernel
theorem kF : ∀ k,k < 8 → decide (V.str (nm k) = V.str (Str.ofString "put off")) = decide (k = 3):=by decide +kernel
theorem zE : ∀ k,k < 8 → decide (V.str (nm k) = V.str (Str.ofString "close")) = decide (k = 4):=by decide +kernel
theorem CC : ∀ k,k < 8 → decide (V.str (nm k) = V.str (Str.ofString "lay")) = decide (k = 5):=by decide +kernel
theorem GX : ∀ k,k < 8 → decide (V.str (nm k) = V.str (Str.ofString "rest")) = decide (k = 6):=by decide +kernel
theorem pJ : ∀ {k : Nat} {v : V},atI (rowOf k v) 0 = some (.str (nm k))
  | 0,_=>rfl
  | 1,_=>rfl
  | 2,_=>rfl
  | 3,_=>rfl
  | 4,_=>rfl
  | 5,_=>rfl
  | 6,_=>rfl
  | 7,_=>rfl
  | _ + 8,_=>rfl
theorem Jq : ∀ k,decide (V.str (kn k) = V.str (Str.ofString "cut")) = decide (k = 1)
  | 0=>by decide +kernel
  | 1=>by decide +kernel
  | n + 2=>by rw [decide_eq_false (show ¬ n + 2 = 1 by omega)]; show decide (V.str (Str.ofString "turn") = _) = _; decide +kernel
theorem cF.last {α β : Type} {R : α → β → Prop} {as : List α} {pre : List β} {b : β} (h : cF R as (pre ++ [b])) : ∃ as' a,as = as' ++ [a] ∧ cF R as' pre ∧ R a b:=by
  induction pre generalizing as with
  | nil =>
    cases h with
    | cons h t=>cases t; exact ⟨[],_,rfl,.nil,h⟩
  | cons x r ih =>
    cases h with
    | cons h t =>
      obtain ⟨as',a,rfl,h1,h2⟩:=ih t
      exact ⟨_ :: as',a,rfl,.cons h h1,h2⟩
theorem sf (ms : List Mn) (m : Mn) : sv (ms ++ [m]) = (m.k : Int):=by unfold sv; rw [List.getLast?_concat]
section
variable {P : Program} {w : World} {K : PySem.W.Frag} {mg : Str → Option Value} {base : Heap} {A : Adr}
theorem wD (T : Txt w.params K mg A) : aw P w K mg base CX0 1 A.qH A.oy ["self","bar"] (Af A.bE "bar"):=by
  refine T.lZ.ok yY (fun vs H Q E h=>?_) (fun cdv A' outer s H vs Q E hr h=>?_)
  · obtain ⟨e,v,rfl,_⟩:=h
    rfl
  · obtain ⟨e,v,rfl,hx,⟨z,fz,zl⟩,q⟩:=h
    refine ⟨_,(ao (cI (yL T.iy T.oz rfl T.gM (aa (pv 0) (aa (AW (lK (u9 (pv 1) u7))) ah))))
  (aj (BV T.oz (pv 0) (pv 1)))),?_⟩
    have sz : sizeLine = 16777216:=by decide
    have c5 : (Str.ofString "barred by the bar ").length = 18:=by decide +kernel
    have e5 : (Str.empty ++ Str.ofString "barred by the bar " : Str).length = 18:=by decide +kernel
    refine ⟨_,rfl,by rw [e5]; omega,_,rfl,z,fz,by omega,by rw [len_app,e5]; omega,by rw [len_app,e5]; omega,e,_,rfl,hx,?_⟩
    exact ⟨_,rfl,_,rfl,e,rfl,hx,fun d hd=>q d hd⟩
theorem Ar (T : Txt w.params K mg A) : aw P w K mg base CX0 1 A.pf A.mY ["self","sitting"] (Af A.a8 "sitting"):=by
  refine T.iX.ok va (fun vs H Q E h=>?_) (fun cdv A' outer s H vs Q E hr h=>?_)
  · obtain ⟨e,v,rfl,_⟩:=h
    rfl
  · obtain ⟨e,v,rfl,hx,⟨z,fz,zl⟩,q⟩:=h
    refine ⟨_,(ao (cI (yL T.iy T.m7 rfl T.gM (aa (pv 0) (aa (AW (lK (u9 (pv 1) u7))) ah))))
  (aj (BV T.m7 (pv 0) (pv 1)))),?_⟩
    have sz : sizeLine = 16777216:=by decide
    have c5 : (Str.ofString "not later than the sitting ").length = 27:=by decide +kernel
    have e5 : (Str.empty ++ Str.ofString "not later than the sitting " : Str).length = 27:=by decide +kernel
    refine ⟨_,rfl,by rw [e5]; omega,_,rfl,z,fz,by omega,by rw [len_app,e5]; omega,by rw [len_app,e5]; omega,e,_,rfl,hx,?_⟩
    exact ⟨_,rfl,_,rfl,e,rfl,hx,fun d hd=>q d hd⟩
theorem DJ (T : Txt w.params K mg A) : aw P w K mg base CX0 1 A.ui A.rY ["self","sitting"] (Af A.bH "sitting"):=by
  refine T.l7.ok yZ (fun vs H Q E h=>?_) (fun cdv A' outer s H vs Q E hr h=>?_)
  · obtain ⟨e,v,rfl,_⟩:=h
    rfl
  · obtain ⟨e,v,rfl,hx,⟨z,fz,zl⟩,q⟩:=h
    refine ⟨_,(ao (cI (yL T.iy T.r8 rfl T.gM (aa (pv 0) (aa (AW (lK (u9 (pv 1) u7))) ah))))
  (aj (BV T.r8 (pv 0) (pv 1)))),?_⟩
    have sz : sizeLine = 16777216:=by decide
    have c5 : (Str.ofString "aside until the sitting ").length = 24:=by decide +kernel
    have e5 : (Str.empty ++ Str.ofString "aside until the sitting " : Str).length = 24:=by decide +kernel
    refine ⟨_,rfl,by rw [e5]; omega,_,rfl,z,fz,by omega,by rw [len_app,e5]; omega,by rw [len_app,e5]; omega,e,_,rfl,hx,?_⟩
    exact ⟨_,rfl,_,rfl,e,rfl,hx,fun d hd=>q d hd⟩
theorem DK (T : Txt w.params K mg A) : ∀ k,k < 8 → aw P w K mg base CX0 2 (A.ft k) (A.ftd k) ["self"] (CB A K k)
  | 0,_=>(MN T).imp fun vs H Q E h=>h.elim (fun z=>z.2) (fun z=>absurd z.1 (by decide))
  | 1,h=>(pE T 1 h).imp fun vs H Q E h=>h.elim (fun z=>absurd z.1 (by decide)) id
  | 2,h=>(pE T 2 h).imp fun vs H Q E h=>h.elim (fun z=>absurd z.1 (by decide)) id
  | 3,h=>(pE T 3 h).imp fun vs H Q E h=>h.elim (fun z=>absurd z.1 (by decide)) id
  | 4,h=>(pE T 4 h).imp fun vs H Q E h=>h.elim (fun z=>absurd z.1 (by decide)) id
  | 5,h=>(pE T 5 h).imp fun vs H Q E h=>h.elim (fun z=>absurd z.1 (by decide)) id
  | 6,h=>(pE T 6 h).imp fun vs H Q E h=>h.elim (fun z=>absurd z.1 (by decide)) id
  | 7,h=>(pE T 7 h).imp fun vs H Q E h=>h.elim (fun z=>absurd z.1 (by decide)) id
  | n + 8,h=>absurd h (by omega)
theorem Bg (T : Txt w.params K mg A) : aw P w K mg base CX0 3 A.y7 A.ot ["pile","closed"] (MV A K):=by
  have Sr : ∀ k,k < 8 → aw P w K mg base CX0 2 A.f_r A.ON ["self"] (ML A):=fun _ _=>OW T
  refine T.uj.ok A1 (fun vs H Q E h=>?_) (fun cdv A' outer s H vs Q E hr h=>?_)
  · obtain ⟨B,cl,c,ms,os,rfl,_⟩:=h
    rfl
  · obtain ⟨B,cl,c,ms,os,rfl,⟨hB,ho⟩,q⟩:=h
    have O0:=hr
    refine ⟨_,(ao (bA (i:=2) A1.nd rfl (Or.inl rfl) (CV (qv (pv 0) (fun _=>rfl)) (ll (n:=8) (Cf:=A.C) (aS cq (pv 0) (AG u3 ak) (fun _ _=>rfl)) T.cl T.ME Sr O0 T.MF bh) (AG u3 ak)))
  (ao (bU (nk (pv 1))
  (aj (aG (cG (JT rfl) (by rfl) T.P5 RI (aa (pv 2) (aa (fh (v:=V.int 4) rfl T.um ⟨_,rfl⟩) ah)))))
  aJ)
  (aj (aG (pv 2))))),?_⟩
    unfold uB at q
    rcases List.eq_nil_or_concat os with h | ⟨pre,o,h⟩
    · subst h
      cases ho
      refine ⟨_,rfl,_,.inl ⟨_,hB,rfl⟩,eD ⟨_,rfl,?_⟩⟩
      refine ⟨_,rfl,_,rfl,?_⟩
      cases cl with
      | true=>exact jO ⟨_,rfl,_,_,rfl,q⟩
      | false=>exact eD ⟨_,rfl,q⟩
    · rw [List.concat_eq_append] at h
      subst h
      obtain ⟨ms',m,rfl,_,_,dx,v,hm,_⟩:=ho.last
      rw [sf] at q
      refine ⟨_,rfl,_,.inl ⟨_,hB,rfl⟩,dj (by simp) ⟨_,rfl,_,rfl,B,_,_,_,rfl,rfl,hB,zD pre o,m.k,m.k8,o,dx,_,rfl,hm,OU m.k v,o,m.k,dx,_,m.k8,rfl,hm,k9 m.k v,?_⟩⟩
      refine ⟨_,rfl,_,rfl,?_⟩
      cases cl with
      | true=>exact jO ⟨_,rfl,_,_,rfl,q⟩
      | false=>exact eD ⟨_,rfl,q⟩
theorem sN (T : Txt w.params K mg A) : aw P w K mg base CX0 2 A.lQ A.ie ["pile"] (MW A K):=by
  have gN : ∀ k,k < 8 → aw P w K mg base CX0 1 (A.fk k) (A.fkd k) ["self"] (gm k):=lb T
  refine T.kY.ok Al (fun vs H Q E h=>?_) (fun cdv A' outer s H vs Q E hr h=>?_)
  · obtain ⟨B,c,ms,os,rfl,_⟩:=h
    rfl
  · obtain ⟨B,c,ms,os,rfl,⟨hB,ho⟩,hl,q⟩:=h
    have eu:=hr
    refine ⟨_,(aj (aG (cG (LS rfl) (by rfl) T.P6 RJ (aa (t8 (scope:=oe) wW rfl (rL (pv 0)) (fun _ _ _ _ _=>(mR cf (ll (n:=8) (Cf:=A.C) (pv 0) T.cl T.nr gN eu T.nv bh) au (aT _)))) ah)))),?_⟩
    have lim : sizeLine = 16777216:=by decide
    have ol:=ho.len
    refine ⟨_,rfl,B,rfl,⟨_,hB⟩,fun R hR=>?_⟩
    have sR : ∀ {o : HO},bQ H (upd H R o):=aH hR
    refine rP (K:=K) (a:=B) (xs:=os.map V.ref) (fun i ys H2=>ys = (ms.take i).map (fun m=>V.bl (decide (m.k = 0))) ∧ H2 = upd H R (.lst ys)) ⟨rfl,rfl⟩ (by rw [List.length_map]; omega) ?_ ?_ ?_
    · rintro i ys H2 hi ⟨rfl,rfl⟩
      rw [List.length_map] at hi
      exact ⟨sR.seq hB,ae,by rw [List.length_map,List.length_take]; omega⟩
    · rintro i y ys H2 hy ⟨rfl,rfl⟩
      have hi : i < ms.length:=by have:=(List.getElem?_eq_some_iff.mp hy).1; rw [List.length_map] at this; omega
      obtain ⟨o,ho1,_,dx,v,ho2,_⟩:=ho.get (List.getElem?_eq_getElem hi)
      rw [List.getElem?_map,ho1] at hy
      cases hy
      refine ⟨_,rfl,ms[i].k,ms[i].k8,o,dx,_,rfl,sR _ _ ho2,k9 _ v,o,rfl,rfl,?_⟩
      rw [GW _ ms[i].k8]
      refine gz.mk (by rw [List.length_map]; omega) ae ⟨?_,by rw [mQ]⟩
      rw [List.take_succ,List.getElem?_eq_getElem hi,List.map_append]; rfl
    · rintro ys H2 ⟨rfl,rfl⟩
      rw [List.length_map,← ol,List.take_length]
      refine ⟨R,ms.map (fun m=>decide (m.k = 0)),rfl,SqL.of (by rw [ae,List.map_map]; rfl),?_⟩
      rw [List.any_map]
      exact q _ sR
theorem vC (T : Txt w.params K mg A) : aw P w K mg base CX0 3 A.jH A.g0 ["pile"] (MX A K):=by
  have GY : ∀ k,k < 8 → aw P w K mg base CX0 2 (A.ft k) (A.ftd k) ["self"] (CB A K k):=DK T
  refine T.kz.ok og (fun vs H Q E h=>?_) (fun cdv A' outer s H vs Q E hr h=>?_)
  · obtain ⟨B,c,ms,os,rfl,_⟩:=h
    rfl
  · obtain ⟨B,c,ms,os,rfl,⟨hB,ho⟩,q⟩:=h
    have CD:=hr
    refine ⟨_,(ao (bU (u0 (qv (pv 0) (fun _=>rfl)))
  (aj (aG qt))
  aJ)
  (ao (bA (i:=1) og.nd rfl (Or.inl rfl) (ll (n:=8) (Cf:=A.C) (aS cq (pv 0) (AG u3 ak) (fun _ _=>rfl)) T.cl T.GP GY CD T.GQ bh))
  (aj (aG (Ln (mR cf (aS aY (pv 1) ak (fun _ _=>rfl)) au (aT _)) (Ga (mR Lu (aS aY (aS aY (pv 1) ak (fun _ _=>rfl)) ak (fun _ _=>rfl)) au (aT _)))))))),?_⟩
    rcases List.eq_nil_or_concat os with h | ⟨pre,o,h⟩
    · subst h
      cases ho
      refine ⟨_,rfl,_,.inl ⟨_,hB,rfl⟩,jO ?_⟩
      exact q H (bQ.refl _)
    · rw [List.concat_eq_append] at h
      subst h
      refine ⟨_,rfl,_,.inl ⟨_,hB,rfl⟩,aN (by simp) ?_⟩
      obtain ⟨ms',m,rfl,_,_,dx,v,hm,hv⟩:=ho.last
      have gl : (ms' ++ [m]).getLast? = some m:=List.getLast?_concat
      unfold pI at q
      rw [gl] at q
      refine ⟨_,rfl,_,rfl,B,_,_,_,rfl,rfl,hB,zD pre o,m.k,m.k8,o,dx,_,rfl,hm,Je m.k v,?_⟩
      by_cases h0 : m.k = 0
      · obtain ⟨tx,rfl⟩ : ∃ tx,m = .mat tx:=by cases m <;> first | exact ⟨_,rfl⟩ | exact absurd h0 (by simp [Mn.k])
        obtain ⟨p,rfl,_,hp⟩:=hv
        refine .inl ⟨rfl,o,dx,p,tx.map V.str,rfl,hm,SqL.of hp,fun p2 u hp2 hu npu=>?_⟩
        have nu : (upd H p2 (.lst (tx.map V.str))) u = none:=(aq (Ne.symm npu)).trans hu
        refine ⟨_,rfl,u,_,_,_,rfl,rfl,SqT.of ae,rfl,rfl,_,rfl,?_⟩
        rw [gq 0 (by decide)]
        exact eD (q _ ((aH hp2).new nu))
      · refine .inr ⟨by omega,o,dx,v,rfl,hm,fun u hu=>?_⟩
        have su:=aH (o:=.tup (rowOf m.k v)) hu
        refine ⟨_,rfl,u,_,_,_,rfl,rfl,SqT.of ae,pJ,rfl,_,rfl,?_⟩
        rw [gq m.k m.k8]
        by_cases h1 : m.k = 1
        · obtain ⟨e,rfl⟩ : ∃ e,m = .chg e:=by cases m <;> first | exact ⟨_,rfl⟩ | exact absurd h1 (by simp [Mn.k])
          obtain ⟨t,rfl,ht⟩:=hv
          refine dj (decide_eq_true rfl) ⟨_,rfl,u,_,_,_,rfl,rfl,SqT.of ae,rfl,t,_,_,_,rfl,rfl,d8 su ht.sq,Ck e,rfl,?_⟩
          rw [Jq]
          exact q _ su
        · rw [decide_eq_false h1]
          have q' : ∀ H',bQ H H' → Q (.bl false) H':=by
            cases m with
            | chg e=>exact absurd rfl h1
            | _=>exact q
          exact eD (q' _ su)
theorem qY (T : Txt w.params K mg A) : aw P w K mg base CX0 4 A.gu A.d9 ["kind","pile"] (Jp A K):=by
  have pK : aw P w K mg base CX0 2 A.lQ A.ie ["pile"] (MW A K):=sN T
  have w8 : aw P w K mg base CX0 3 A.jH A.g0 ["pile"] (MX A K):=vC T
  refine T.ia.ok qE (fun vs H Q E h=>?_) (fun cdv A' outer s H vs Q E hr h=>?_)
  · obtain ⟨k,B,c,ms,os,rfl,_⟩:=h
    rfl
  · obtain ⟨k,B,c,ms,os,rfl,k8,hp,hl,q⟩:=h
    have nz : Room 2 _:=hr.mono (by decide)
    have vD:=hr
    refine ⟨_,(ao (bU (aI cf (pv 0) au (aT _))
  (aj (aG (bK w8 vD rfl T.pV T.kz.kp T.pU .nil bh (aa (pv 1) ah))))
  aJ)
  (ao (bU (aI JW (pv 0) (cQ (aa au (aa au (aa au (aa au ah))))) rfl)
  (aj (aG (bK pK nz rfl T.pj T.kY.kp T.ph .nil bh (aa (pv 1) ah))))
  aJ)
  (aj (aG qt)))),?_⟩
    refine ⟨_,rfl,rfl,_,rfl,?_⟩
    rw [iC k k8]
    unfold DI at q
    by_cases h2 : k = 2
    · rw [if_pos h2] at q
      exact dj (decide_eq_true h2) ⟨_,rfl,B,c,ms,os,rfl,hp,q⟩
    · rw [if_neg h2] at q
      refine aN (decide_eq_false h2) ?_
      refine ⟨_,rfl,(by show 4 ≤ sizeLine; decide),fun t ht=>?_⟩
      have st:=aH (o:=.tup [V.str (Str.ofString "change"),V.str (Str.ofString "put off"),V.str (Str.ofString "close"),V.str (Str.ofString "lay")]) ht
      refine ⟨t,_,rfl,.inr (SqT.of ae),rfl,rfl,_,rfl,?_⟩
      have ein : (if false = true then !inV (V.str (nm k)) [V.str (Str.ofString "change"),V.str (Str.ofString "put off"),V.str (Str.ofString "close"),V.str (Str.ofString "lay")] else inV (V.str (nm k)) [V.str (Str.ofString "change"),V.str (Str.ofString "put off"),V.str (Str.ofString "close"),V.str (Str.ofString "lay")]) = decide (k = 1 ∨ k = 3 ∨ k = 4 ∨ k = 5):=by
        have : ∀ k,k < 8 → inV (V.str (nm k)) [V.str (Str.ofString "change"),V.str (Str.ofString "put off"),V.str (Str.ofString "close"),V.str (Str.ofString "lay")] = decide (k = 1 ∨ k = 3 ∨ k = 4 ∨ k = 5):=by decide +kernel
        exact this k k8
      rw [ein]
      by_cases h3 : k = 1 ∨ k = 3 ∨ k = 4 ∨ k = 5
      · rw [if_pos h3] at q
        exact dj (decide_eq_true h3) ⟨_,rfl,B,c,ms,os,rfl,hp.same st,hl,fun H' s'=>q H' (st.trans s')⟩
      · rw [if_neg h3] at q
        exact aN (decide_eq_false h3) (q _ st)
theorem sx (T : Txt w.params K mg A) : aw P w K mg base (CXX P w) 5 A.g7 A.eI ["kind","pile","closed"] (P9 A K):=by
  have zF : aw P w K mg base CX0 3 A.y7 A.ot ["pile","closed"] (MV A K):=Bg T
  have pK : aw P w K mg base CX0 2 A.lQ A.ie ["pile"] (MW A K):=sN T
  have sy : aw P w K mg base CX0 4 A.gu A.d9 ["kind","pile"] (Jp A K):=qY T
  have tF : aw P w K mg base CX0 1 A.qH A.oy ["self","bar"] (Af A.bE "bar"):=wD T
  refine T.iB.okX kO (fun vs H Q E h=>?_) (fun cdv A' outer s H vs Q E hr h=>?_)
  · obtain ⟨k,B,cl,c,ms,os,rfl,_⟩:=h
    rfl
  · obtain ⟨k,B,cl,c,ms,os,rfl,k8,hp,hl,q,qx⟩:=h
    have vE : Room 3 _:=hr.mono (by decide)
    have nz : Room 2 _:=hr.mono (by decide)
    have qZ : Room 4 _:=hr
    have Ke : Room 2 _:=hr.mono (by decide)
    refine ⟨_,(aL (psx (bA (i:=3) kO.nd rfl (Or.inl rfl) (bK zF vE rfl T.za T.uj.kp T.y9 .nil bh (aa (pv 1) (aa (pv 2) ah)))))
  (aL (eM (aI IL (aS LQ (fh (v:=V.ref A.tab) rfl T.Cg rfl) (pv 0) (fun _ _=>rfl)) (pv 3) (aT _))
  (bq (oZ T.oz tF Ke T.l6 rfl rfl T.qN (aa (pv 3) ah)))
  (qB aJ))
  (bq (eM (u0 (nk (bK sy qZ rfl T.kQ T.ia.kp T.kP .nil bh (aa (pv 0) (aa (pv 1) ah)))))
  (aL (eM (nk (bK pK nz rfl T.pj T.kY.kp T.ph .nil bh (aa (pv 1) ah)))
  (bq (jh T.wx rfl rfl T.sY (aa au ah)))
  (qB aJ))
  (bq (jh T.wu rfl rfl T.sX (aa (AW (u9 (pv 0) (lK u7))) ah))))
  (qB aJ))))),?_⟩
    refine ⟨_,rfl,_,rfl,B,cl,c,ms,os,rfl,hp,?_⟩
    obtain ⟨tk,htk⟩:=T.rk k k8
    refine ⟨_,rfl,A.tab,nm k,.int k,_,rfl,rfl,T.tb,htk,⟨_,rfl⟩,_,rfl,_,_,rfl,rfl,_,rfl,n5 (fun e=>?_) (fun e=>?_)⟩
    · have e' : (k : Int) ≤ uB cl ms:=of_decide_eq_true e
      have hb:=CA cl ms
      refine ⟨_,rfl,_,rfl,r9 (by omega) (by omega),fun d hd=>qx (.jv (uB cl ms)) (by unfold zC; rw [if_pos e']) _ _ _ (aH hd) ⟨⟨rfl,d,rfl,ae⟩,fun _ z=>by cases z; exact hd⟩⟩
    · have e' : ¬ (k : Int) ≤ uB cl ms:=fun z=>e (decide_eq_true z)
      unfold zC at q qx
      rw [if_neg e'] at q qx
      refine ⟨_,rfl,_,rfl,k,B,c,ms,os,rfl,k8,hp,hl,fun H' s'=>⟨_,rfl,?_⟩⟩
      cases hn : DI ms k with
      | true =>
        rw [hn,if_pos rfl] at q
        exact eD (q rfl _ s')
      | false =>
        rw [hn,if_neg Bool.false_ne_true] at qx
        refine jO ⟨_,rfl,B,c,ms,os,rfl,hp.same s',hl,fun H2 s2=>⟨_,rfl,?_⟩⟩
        cases hm : Kd ms with
        | true =>
          rw [hm,if_pos rfl] at qx
          exact jO ⟨by decide,qx _ rfl _ _ _ (s'.trans s2) ⟨⟨rfl,rfl⟩,fun _ z=>nomatch z⟩⟩
        | false =>
          rw [hm,if_neg Bool.false_ne_true] at qx
          refine eD ⟨_,rfl,nm k,.str,?_,?_,?_⟩
          · have : ∀ k,k < 8 → (nm k).length ≤ 10:=by decide +kernel
            exact Nat.le_trans (this k k8) (by decide)
          · have : ∀ k,k < 8 → (Str.empty ++ nm k : Str).length ≤ 10:=by decide +kernel
            exact Nat.le_trans (this k k8) (by decide)
          · have : ∀ k,k < 8 → ((Str.empty ++ nm k) ++ Str.ofString " needs a matter on the pile" : Str).length ≤ 100:=by decide +kernel
            have l:=Nat.le_trans (this k k8) (show 100 ≤ sizeLine by decide)
            exact ⟨l,l,(by show 1 ≤ sizeLine; decide),qx _ rfl _ _ _ (s'.trans s2) ⟨⟨rfl,rfl⟩,fun _ z=>nomatch z⟩⟩
end
section
variable {P : Program} {w : World} {K : PySem.W.Frag} {mg : Str → Option Value} {base : Heap} {A : Adr}
theorem jw (T : Txt w.params K mg A) : aw P w K mg base CX0 1 A.f_n A.B9 ["self"] (Cs 0):=by
  refine T.F_n.ok yQ (fun vs H Q E h=>?_) (fun cdv A' outer s H vs Q E hr h=>?_)
  · obtain ⟨m,rfl,_⟩:=h
    rfl
  · obtain ⟨m,rfl,q⟩:=h
    exact ⟨_,(aj (aG au)),q⟩
theorem Kf (T : Txt w.params K mg A) : aw P w K mg base CX0 1 A.R8 A.Mo ["self"] (Cs 4):=by
  refine T.WL.ok Ai (fun vs H Q E h=>?_) (fun cdv A' outer s H vs Q E hr h=>?_)
  · obtain ⟨m,rfl,_⟩:=h
    rfl
  · obtain ⟨m,rfl,q⟩:=h
    exact ⟨_,(aj (aG au)),q⟩
theorem O1 (T : Txt w.params K mg A) : ∀ k,k < 8 → aw P w K mg base CX0 1 (A.fn k) (A.fnd k) ["self"] (Cs k)
  | 0,_=>jw T
  | 1,_=>jw T
  | 2,_=>jw T
  | 3,_=>jw T
  | 4,_=>Kf T
  | 5,_=>jw T
  | 6,_=>jw T
  | 7,_=>jw T
  | n + 8,h=>absurd h (by omega)
end
end My
set_option maxHeartbeats 1000000
namespace My
open PySem L2
seal PySem.wpAny
theorem lj {a b : Nat} : ((Sum.inl (a : Int) : Key) = Sum.inl (b : Int)) ↔ a = b:=⟨fun h=>by have:=Sum.inl.inj h; omega,fun h=>by rw [h]⟩
theorem dA {k : Nat} {v : V} {ks : List Nat} {vs : List V} : bz ((k :: ks).zip (v :: vs)) = (Sum.inl (k : Int),v) :: bz (ks.zip vs):=rfl
theorem pL {n : Nat} : ∀ {ks : List Nat} {vs : List V},n ∉ ks → j8 (bz (ks.zip vs)) (Sum.inl (n : Int)) = none
  | [],_,_=>rfl
  | _ :: _,[],_=>rfl
  | k :: ks,v :: vs,h=>by
    rw [dA,jP (fun z=>h (by rw [lj.mp z]; exact List.mem_cons_self))]
    exact pL fun z=>h (List.mem_cons_of_mem _ z)
theorem Bh {n : Nat} {v : V} : ∀ {ks : List Nat} {vs : List V} {j : Nat},ks.Nodup → ks[j]? = some n → vs[j]? = some v → j8 (bz (ks.zip vs)) (Sum.inl (n : Int)) = some v
  | [],_,_,_,h,_=>by simp at h
  | _ :: _,[],_,_,_,h=>by simp at h
  | k :: ks,u :: vs,0,_,h,g=>by
    rw [List.getElem?_cons_zero] at h g
    cases h; cases g
    exact lL rfl
  | k :: ks,u :: vs,j + 1,nd,h,g=>by
    rw [List.getElem?_cons_succ] at h g
    obtain ⟨n1,n2⟩:=List.nodup_cons.mp nd
    rw [dA,jP (fun z=>n1 (by rw [lj.mp z]; exact List.mem_of_getElem? h))]
    exact Bh n2 h g
theorem uD {n : Nat} {v : V} : ∀ {ks : List Nat} {vs : List V},n ∉ ks → (bz (ks.zip vs)).map (fun kv=>if kv.1 = (Sum.inl (n : Int) : Key) then (kv.1,v) else kv) = bz (ks.zip vs)
  | [],_,_=>rfl
  | _ :: _,[],_=>rfl
  | k :: ks,u :: vs,h=>by
    rw [dA,List.map_cons,uD fun z=>h (List.mem_cons_of_mem _ z),if_neg (fun z=>h (by rw [lj.mp z]; exact List.mem_cons_self))]
theorem Bi {n : Nat} {v : V} : ∀ {ks : List Nat} {vs : List V} {j : Nat},ks.Nodup → ks[j]? = some n → (bz (ks.zip vs)).map (fun kv=>if kv.1 = (Sum.inl (n : Int) : Key) then (kv.1,v) else kv) = bz (ks.zip (vs.set j v))
  | [],_,_,_,h=>by simp at h
  | k :: ks,[],_,_,_=>by simp [bz]
  | k :: ks,u :: vs,0,nd,h=>by
    rw [List.getElem?_cons_zero] at h
    cases h
    rw [dA,List.map_cons,uD (List.nodup_cons.mp nd).1,if_pos rfl]
    rfl
  | k :: ks,u :: vs,j + 1,nd,h=>by
    rw [List.getElem?_cons_succ] at h
    obtain ⟨n1,n2⟩:=List.nodup_cons.mp nd
    rw [dA,List.map_cons,Bi n2 h,if_neg (fun z=>n1 (by rw [lj.mp z]; exact List.mem_of_getElem? h))]
    rfl
theorem Kg {n : Nat} {v : V} {ks : List Nat} {vs : List V} {j : Nat} (nd : ks.Nodup) (h : ks[j]? = some n) (l : ks.length = vs.length) : putK (bz (ks.zip vs)) (Sum.inl (n : Int)) v = bz (ks.zip (vs.set j v)):=by
  have hj : j < vs.length:=by rw [← l]; exact (List.getElem?_eq_some_iff.mp h).1
  unfold putK
  rw [ua,Bh nd h (List.getElem?_eq_getElem hj)]
  exact (if_pos rfl).trans (Bi nd h)
theorem sg {n : Nat} {v : V} {ks : List Nat} {vs : List V} (h : n ∉ ks) (l : ks.length = vs.length) : putK (bz (ks.zip vs)) (Sum.inl (n : Int)) v = bz ((ks ++ [n]).zip (vs ++ [v])):=by
  rw [Ma v (pL h),List.zip_append l]
  unfold bz
  rw [List.map_append]
  rfl
section
variable {β : Type} {R : Nat × β → V → Prop}
def at1 (n : Nat) (xs : List (Nat × β)) : Option (Nat × β):=xs.find? fun x=>decide (x.1 = n)
theorem pM {n : Nat} {xs : List (Nat × β)} {x : Nat × β} (h : at1 n xs = some x) : x.1 = n ∧ x ∈ xs:=by
  unfold at1 at h
  have:=List.find?_some h
  exact ⟨of_decide_eq_true this,List.mem_of_find?_eq_some h⟩
theorem zG {n : Nat} {xs : List (Nat × β)} (h : at1 n xs = none) : n ∉ xs.map (·.1):=fun z=>by
  obtain ⟨x,hx,e⟩:=List.mem_map.mp z
  have:=List.find?_eq_none.mp h x hx
  exact this (decide_eq_true e)
theorem cF.val {n : Nat} : ∀ {xs : List (Nat × β)} {ws : List V} {x : Nat × β},cF R xs ws → at1 n xs = some x → ∃ v,j8 (bz ((xs.map (·.1)).zip ws)) (Sum.inl (n : Int)) = some v ∧ R x v
  | _,_,_,.nil,h=>nomatch h
  | y :: xs,w :: ws,x,.cons g t,h=>by
    unfold at1 at h
    rw [List.find?_cons] at h
    by_cases e : y.1 = n
    · rw [decide_eq_true e] at h
      cases h
      exact ⟨w,by rw [List.map_cons,dA]; exact lL (lj.mpr e),g⟩
    · rw [decide_eq_false e] at h
      obtain ⟨v,h1,h2⟩:=cF.val t h
      exact ⟨v,by rw [List.map_cons,dA,jP (fun z=>e (lj.mp z))]; exact h1,h2⟩
theorem cF.drop {n : Nat} : ∀ {xs : List (Nat × β)} {ws : List V},cF R xs ws → ∃ ws',kL (bz ((xs.map (·.1)).zip ws)) (Sum.inl (n : Int)) = bz (((xs.filter fun x=>decide (x.1 ≠ n)).map (·.1)).zip ws') ∧ cF R (xs.filter fun x=>decide (x.1 ≠ n)) ws'
  | _,_,.nil=>⟨[],rfl,.nil⟩
  | y :: xs,w :: ws,.cons g t=>by
    obtain ⟨ws',h1,h2⟩:=cF.drop (n:=n) t
    by_cases e : y.1 = n
    · refine ⟨ws',?_,?_⟩
      · rw [List.filter_cons_of_neg (by simp [e]),← h1,List.map_cons,dA]
        unfold kL
        rw [List.filter_cons_of_neg (by simp [e])]
      · rw [List.filter_cons_of_neg (by simp [e])]; exact h2
    · refine ⟨w :: ws',?_,?_⟩
      · rw [List.filter_cons_of_pos (by simp [e]),List.map_cons,List.map_cons,dA,dA,← h1]
        unfold kL
        have hne : (Sum.inl (y.1 : Int) : Key) ≠ Sum.inl (n : Int):=fun z=>e (lj.mp z)
        rw [List.filter_cons_of_pos (by exact decide_eq_true hne)]
      · rw [List.filter_cons_of_pos (by simp [e])]; exact .cons g h2
theorem cF.WZ {R' : Nat × β → V → Prop} {n : Nat} {f : Nat × β → Nat × β} {v : V} (h1 : ∀ x,x.1 = n → R x v → R' (f x) v) (h2 : ∀ x u,x.1 ≠ n → R x u → R' x u) : ∀ {xs : List (Nat × β)} {ws : List V},cF R xs ws → (xs.map (·.1)).Nodup → j8 (bz ((xs.map (·.1)).zip ws)) (Sum.inl (n : Int)) = some v →
    cF R' (xs.map fun x=>if x.1 = n then f x else x) ws
  | _,_,.nil,_,h=>nomatch h
  | y :: xs,w :: ws,.cons g t,nd,h=>by
    rw [List.map_cons] at nd
    obtain ⟨n1,n2⟩:=List.nodup_cons.mp nd
    rw [List.map_cons,dA] at h
    rw [List.map_cons]
    by_cases e : y.1 = n
    · rw [lL (lj.mpr e)] at h
      cases h
      rw [if_pos e]
      refine .cons (h1 y e g) ?_
      have hne : ∀ x ∈ xs,x.1 ≠ n:=fun x hx z=>n1 (by rw [e,← z]; exact List.mem_map_of_mem hx)
      have em : xs.map (fun x=>if x.1 = n then f x else x) = xs:=by
        have : xs.map (fun x=>if x.1 = n then f x else x) = xs.map id:=List.map_congr_left fun x hx=>if_neg (hne x hx)
        rw [this,List.map_id]
      rw [em]
      exact t.imp_mem fun x hx u=>h2 x u (hne x hx)
    · rw [jP (fun z=>e (lj.mp z))] at h
      rw [if_neg e]
      exact .cons (h2 y w e g) (cF.WZ h1 h2 t n2 h)
end
theorem cF.set {α β : Type} {R : α → β → Prop} : ∀ {as : List α} {bs : List β} {a : α} {b : β} (j : Nat),cF R as bs → R a b → cF R (as.set j a) (bs.set j b)
  | _,_,_,_,_,.nil,_=>.nil
  | _,_,_,_,0,.cons _ t,h=>.cons h t
  | _,_,_,_,j + 1,.cons g t,h=>.cons g (t.set j h)
def pOb : Rl → Bool | .ob=>true | _=>false
def Qa : Rl → Bool | .rows=>true | _=>false
def Jr : Rl → Bool | .made=>true | _=>false
def Qb : Rl → Bool | .aC=>true | _=>false
def W0 : Rl → Bool | .ob=>true | .aC=>true | .aO=>true | _=>false
def Qc (n : Nat) : Rl → Bool | .qT m=>decide (m = n) | _=>false
def W2 : Rl → Bool | .firsts=>true | _=>false
def W3 : Rl → Bool | .kept=>true | _=>false
def Qd (n : Nat) : Rl → Bool | .ob=>true | .aO=>true | .l9 m=>decide (m = n) | _=>false
theorem q5 {i : Nat} {c : Col} {a b : Addr} {r r' : Rl} (h : c a = some (i,r)) (h' : c b = some (i,r')) (n : r ≠ r') : a ≠ b:=fun z=>by
  rw [z,h'] at h; cases h; exact n rfl
section
variable {A : Adr} {i : Nat} {c c' : Col} {H H' : Hp} {o dx aM aP aA aD aF aE aR : Addr} {st : Ch} {ms ds : List Addr} {ws fs es : List V}
theorem ChX.free {W : Option (Nat × Rl) → Prop} (h : ∀ r,¬ W (some (i,r))) (s : Step W c c' H H') (X : ChX A i c H o st dx aM aP aA aD aF aE aR ms ds ws fs es) : ChX A i c' H' o st dx aM aP aA aD aF aE aR ms ds ws fs es:=by
  have hn : ¬ W (c o):=by rw [X.co]; exact h _
  refine ⟨by rw [s.col o _ X.ob hn]; exact X.co,s.keep _ _ X.ob hn,X.made.keep (h _) s,qV s X.mot,X.aC.keep (h _) s,X.aO.keep (h _) s,X.wait.imp ?_,X.dec.keep (h _) s,qW s X.w5,X.firsts.keep (h _) s,X.first.imp ?_,X.jY.keep (h _) s,X.kept.imp ?_,X.rows.keep (h _) s⟩
  · rintro x v ⟨t,p,e,z1,z2⟩
    exact ⟨t,p,e,z1.step s,z2.keep (h _) s⟩
  · rintro x v ⟨p,e,z⟩
    exact ⟨p,e,z.keep (h _) s⟩
  · rintro x v ⟨p,ts,e,z1,z2⟩
    exact ⟨p,ts,e,z1.keep (h _) s,z2.imp fun _ _ y=>y.step s⟩
theorem ChX.same (s : bQ H H') (X : ChX A i c H o st dx aM aP aA aD aF aE aR ms ds ws fs es) : ChX A i c H' o st dx aM aP aA aD aF aE aR ms ds ws fs es:=X.free (W:=fun _=>False) (fun _=>id) (Step.same id s)
theorem ChX.cl (s : bQ H H') (X : ChX A i c H o st dx aM aP aA aD aF aE aR ms ds ws fs es) : ChX A i (hX c H) H' o st dx aM aP aA aD aF aE aR ms ds ws fs es:=X.free (W:=fun _=>False) (fun _=>id) (Step.cl id s)
theorem ChX.at (X : ChX A i c H o st dx aM aP aA aD aF aE aR ms ds ws fs es) : eZ A i c H o st:=⟨_,_,_,_,_,_,_,_,_,_,_,_,_,X⟩
theorem ChX.attr (X : ChX A i c H o st dx aM aP aA aD aF aE aR ms ds ws fs es) (n : Int) (b : Bool) :
    Step (Wr i pOb) c c H (upd H o (.ins A.ag dx (chF (.int st.dh) (.int n) (.bl b) (.ref aM) (.ref aP) (.ref aA) (.ref aD) (.ref aF) (.ref aE) (.ref aR)))) ∧
    ChX A i c (upd H o (.ins A.ag dx (chF (.int st.dh) (.int n) (.bl b) (.ref aM) (.ref aP) (.ref aA) (.ref aD) (.ref aF) (.ref aE) (.ref aR)))) o { st with a7:=n,closed:=b } dx aM aP aA aD aF aE aR ms ds ws fs es:=by
  have s : Step (Wr i pOb) c c H (upd H o (.ins A.ag dx (chF (.int st.dh) (.int n) (.bl b) (.ref aM) (.ref aP) (.ref aA) (.ref aD) (.ref aF) (.ref aE) (.ref aR)))):=Step.upd Wr.nn (Wr.yes X.co rfl)
  exact ⟨s,X.co,ae,X.made.kp rfl s,qV s X.mot,X.aC.kp rfl s,X.aO.kp rfl s,sL (fun _ _=>rfl) s X.wait,X.dec.kp rfl s,qW s X.w5,X.firsts.kp rfl s,sM (fun _ _=>rfl) s X.first,X.jY.kp rfl s,uz (fun _ _=>rfl) s X.kept,X.rows.kp rfl s⟩
theorem ChX.row (X : ChX A i c H o st dx aM aP aA aD aF aE aR ms ds ws fs es) (z : Str) :
    Step (Wr i Qa) c c H (upd H aR (.lst (st.rows.map V.str ++ [.str z]))) ∧ ChX A i c (upd H aR (.lst (st.rows.map V.str ++ [.str z]))) o { st with rows:=st.rows ++ [z] } dx aM aP aA aD aF aE aR ms ds ws fs es:=by
  have s : Step (Wr i Qa) c c H (upd H aR (.lst (st.rows.map V.str ++ [.str z]))):=Step.upd Wr.nn (Wr.yes X.rows.1 rfl)
  have k:=tD rfl s X.co X.ob
  exact ⟨s,k.1,k.2,X.made.kp rfl s,qV s X.mot,X.aC.kp rfl s,X.aO.kp rfl s,sL (fun _ _=>rfl) s X.wait,X.dec.kp rfl s,qW s X.w5,X.firsts.kp rfl s,sM (fun _ _=>rfl) s X.first,X.jY.kp rfl s,uz (fun _ _=>rfl) s X.kept,X.rows.1,by rw [ae,List.map_append]; rfl⟩
theorem ChX.push (X : ChX A i c H o st dx aM aP aA aD aF aE aR ms ds ws fs es) (n : Nat) :
    Step (Wr i Qb) c c H (upd H aP (.lst (st.aC.map nV ++ [nV n]))) ∧ ChX A i c (upd H aP (.lst (st.aC.map nV ++ [nV n]))) o { st with aC:=st.aC ++ [n] } dx aM aP aA aD aF aE aR ms ds ws fs es:=by
  have s : Step (Wr i Qb) c c H (upd H aP (.lst (st.aC.map nV ++ [nV n]))):=Step.upd Wr.nn (Wr.yes X.aC.1 rfl)
  have k:=tD rfl s X.co X.ob
  exact ⟨s,k.1,k.2,X.made.kp rfl s,qV s X.mot,⟨X.aC.1,by rw [ae,List.map_append]; rfl⟩,X.aO.kp rfl s,sL (fun _ _=>rfl) s X.wait,X.dec.kp rfl s,qW s X.w5,X.firsts.kp rfl s,sM (fun _ _=>rfl) s X.first,X.jY.kp rfl s,uz (fun _ _=>rfl) s X.kept,X.rows.kp rfl s⟩
theorem MY {n k : Nat} (h1 : 1 ≤ n) (h2 : n ≤ k) : (List.range' 1 k)[n - 1]? = some n:=by
  rw [List.getElem?_range' (by omega)]
  congr 1
  omega
theorem ChX.Js (X : ChX A i c H o st dx aM aP aA aD aF aE aR ms ds ws fs es) {n : Nat} {m : Mn} {x : Addr} (hn : gO st n) (hm : mf A c H m x) :
    Step (Wr i Jr) c c H (upd H aM (.dK (putK (bz ((List.range' 1 st.made.length).zip (ms.map V.ref))) (Sum.inl (n : Int)) (.ref x)))) ∧
    ChX A i c (upd H aM (.dK (putK (bz ((List.range' 1 st.made.length).zip (ms.map V.ref))) (Sum.inl (n : Int)) (.ref x)))) o { st with made:=st.made.set (n - 1) m } dx aM aP aA aD aF aE aR (ms.set (n - 1) x) ds ws fs es:=by
  have s : Step (Wr i Jr) c c H (upd H aM (.dK (putK (bz ((List.range' 1 st.made.length).zip (ms.map V.ref))) (Sum.inl (n : Int)) (.ref x)))):=Step.upd Wr.nn (Wr.yes X.made.1 rfl)
  have k:=tD rfl s X.co X.ob
  have ml:=X.mot.len
  have e:=Kg (v:=.ref x) (List.nodup_range' (s:=1) (n:=st.made.length)) (MY hn.1 hn.2) (vs:=ms.map V.ref) (by rw [List.length_range',List.length_map]; exact ml)
  have hd : jX i c (upd H aM (.dK (putK (bz ((List.range' 1 st.made.length).zip (ms.map V.ref))) (Sum.inl (n : Int)) (.ref x)))) .made aM ((List.range' 1 (st.made.set (n - 1) m).length).zip ((ms.set (n - 1) x).map V.ref)) :=
    ⟨X.made.1,by rw [ae,e,List.length_set,List.map_set]⟩
  exact ⟨s,k.1,k.2,hd,(qV s X.mot).set _ (hm.step s),X.aC.kp rfl s,X.aO.kp rfl s,sL (fun _ _=>rfl) s X.wait,X.dec.kp rfl s,qW s X.w5,X.firsts.kp rfl s,sM (fun _ _=>rfl) s X.first,X.jY.kp rfl s,uz (fun _ _=>rfl) s X.kept,X.rows.kp rfl s⟩
theorem ChX.O2 (X : ChX A i c H o st dx aM aP aA aD aF aE aR ms ds ws fs es) {m : Mn} {x : Addr} (hm : mf A c H m x) :
    Step (Wr i Jr) c c H (upd H aM (.dK (putK (bz ((List.range' 1 st.made.length).zip (ms.map V.ref))) (Sum.inl ((st.made.length + 1 : Nat) : Int)) (.ref x)))) ∧
    ChX A i c (upd H aM (.dK (putK (bz ((List.range' 1 st.made.length).zip (ms.map V.ref))) (Sum.inl ((st.made.length + 1 : Nat) : Int)) (.ref x)))) o { st with made:=st.made ++ [m] } dx aM aP aA aD aF aE aR (ms ++ [x]) ds ws fs es:=by
  have s : Step (Wr i Jr) c c H (upd H aM (.dK (putK (bz ((List.range' 1 st.made.length).zip (ms.map V.ref))) (Sum.inl ((st.made.length + 1 : Nat) : Int)) (.ref x)))):=Step.upd Wr.nn (Wr.yes X.made.1 rfl)
  have k:=tD rfl s X.co X.ob
  have ml:=X.mot.len
  have e:=sg (v:=.ref x) (n:=st.made.length + 1) (ks:=List.range' 1 st.made.length) (vs:=ms.map V.ref) (by rw [List.mem_range'_1]; omega) (by rw [List.length_range',List.length_map]; exact ml)
  have hd : jX i c (upd H aM (.dK (putK (bz ((List.range' 1 st.made.length).zip (ms.map V.ref))) (Sum.inl ((st.made.length + 1 : Nat) : Int)) (.ref x)))) .made aM ((List.range' 1 (st.made ++ [m]).length).zip ((ms ++ [x]).map V.ref)) :=
    ⟨X.made.1,by rw [ae,e,List.length_append,List.length_singleton,List.range'_concat,List.map_append,Nat.one_mul,Nat.add_comm 1]; rfl⟩
  exact ⟨s,k.1,k.2,hd,(qV s X.mot).snoc (hm.step s),X.aC.kp rfl s,X.aO.kp rfl s,sL (fun _ _=>rfl) s X.wait,X.dec.kp rfl s,qW s X.w5,X.firsts.kp rfl s,sM (fun _ _=>rfl) s X.first,X.jY.kp rfl s,uz (fun _ _=>rfl) s X.kept,X.rows.kp rfl s⟩
def DL (n : Nat) (e : Ed) (xs : List (Nat × List Ed)) : List (Nat × List Ed):=xs.map fun x=>if x.1 = n then (x.1,x.2 ++ [e]) else x
theorem ChX.Ss (X : ChX A i c H o st dx aM aP aA aD aF aE aR ms ds ws fs es) {n : Nat} {x : Nat × List Ed} (hx : at1 n st.kept = some x) : ∃ (p : Addr) (ts : List Addr),j8 (bz ((st.kept.map (·.1)).zip es)) (Sum.inl (n : Int)) = some (.ref p) ∧ LstAt i c H (.qT n) p (ts.map V.ref) ∧ ts.length = x.2.length:=by
  obtain ⟨v,h1,p,ts,rfl,h2,h3⟩:=X.kept.val hx
  rw [(pM hx).1] at h2
  exact ⟨p,ts,h1,h2,h3.len.symm⟩
theorem ChX.O3 (X : ChX A i c H o st dx aM aP aA aD aF aE aR ms ds ws fs es) {n : Nat} {e : Ed} {t p : Addr} {ts : List Addr} (hv : j8 (bz ((st.kept.map (·.1)).zip es)) (Sum.inl (n : Int)) = some (.ref p)) (hl : LstAt i c H (.qT n) p (ts.map V.ref)) (nd : (st.kept.map (·.1)).Nodup) (ht : TupAt c H t (iY e)) :
    Step (Wr i (Qc n)) c c H (upd H p (.lst (ts.map V.ref ++ [.ref t]))) ∧ ChX A i c (upd H p (.lst (ts.map V.ref ++ [.ref t]))) o { st with kept:=DL n e st.kept } dx aM aP aA aD aF aE aR ms ds ws fs es:=by
  have s : Step (Wr i (Qc n)) c c H (upd H p (.lst (ts.map V.ref ++ [.ref t]))):=Step.upd Wr.nn (Wr.yes hl.1 (decide_eq_true rfl))
  have k:=tD rfl s X.co X.ob
  have ek : (DL n e st.kept).map (·.1) = st.kept.map (·.1):=by
    unfold DL
    rw [List.map_map]
    refine List.map_congr_left fun x _=>?_
    show (if x.1 = n then (x.1,x.2 ++ [e]) else x).1 = x.1
    split <;> rfl
  refine ⟨s,k.1,k.2,X.made.kp rfl s,qV s X.mot,X.aC.kp rfl s,X.aO.kp rfl s,sL (fun _ _=>rfl) s X.wait,X.dec.kp rfl s,qW s X.w5,X.firsts.kp rfl s,sM (fun _ _=>rfl) s X.first,by show jX i c _ .kept aE (((DL n e st.kept).map (·.1)).zip es); rw [ek]; exact X.jY.kp rfl s,?_,X.rows.kp rfl s⟩
  refine cF.WZ (f:=fun x=>(x.1,x.2 ++ [e])) (v:=.ref p) ?_ ?_ X.kept nd hv
  · rintro x e1 ⟨q,us,e2,z1,z2⟩
    cases e2
    have e3 : us.map V.ref = ts.map V.ref:=by
      have:=z1.2
      rw [hl.2] at this
      injection this with this
      injection this with this
      exact this.symm
    refine ⟨p,us ++ [t],rfl,⟨z1.1,?_⟩,(z2.imp fun _ _ y=>y.step s).snoc (ht.step s)⟩
    rw [ae,← e3,List.map_append]; rfl
  · rintro x u e1 ⟨q,us,rfl,z1,z2⟩
    exact ⟨q,us,rfl,z1.kp (decide_eq_false e1) s,z2.imp fun _ _ y=>y.step s⟩
theorem ChX.MZ (X : ChX A i c H o st dx aM aP aA aD aF aE aR ms ds ws fs es) {n : Nat} {tx : List Str} {p : Addr} (hp : H p = none) (hn : n ∉ st.firsts.map (·.1)) :
    Step (Wr i W2) c (aW c p (some (i,.md n))) H (upd (upd H p (.lst (tx.map V.str))) aF (.dK (putK (bz ((st.firsts.map (·.1)).zip fs)) (Sum.inl (n : Int)) (.ref p)))) ∧
    ChX A i (aW c p (some (i,.md n))) (upd (upd H p (.lst (tx.map V.str))) aF (.dK (putK (bz ((st.firsts.map (·.1)).zip fs)) (Sum.inl (n : Int)) (.ref p)))) o { st with firsts:=st.firsts ++ [(n,tx)] } dx aM aP aA aD aF aE aR ms ds ws (fs ++ [.ref p]) es:=by
  have np : ∀ {a : Addr} {v : HO},H a = some v → a ≠ p:=fun e=>aV e hp
  have s : Step (Wr i W2) c (aW c p (some (i,.md n))) H (upd (upd H p (.lst (tx.map V.str))) aF (.dK (putK (bz ((st.firsts.map (·.1)).zip fs)) (Sum.inl (n : Int)) (.ref p)))) :=
    (Step.new Wr.nn hp).trans (Step.upd Wr.nn ⟨.firsts,by rw [av (np X.firsts.2)]; exact X.firsts.1,rfl⟩)
  have k:=tD rfl s X.co X.ob
  have e:=sg (v:=.ref p) hn (vs:=fs) (by rw [List.length_map]; exact X.first.len)
  have hd : jX i (aW c p (some (i,.md n))) (upd (upd H p (.lst (tx.map V.str))) aF (.dK (putK (bz ((st.firsts.map (·.1)).zip fs)) (Sum.inl (n : Int)) (.ref p)))) .firsts aF (((st.firsts ++ [(n,tx)]).map (·.1)).zip (fs ++ [.ref p])) :=
    ⟨by rw [av (np X.firsts.2)]; exact X.firsts.1,by rw [ae,e,List.map_append]; rfl⟩
  have hl : Cz i (aW c p (some (i,.md n))) (upd (upd H p (.lst (tx.map V.str))) aF (.dK (putK (bz ((st.firsts.map (·.1)).zip fs)) (Sum.inl (n : Int)) (.ref p)))) (n,tx) (.ref p) :=
    ⟨p,rfl,bD,(aq (np X.firsts.2).symm).trans ae⟩
  exact ⟨s,k.1,k.2,X.made.kp rfl s,qV s X.mot,X.aC.kp rfl s,X.aO.kp rfl s,sL (fun _ _=>rfl) s X.wait,X.dec.kp rfl s,qW s X.w5,hd,(sM (fun _ _=>rfl) s X.first).snoc hl,X.jY.kp rfl s,uz (fun _ _=>rfl) s X.kept,X.rows.kp rfl s⟩
theorem ChX.O4 (X : ChX A i c H o st dx aM aP aA aD aF aE aR ms ds ws fs es) {n : Nat} {p : Addr} (hp : H p = none) (hn : n ∉ st.kept.map (·.1)) :
    Step (Wr i W3) c (aW c p (some (i,.qT n))) H (upd (upd H p (.lst [])) aE (.dK (putK (bz ((st.kept.map (·.1)).zip es)) (Sum.inl (n : Int)) (.ref p)))) ∧
    ChX A i (aW c p (some (i,.qT n))) (upd (upd H p (.lst [])) aE (.dK (putK (bz ((st.kept.map (·.1)).zip es)) (Sum.inl (n : Int)) (.ref p)))) o { st with kept:=st.kept ++ [(n,([] : List Ed))] } dx aM aP aA aD aF aE aR ms ds ws fs (es ++ [.ref p]):=by
  have np : ∀ {a : Addr} {v : HO},H a = some v → a ≠ p:=fun e=>aV e hp
  have s : Step (Wr i W3) c (aW c p (some (i,.qT n))) H (upd (upd H p (.lst [])) aE (.dK (putK (bz ((st.kept.map (·.1)).zip es)) (Sum.inl (n : Int)) (.ref p)))) :=
    (Step.new Wr.nn hp).trans (Step.upd Wr.nn ⟨.kept,by rw [av (np X.jY.2)]; exact X.jY.1,rfl⟩)
  have k:=tD rfl s X.co X.ob
  have e:=sg (v:=.ref p) hn (vs:=es) (by rw [List.length_map]; exact X.kept.len)
  have hd : jX i (aW c p (some (i,.qT n))) (upd (upd H p (.lst [])) aE (.dK (putK (bz ((st.kept.map (·.1)).zip es)) (Sum.inl (n : Int)) (.ref p)))) .kept aE (((st.kept ++ [(n,([] : List Ed))]).map (·.1)).zip (es ++ [.ref p])) :=
    ⟨by rw [av (np X.jY.2)]; exact X.jY.1,by rw [ae,e,List.map_append]; rfl⟩
  have hl : Jn i (aW c p (some (i,.qT n))) (upd (upd H p (.lst [])) aE (.dK (putK (bz ((st.kept.map (·.1)).zip es)) (Sum.inl (n : Int)) (.ref p)))) (n,[]) (.ref p) :=
    ⟨p,[],rfl,⟨bD,(aq (np X.jY.2).symm).trans ae⟩,.nil⟩
  exact ⟨s,k.1,k.2,X.made.kp rfl s,qV s X.mot,X.aC.kp rfl s,X.aO.kp rfl s,sL (fun _ _=>rfl) s X.wait,X.dec.kp rfl s,qW s X.w5,X.firsts.kp rfl s,sM (fun _ _=>rfl) s X.first,hd,(uz (fun _ _=>rfl) s X.kept).snoc hl,X.rows.kp rfl s⟩
def Ch.sA (st : Ch) (n : Nat) (u : Int) : Ch:={ st with aC:=[],aO:=st.aO ++ [(n,u,st.aC)] }
theorem ChX.sA (X : ChX A i c H o st dx aM aP aA aD aF aE aR ms ds ws fs es) {n : Nat} {u : Int} {t p : Addr} (ht : H t = none) (hp : H p = none) (ntp : p ≠ t) (hn : n ∉ st.aO.map (·.1)) :
    ∃ c',Step (Wr i W0) c c' H (upd (upd (upd (upd H t (.tup [.int u,.ref aP])) aA (.dK (putK (bz ((st.aO.map (·.1)).zip ws)) (Sum.inl (n : Int)) (.ref t)))) p (.lst [])) o (.ins A.ag dx (chF (.int st.dh) (.int st.a7) (.bl st.closed) (.ref aM) (.ref p) (.ref aA) (.ref aD) (.ref aF) (.ref aE) (.ref aR)))) ∧
    ChX A i c' (upd (upd (upd (upd H t (.tup [.int u,.ref aP])) aA (.dK (putK (bz ((st.aO.map (·.1)).zip ws)) (Sum.inl (n : Int)) (.ref t)))) p (.lst [])) o (.ins A.ag dx (chF (.int st.dh) (.int st.a7) (.bl st.closed) (.ref aM) (.ref p) (.ref aA) (.ref aD) (.ref aF) (.ref aE) (.ref aR)))) o (st.sA n u) dx aM p aA aD aF aE aR ms ds (ws ++ [.ref t]) fs es:=by
  have nt : ∀ {a : Addr} {v : HO},H a = some v → a ≠ t:=fun e=>aV e ht
  have np : ∀ {a : Addr} {v : HO},H a = some v → a ≠ p:=fun e=>aV e hp
  have oA : o ≠ aA:=q5 X.co X.aO.1 (fun z=>nomatch z)
  have oP : o ≠ aP:=q5 X.co X.aC.1 (fun z=>nomatch z)
  have AP : aA ≠ aP:=q5 X.aO.1 X.aC.1 (fun z=>nomatch z)
  have e:=sg (v:=.ref t) hn (vs:=ws) (by rw [List.length_map]; exact X.wait.len)
  have hp2 : (upd (upd H t (.tup [.int u,.ref aP])) aA (.dK (putK (bz ((st.aO.map (·.1)).zip ws)) (Sum.inl (n : Int)) (.ref t)))) p = none:=by
    rw [aq (np X.aO.2).symm,aq ntp]; exact hp
  refine ⟨aW (aW (aW c t none) p (some (i,.aC))) aP (some (i,.l9 n)),?_⟩
  have s : Step (Wr i W0) c (aW (aW (aW c t none) p (some (i,.aC))) aP (some (i,.l9 n))) H (upd (upd (upd (upd H t (.tup [.int u,.ref aP])) aA (.dK (putK (bz ((st.aO.map (·.1)).zip ws)) (Sum.inl (n : Int)) (.ref t)))) p (.lst [])) o (.ins A.ag dx (chF (.int st.dh) (.int st.a7) (.bl st.closed) (.ref aM) (.ref p) (.ref aA) (.ref aD) (.ref aF) (.ref aE) (.ref aR)))):=by
    refine ((((Step.new Wr.nn ht).trans (Step.upd Wr.nn ⟨.aO,?_,rfl⟩)).trans (Step.new Wr.nn hp2)).trans (Step.upd Wr.nn ⟨.ob,?_,rfl⟩)).trans (Step.role Wr.nn ⟨.aC,?_,rfl⟩)
    · rw [av (nt X.aO.2)]; exact X.aO.1
    · rw [av (np X.ob),av (nt X.ob)]; exact X.co
    · rw [av (np X.aC.2),av (nt X.aC.2)]; exact X.aC.1
  have k1 : aW (aW (aW c t none) p (some (i,.aC))) aP (some (i,.l9 n)) o = some (i,.ob):=by
    rw [av oP,av (np X.ob),av (nt X.ob)]; exact X.co
  have hd : jX i (aW (aW (aW c t none) p (some (i,.aC))) aP (some (i,.l9 n))) (upd (upd (upd (upd H t (.tup [.int u,.ref aP])) aA (.dK (putK (bz ((st.aO.map (·.1)).zip ws)) (Sum.inl (n : Int)) (.ref t)))) p (.lst [])) o (.ins A.ag dx (chF (.int st.dh) (.int st.a7) (.bl st.closed) (.ref aM) (.ref p) (.ref aA) (.ref aD) (.ref aF) (.ref aE) (.ref aR)))) .aO aA (((st.aO ++ [(n,u,st.aC)]).map (·.1)).zip (ws ++ [.ref t])) :=
    ⟨by rw [av AP,av (np X.aO.2),av (nt X.aO.2)]; exact X.aO.1,by rw [aq oA.symm,aq (np X.aO.2),ae,e,List.map_append]; rfl⟩
  have hl : LstAt i (aW (aW (aW c t none) p (some (i,.aC))) aP (some (i,.l9 n))) (upd (upd (upd (upd H t (.tup [.int u,.ref aP])) aA (.dK (putK (bz ((st.aO.map (·.1)).zip ws)) (Sum.inl (n : Int)) (.ref t)))) p (.lst [])) o (.ins A.ag dx (chF (.int st.dh) (.int st.a7) (.bl st.closed) (.ref aM) (.ref p) (.ref aA) (.ref aD) (.ref aF) (.ref aE) (.ref aR)))) (.l9 n) aP (st.aC.map nV) :=
    ⟨bD,by rw [aq oP.symm,aq (np X.aC.2),aq AP.symm,aq (nt X.aC.2)]; exact X.aC.2⟩
  have hn' : LstAt i (aW (aW (aW c t none) p (some (i,.aC))) aP (some (i,.l9 n))) (upd (upd (upd (upd H t (.tup [.int u,.ref aP])) aA (.dK (putK (bz ((st.aO.map (·.1)).zip ws)) (Sum.inl (n : Int)) (.ref t)))) p (.lst [])) o (.ins A.ag dx (chF (.int st.dh) (.int st.a7) (.bl st.closed) (.ref aM) (.ref p) (.ref aA) (.ref aD) (.ref aF) (.ref aE) (.ref aR)))) .aC p [] :=
    ⟨by rw [av (np X.aC.2).symm,bD],by rw [aq (np X.ob).symm,ae]⟩
  have htt : TupAt (aW (aW (aW c t none) p (some (i,.aC))) aP (some (i,.l9 n))) (upd (upd (upd (upd H t (.tup [.int u,.ref aP])) aA (.dK (putK (bz ((st.aO.map (·.1)).zip ws)) (Sum.inl (n : Int)) (.ref t)))) p (.lst [])) o (.ins A.ag dx (chF (.int st.dh) (.int st.a7) (.bl st.closed) (.ref aM) (.ref p) (.ref aA) (.ref aD) (.ref aF) (.ref aE) (.ref aR)))) t [.int u,.ref aP] :=
    ⟨by rw [av (nt X.aC.2).symm,av ntp.symm,bD],.inl (by rw [aq (nt X.ob).symm,aq ntp.symm,aq (nt X.aO.2).symm,ae])⟩
  exact ⟨s,k1,ae,X.made.kp rfl s,qV s X.mot,hn',hd,(sL (fun _ _=>rfl) s X.wait).snoc ⟨t,aP,rfl,htt,hl⟩,X.dec.kp rfl s,qW s X.w5,X.firsts.kp rfl s,sM (fun _ _=>rfl) s X.first,X.jY.kp rfl s,uz (fun _ _=>rfl) s X.kept,X.rows.kp rfl s⟩
def Ch.uE (st : Ch) (n : Nat) (pl : List Nat) : Ch:={ st with aC:=pl,aO:=st.aO.filter fun x=>decide (x.1 ≠ n) }
theorem ChX.waitOf (X : ChX A i c H o st dx aM aP aA aD aF aE aR ms ds ws fs es) {n : Nat} {x : Nat × Int × List Nat} (hx : at1 n st.aO = some x) : ∃ t p,j8 (bz ((st.aO.map (·.1)).zip ws)) (Sum.inl (n : Int)) = some (.ref t) ∧ TupAt c H t [.int x.2.1,.ref p] ∧ LstAt i c H (.l9 n) p (x.2.2.map nV):=by
  obtain ⟨v,h1,t,p,rfl,h2,h3⟩:=X.wait.val hx
  rw [(pM hx).1] at h3
  exact ⟨t,p,h1,h2,h3⟩
theorem ChX.uE (X : ChX A i c H o st dx aM aP aA aD aF aE aR ms ds ws fs es) {n : Nat} {p : Addr} {pl : List Nat} (hl : LstAt i c H (.l9 n) p (pl.map nV)) :
    ∃ c' ws',Step (Wr i (Qd n)) c c' H (upd (upd H aA (.dK (kL (bz ((st.aO.map (·.1)).zip ws)) (Sum.inl (n : Int))))) o (.ins A.ag dx (chF (.int st.dh) (.int st.a7) (.bl st.closed) (.ref aM) (.ref p) (.ref aA) (.ref aD) (.ref aF) (.ref aE) (.ref aR)))) ∧
    ChX A i c' (upd (upd H aA (.dK (kL (bz ((st.aO.map (·.1)).zip ws)) (Sum.inl (n : Int))))) o (.ins A.ag dx (chF (.int st.dh) (.int st.a7) (.bl st.closed) (.ref aM) (.ref p) (.ref aA) (.ref aD) (.ref aF) (.ref aE) (.ref aR)))) o (st.uE n pl) dx aM p aA aD aF aE aR ms ds ws' fs es:=by
  have oA : o ≠ aA:=q5 X.co X.aO.1 (fun z=>nomatch z)
  have op : o ≠ p:=q5 X.co hl.1 (fun z=>nomatch z)
  have Ap : aA ≠ p:=q5 X.aO.1 hl.1 (fun z=>nomatch z)
  obtain ⟨ws',e1,e2⟩:=X.wait.drop (n:=n)
  refine ⟨aW c p (some (i,.aC)),ws',?_⟩
  have s : Step (Wr i (Qd n)) c (aW c p (some (i,.aC))) H (upd (upd H aA (.dK (kL (bz ((st.aO.map (·.1)).zip ws)) (Sum.inl (n : Int))))) o (.ins A.ag dx (chF (.int st.dh) (.int st.a7) (.bl st.closed) (.ref aM) (.ref p) (.ref aA) (.ref aD) (.ref aF) (.ref aE) (.ref aR)))) :=
    ((Step.upd Wr.nn ⟨.aO,X.aO.1,rfl⟩).trans (Step.upd Wr.nn ⟨.ob,X.co,rfl⟩)).trans (Step.role Wr.nn ⟨.l9 n,hl.1,decide_eq_true rfl⟩)
  have k1 : aW c p (some (i,.aC)) o = some (i,.ob):=by rw [av op]; exact X.co
  have hd : jX i (aW c p (some (i,.aC))) (upd (upd H aA (.dK (kL (bz ((st.aO.map (·.1)).zip ws)) (Sum.inl (n : Int))))) o (.ins A.ag dx (chF (.int st.dh) (.int st.a7) (.bl st.closed) (.ref aM) (.ref p) (.ref aA) (.ref aD) (.ref aF) (.ref aE) (.ref aR)))) .aO aA (((st.aO.filter fun x=>decide (x.1 ≠ n)).map (·.1)).zip ws') :=
    ⟨by rw [av Ap]; exact X.aO.1,by rw [aq oA.symm,ae,e1]⟩
  have hpl : LstAt i (aW c p (some (i,.aC))) (upd (upd H aA (.dK (kL (bz ((st.aO.map (·.1)).zip ws)) (Sum.inl (n : Int))))) o (.ins A.ag dx (chF (.int st.dh) (.int st.a7) (.bl st.closed) (.ref aM) (.ref p) (.ref aA) (.ref aD) (.ref aF) (.ref aE) (.ref aR)))) .aC p (pl.map nV) :=
    ⟨bD,by rw [aq op.symm,aq Ap.symm]; exact hl.2⟩
  exact ⟨s,k1,ae,X.made.kp rfl s,qV s X.mot,hpl,hd,sL (fun x hx=>decide_eq_false (of_decide_eq_true (List.mem_filter.mp hx).2)) s e2,X.dec.kp rfl s,qW s X.w5,X.firsts.kp rfl s,sM (fun _ _=>rfl) s X.first,X.jY.kp rfl s,uz (fun _ _=>rfl) s X.kept,X.rows.kp rfl s⟩
end
end My
set_option maxHeartbeats 1000000
namespace My
open PySem L2
seal PySem.wpAny
def vF (i : Nat) (c : Col) (H : Hp) (t : Addr) (xs : List V) : Prop:=¬ hU i (c t) ∧ H t = some (.tup xs)
def Kh (i : Nat) (c : Col) (H : Hp) (t : Addr) (xs : List V) : Prop:=¬ hU i (c t) ∧ H t = some (.lst xs)
def mn (i : Nat) (c : Col) (H : Hp) : R.dz → Addr → Prop
  | .mat cs,t=>∃ L,vF i c H t [.str (Str.ofString "matter"),.ref L] ∧ Kh i c H L ((cs.map (Str.join R.bl1)).map V.str)
  | .ed m k j ws,t=>∃ e,vF i c H t [.str (R.kEd m),.ref e] ∧ TupAt c H e (R.edR k j (Str.join R.bl1 ws))
  | .pt ws,t=>vF i c H t [.str (Str.ofString "point"),.str (Str.join R.bl1 ws)]
  | .nums kd ns,t=>vF i c H t (.str kd :: ns.map V.int)
section
variable {i : Nat} {c c' : Col} {H H' : Hp} {t : Addr} {xs : List V}
theorem vF.step (s : Step (hU i) c c' H H') (h : vF i c H t xs) : vF i c' H' t xs:=⟨by rw [s.col t _ h.2 h.1]; exact h.1,s.keep _ _ h.2 h.1⟩
theorem Kh.step (s : Step (hU i) c c' H H') (h : Kh i c H t xs) : Kh i c' H' t xs:=⟨by rw [s.col t _ h.2 h.1]; exact h.1,s.keep _ _ h.2 h.1⟩
theorem mn.step (s : Step (hU i) c c' H H') : ∀ {d : R.dz},mn i c H d t → mn i c' H' d t
  | .mat _,⟨L,a,b⟩=>⟨L,a.step s,b.step s⟩
  | .ed _ _ _ _,⟨e,a,b⟩=>⟨e,a.step s,b.step s⟩
  | .pt _,h=>vF.step s h
  | .nums _ _,h=>vF.step s h
theorem mn.at {K : PySem.W.Frag} : ∀ {d : R.dz},mn i c H d t → R.qR K H d t
  | .mat _,⟨L,a,b⟩=>⟨L,SqT.of a.2,SqL.of b.2⟩
  | .ed _ _ _ _,⟨e,a,b⟩=>⟨e,SqT.of a.2,b.sq⟩
  | .pt _,h=>SqT.of h.2
  | .nums _ _,h=>SqT.of h.2
end
theorem GZ {k : Nat} {j : Int} {x : Str} (h : k = 0 ∨ k = 1 ∨ k = 2) : R.edR k j x = iY ⟨k,j,x⟩:=by
  rcases h with rfl | rfl | rfl <;> rfl
theorem CF {t1 t2 : TS} {D : Ends} {σ : St} {H : Hp} (J : St → Hp → Prop) (h2 : ∀ σ' H',J σ' H' → t2 D σ' H') (h1 : ∀ N : St → Hp → Prop,(∀ σ' H',J σ' H' → N σ' H') → t1 { D with nx:=N } σ H) : VU t1 t2 D σ H:=h1 (t2 D) h2
def Ch.opened (st : Ch) : Ch:={ st with closed:=if st.aC = [] then false else st.closed }
def Ch.DM (st : Ch) (row : Str) : Ch:={ st.opened with rows:=st.rows ++ [row] }
def M0 (A : Adr) (i : Nat) : Sp:=fun vs H Q _=>∃ (o t : Addr) (c : Col) (st : Ch) (d : R.dz),vs = [.ref o,.ref t] ∧ eZ A i c H o st ∧ mn i c H d t ∧ R.DOk d ∧ st.rows.length ≤ 1000 ∧
  ∀ c' H',Step (hU i) c c' H H' → eZ A i c' H' o (st.DM (R.tf d)) → Q .non H'
def M3 (A : Adr) (i : Nat) : Sp:=fun vs H Q _=>∃ (o : Addr) (u : Int) (c : Col) (st : Ch) (n : Nat) (r : List Nat),vs = [.ref o,.int u] ∧ eZ A i c H o st ∧ st.aC = n :: r ∧ n ∉ st.aO.map (·.1) ∧ st.aO.length ≤ 1000 ∧
  ∀ c' H',Step (hU i) c c' H H' → eZ A i c' H' o (st.sA n u) → Q .non H'
def Ch.O5 (st : Ch) (n : Nat) (tx : List Str) (e : Ed) : Ch:={ st with made:=st.made.set (n - 1) (.mat (cP tx e)),kept:=DL n e st.kept }
def M4 (A : Adr) (i : Nat) : Sp:=fun vs H Q _=>∃ (o t : Addr) (c : Col) (st : Ch) (n : Nat) (r : List Nat) (tx : List Str) (e : Ed) (x : Nat × List Ed),vs = [.ref o,.ref t] ∧ eZ A i c H o st ∧ st.aC = n :: r ∧ gO st n ∧ st.mo n = .mat tx ∧ tx.length ≤ 1000 ∧ st.made.length ≤ 1000 ∧
  TupAt c H t (iY e) ∧ uw e ∧ iZ tx.length e = true ∧ at1 n st.kept = some x ∧ x.2.length ≤ 1000 ∧ (st.kept.map (·.1)).Nodup ∧
  ∀ c' H',Step (hU i) c c' H H' → eZ A i c' H' o (st.O5 n tx e) → Q .non H'
def Ch.O6 (st : Ch) (n : Nat) (e : Ed) (ws : List Str) : Ch:={ st with made:=st.made.set (n - 1) (.chg ⟨e.k,e.at_,Str.join R.bl1 ws⟩) }
def M5 (A : Adr) (i : Nat) : Sp:=fun vs H Q _=>∃ (o t : Addr) (c : Col) (st : Ch) (n : Nat) (r : List Nat) (e f : Ed),vs = [.ref o,.ref t] ∧ eZ A i c H o st ∧ st.aC = r ++ [n] ∧ gO st n ∧ st.mo n = .chg e ∧ e.k ≠ 1 ∧ uw e ∧ (R.bZ e.th).length ≤ 1000 ∧ st.made.length ≤ 1000 ∧
  TupAt c H t (iY f) ∧ uw f ∧ iZ (R.bZ e.th).length f = true ∧ ((cP (R.bZ e.th) f).map (·.length)).sum + (cP (R.bZ e.th) f).length ≤ 16777216 ∧
  ∀ c' H',Step (hU i) c c' H H' → eZ A i c' H' o (st.O6 n e (cP (R.bZ e.th) f)) → Q .non H'
theorem ChX.O7 {A : Adr} {i : Nat} {c : Col} {H : Hp} {o dx aM aP aA aD aF aE aR : Addr} {st : Ch} {ms ds : List Addr} {ws fs es : List V} (X : ChX A i c H o st dx aM aP aA aD aF aE aR ms ds ws fs es) {n : Nat} (hn : gO st n) :
    ∃ x,j8 (bz ((List.range' 1 st.made.length).zip (ms.map V.ref))) (Sum.inl (n : Int)) = some (.ref x) ∧ mf A c H (st.mo n) x:=by
  have ml:=X.mot.len
  have hlt : n - 1 < st.made.length:=by have:=hn.1; have:=hn.2; omega
  obtain ⟨x,e1,e2⟩:=X.mot.get (List.getElem?_eq_getElem hlt)
  have hv:=zz ms 1 (n - 1) e1
  rw [← ml,show 1 + (n - 1) = n by have:=hn.1; omega] at hv
  have e3 : st.mo n = st.made[n - 1]:=by unfold Ch.mo; rw [List.getD_eq_getElem?_getD,List.getElem?_eq_getElem hlt]; rfl
  exact ⟨x,hv,by rw [e3]; exact e2⟩
section
variable {P : Program} {w : World} {K : PySem.W.Frag} {mg : Str → Option Value} {base : Heap} {A : Adr}
theorem p4 (T : Txt w.params K mg A) {i : Nat} : aw P w K mg base CX0 5 A.bf A.cM ["self","deed"] (M0 A i):=by
  have jZ : aw P w K mg base CX0 4 A.lB A.hG ["deed"] (R.Cy K):=R.pF T
  refine T.cS.ok n9 (fun vs H Q E h=>?_) (fun cdv A' outer s H vs Q E hr h=>?_)
  · obtain ⟨o,t,c,st,d,rfl,_⟩:=h
    rfl
  · obtain ⟨o,t,c,st,d,rfl,hc,hd,hk,hl,q⟩:=h
    have i6:=hr
    refine ⟨_,(ao (bU (u0 (qv (bg (pv 0) rfl) (fun _=>rfl)))
  (aj (eL (pv 0) qt rfl))
  aJ)
  (aj (cI (lH PySem.F.plainAttrs_list PySem.F.slot_list_append PySem.F.type_list_append gR (bg (pv 0) rfl) (aa (bK jZ i6 rfl T.m6 T.jU.kp T.m5 .nil bh (aa (pv 1) ah)) ah))))),?_⟩
    have lim : sizeLine = 16777216:=by decide
    refine CF (fun σ' H'=>σ' = [some (.ref o),some (.ref t)] ∧ Step (hU i) c c H H' ∧ eZ A i c H' o st.opened) ?r (fun N nN=>?f)
    case f =>
      obtain ⟨dx,aM,aP,aA,aD,aF,aE,aR,ms,ds,ws,fs,es,X⟩:=hc.ex
      refine ⟨_,rfl,o,A.ag,dx,_,.ref aP,rfl,X.ob,T.ai,T.jq0,fK,?_⟩
      refine ⟨_,.inl ⟨_,.inl (.inl X.aC.2),rfl⟩,?_⟩
      cases e : st.aC with
      | nil =>
        refine jO ⟨_,rfl,o,A.ag,dx,_,rfl,X.ob,T.ai,T.jq4,(by show 10 < 1000; decide),?_⟩
        rw [zy]
        obtain ⟨s1,X1⟩:=X.attr st.a7 false
        refine nN _ _ ⟨rfl,s1.qU,?_⟩
        have e1 : st.opened = { st with a7:=st.a7,closed:=false }:=by unfold Ch.opened; rw [e,if_pos rfl]
        rw [e1]
        exact X1.at
      | cons x r =>
        refine eD (nN _ _ ⟨rfl,Step.refl a6,?_⟩)
        have e1 : st.opened = st:=by unfold Ch.opened; rw [e,if_neg (List.cons_ne_nil _ _)]; cases st; cases e; rfl
        rw [e1]
        exact hc
    case r =>
      rintro σ' H1 ⟨rfl,s1,hc1⟩
      obtain ⟨dx,aM,aP,aA,aD,aF,aE,aR,ms,ds,ws,fs,es,X⟩:=hc1.ex
      refine ⟨_,rfl,o,A.ag,dx,_,.ref aR,rfl,X.ob,T.ai,T.jqk,uA,?_⟩
      refine ⟨.inl ⟨rfl,_,SqL.of X.rows.2⟩,_,rfl,t,d,rfl,(hd.step s1).at,hk,fun H2 s2=>?_⟩
      have X2:=X.same s2
      obtain ⟨s3,X3⟩:=X2.row (R.tf d)
      refine ⟨aR,_,_,rfl,rfl,X2.rows.2,by rw [List.length_map]; show st.rows.length < _; omega,?_⟩
      exact q c _ ((s1.trans (Step.same a6 s2)).trans s3.qU) X3.at
theorem CG (T : Txt w.params K mg A) {i : Nat} : aw P w K mg base CX0 1 A.bO A.eh ["self","until"] (M3 A i):=by
  refine T.dC.ok qD (fun vs H Q E h=>?_) (fun cdv A' outer s H vs Q E hr h=>?_)
  · obtain ⟨o,u,c,st,n,r,rfl,_⟩:=h
    rfl
  · obtain ⟨o,u,c,st,n,r,rfl,hc,hp,hn,hl,q⟩:=h
    obtain ⟨dx,aM,aP,aA,aD,aF,aE,aR,ms,ds,ws,fs,es,X⟩:=hc.ex
    have hu1:=hr.u1
    have lim : sizeLine = 16777216:=by decide
    refine ⟨_,(ao (rT hu1 (bg (pv 0) rfl) (aS cq (bg (pv 0) rfl) ak (fun _ _=>rfl)) (cQ (aa (pv 1) (aa (bg (pv 0) rfl) ah))) rfl)
  (aj (eL (pv 0) (eB ah) rfl))),?_⟩
    refine ⟨_,rfl,_,rfl,o,A.ag,dx,_,.ref aP,rfl,X.ob,T.ai,T.jq0,fK,(by show 2 ≤ sizeLine; decide),fun t ht=>?_⟩
    have s1:=aH (o:=.tup [V.int u,.ref aP]) ht
    refine ⟨_,rfl,o,A.ag,dx,_,.ref aA,rfl,s1 _ _ X.ob,T.ai,T.jq3,lD,?_⟩
    have h0 : atI (st.aC.map nV) 0 = some (nV n):=by rw [hp]; exact oY (j:=0) rfl
    refine ⟨_,rfl,o,A.ag,dx,_,.ref aP,rfl,s1 _ _ X.ob,T.ai,T.jq0,fK,aP,_,_,_,rfl,rfl,SqL.of (s1 _ _ X.aC.2),h0,?_⟩
    refine ⟨aA,_,rfl,wR.k (k:=Sum.inl (n : Int)) (s1 _ _ X.aO.2) ?_,?_⟩
    · unfold bz
      rw [List.length_map,List.length_zip,List.length_map]
      omega
    have oA : o ≠ aA:=q5 X.co X.aO.1 (fun z=>nomatch z)
    refine ⟨(by show 0 ≤ sizeLine; decide),fun p hp0=>?_⟩
    have npA : p ≠ aA:=fun z=>by rw [z,ae] at hp0; cases hp0
    have npt : p ≠ t:=fun z=>by rw [aq npA,z,ae] at hp0; cases hp0
    have hp1 : H p = none:=by rw [aq npA,aq npt] at hp0; exact hp0
    have hob : (upd (upd (upd H t (.tup [V.int u,.ref aP])) aA (.dK (putK (bz ((st.aO.map (·.1)).zip ws)) (Sum.inl (n : Int)) (.ref t)))) p (.lst [])) o = some (.ins A.ag dx (chF (.int st.dh) (.int st.a7) (.bl st.closed) (.ref aM) (.ref aP) (.ref aA) (.ref aD) (.ref aF) (.ref aE) (.ref aR))):=by
      rw [aq (aV X.ob hp1),aq oA]; exact s1 _ _ X.ob
    refine ⟨_,rfl,o,A.ag,dx,_,rfl,hob,T.ai,T.jq0,(by show 10 < 1000; decide),?_⟩
    rw [DH]
    obtain ⟨c',s2,X2⟩:=X.sA (u:=u) ht hp1 npt hn
    exact q c' _ s2.qU X2.at
theorem vG (T : Txt w.params K mg A) {i : Nat} : aw P w K mg base CX0 4 A.bj A.dc ["self","edit"] (M4 A i):=by
  have MO : aw P w K mg base CX0 1 A.Ka A.A3 ["self","text"] (yu A K):=zw T
  have G0 : aw P w K mg base (CXX P w) 3 A.laid A.ug ["things","edit"] (GS A K):=Jc T
  refine T.cN.ok ic (fun vs H Q E h=>?_) (fun cdv A' outer s H vs Q E hr h=>?_)
  · obtain ⟨o,t,c,st,n,r,tx,e,x,rfl,_⟩:=h
    rfl
  · obtain ⟨o,t,c,st,n,r,tx,e,x,rfl,hc,hp,hn,hm,htx,hml,ht,he,hf,hx,hxl,hnd,q⟩:=h
    obtain ⟨dx,aM,aP,aA,aD,aF,aE,aR,ms,ds,ws,fs,es,X⟩:=hc.ex
    have hu1:=hr.u1
    have CH : Room 3 _:=hr
    have fq : Room 2 _:=hr.mono (by decide)
    have lim : sizeLine = 16777216:=by decide
    refine ⟨_,(ao (bA (i:=2) ic.nd rfl (Or.inl rfl) (aS cq (bg (pv 0) rfl) ak (fun _ _=>rfl)))
  (ao (rT hu1 (bg (pv 0) rfl) (pv 2) (gs T.ur MO fq rfl T.uo T.OO .nil bh (aa (bK G0 CH rfl T.GL T.Ca.kp T.GK .nil BO (aa (bg (mV hu1 (bg (pv 0) rfl) (pv 2) (fun _ _=>rfl)) rfl) (aa (pv 1) ah))) ah)) rfl)
  (aj (cI (lH PySem.F.plainAttrs_list PySem.F.slot_list_append PySem.F.type_list_append gR (mV hu1 (bg (pv 0) rfl) (pv 2) (fun _ _=>rfl)) (aa (pv 1) ah)))))),?_⟩
    have h0 : atI (st.aC.map nV) 0 = some (nV n):=by rw [hp]; exact oY (j:=0) rfl
    obtain ⟨m,hv,hmo⟩:=X.O7 hn
    rw [hm] at hmo
    obtain ⟨_,dm,v,Su,L,rfl,hL⟩:=hmo
    refine ⟨_,rfl,o,A.ag,dx,_,.ref aP,rfl,X.ob,T.ai,T.jq0,fK,aP,_,_,_,rfl,rfl,SqL.of X.aC.2,h0,?_⟩
    refine ⟨_,rfl,o,A.ag,dx,_,.ref aM,rfl,X.ob,T.ai,T.jq2,il,_,rfl,aM,_,rfl,.inl ⟨_,Sum.inl (n : Int),.inl X.made.2,rfl,hv.symm⟩,?_⟩
    refine ⟨m,A.C 0,dm,_,.ref L,rfl,Su,T.cl 0 (by decide),T.na0,rfl,_,rfl,?_⟩
    refine ⟨L,t,tx,e,rfl,SqL.of hL.2,htx,ht.sq,he,fun _ p hp0=>?_,fun z=>by rw [hf] at z; cases z⟩
    refine fun y dy hy hdy ndy=>?_
    refine ⟨y,dy,p,(cP tx e).map V.str,rfl,ae,?_,fun p2 hp2=>⟨rfl,?_⟩⟩
    · exact (((aH hdy).new ((aq (Ne.symm ndy)).trans hy)).seq (SqL.of ae))
    have hy0 : H y = none:=by
      by_cases z : y = p
      · rw [z,ae] at hy; cases hy
      · rw [aq z] at hy; exact hy
    have ab9 : H dy = none:=by
      by_cases z : dy = p
      · rw [z,ae] at hdy; cases hdy
      · rw [aq z] at hdy; exact hdy
    have sm0 : bQ H (upd (upd (upd H p (.lst ((cP tx e).map V.str))) dy (.own y)) y (.ins (A.C 0) dy [])):=((aH hp0).own ab9).own hy0
    have W4 : H p2 = none:=by
      cases z : H p2 with
      | none=>rfl
      | some v=>rw [sm0 _ _ z] at hp2; cases hp2
    have sm : bQ H (upd (upd (upd (upd (upd H p (.lst ((cP tx e).map V.str))) dy (.own y)) y (.ins (A.C 0) dy [])) p2 (.lst ((cP tx e).map V.str))) y (.ins (A.C 0) dy (oE 0 (.ref p2)))):=(sm0.own W4).own hy0
    have nyp : y ≠ p2:=fun z=>by rw [← z,ae] at hp2; cases hp2
    have X1:=X.cl sm
    have hmn : mf A (hX c H) (upd (upd (upd (upd (upd H p (.lst ((cP tx e).map V.str))) dy (.own y)) y (.ins (A.C 0) dy [])) p2 (.lst ((cP tx e).map V.str))) y (.ins (A.C 0) dy (oE 0 (.ref p2)))) (.mat (cP tx e)) y :=
      ⟨dY hy0,dy,.ref p2,ae,p2,rfl,dY W4,(aq (Ne.symm nyp)).trans ae⟩
    have st1 : Step (hU i) c (hX c H) H _:=Step.cl a6 sm
    have ht1:=ht.step st1
    generalize upd (upd (upd (upd (upd H p (.lst ((cP tx e).map V.str))) dy (.own y)) y (.ins (A.C 0) dy [])) p2 (.lst ((cP tx e).map V.str))) y (.ins (A.C 0) dy (oE 0 (.ref p2))) = H1 at X1 hmn st1 ht1 ⊢
    generalize hX c H = c1 at X1 hmn st1 ht1
    refine ⟨_,rfl,o,A.ag,dx,_,.ref aM,rfl,X1.ob,T.ai,T.jq2,il,_,rfl,aM,_,rfl,wR.k (k:=Sum.inl (n : Int)) X1.made.2 ?_,?_⟩
    · unfold bz
      rw [List.length_map,List.length_zip,List.length_range']
      omega
    obtain ⟨s2,X2⟩:=X1.Js hn hmn
    have ht2:=ht1.step s2.qU
    generalize upd H1 aM (.dK (putK (bz ((List.range' 1 st.made.length).zip (ms.map V.ref))) (Sum.inl (n : Int)) (.ref y))) = H2 at s2 X2 ht2 ⊢
    obtain ⟨pk,ts,hv2,hl2,tl⟩:=X2.Ss hx
    refine ⟨_,rfl,o,A.ag,dx,_,.ref aE,rfl,X2.ob,T.ai,T.jq5,qX,_,rfl,aE,_,rfl,.inl ⟨_,Sum.inl (n : Int),.inl X2.jY.2,rfl,hv2.symm⟩,?_⟩
    refine ⟨.inl ⟨rfl,_,SqL.of hl2.2⟩,_,rfl,pk,_,_,rfl,rfl,hl2.2,by rw [List.length_map]; omega,?_⟩
    obtain ⟨s3,X3⟩:=X2.O3 hv2 hl2 hnd ht2
    exact q c1 _ ((st1.trans s2.qU).trans s3.qU) X3.at
theorem vH (T : Txt w.params K mg A) {i : Nat} : aw P w K mg base CX0 4 A.bp A.df ["self","edit"] (M5 A i):=by
  have MP : aw P w K mg base CX0 1 A.Kb A.A4 ["self","edit"] (ju A 1):=l8 T
  have G0 : aw P w K mg base (CXX P w) 3 A.laid A.ug ["things","edit"] (GS A K):=Jc T
  have fv : aw P w K mg base CX0 1 A.words_of A.e9 ["clause"] R.lC:=R.jW T
  have qS : aw P w K mg base CX0 1 A.oq A.iU ["words"] (R.tj K):=R.uy T
  refine T.cO.ok c9 (fun vs H Q E h=>?_) (fun cdv A' outer s H vs Q E hr h=>?_)
  · obtain ⟨o,t,c,st,n,r,e,f,rfl,_⟩:=h
    rfl
  · obtain ⟨o,t,c,st,n,r,e,f,rfl,hc,hp,hn,hm,hk1,heo,hwl,hml,ht,hfo,hf,hsz,q⟩:=h
    obtain ⟨dx,aM,aP,aA,aD,aF,aE,aR,ms,ds,ws,fs,es,X⟩:=hc.ex
    have hu1:=hr.u1
    have CH : Room 3 _:=hr
    have fq : Room 2 _:=hr.mono (by decide)
    have ez : Room 1 _:=hr.mono (by decide)
    have pG : Room 1 _:=hr.mono (by decide)
    have lim : sizeLine = 16777216:=by decide
    refine ⟨_,(ao (bA (i:=2) c9.nd rfl (Or.inl rfl) (aS cq (bg (pv 0) rfl) (AG u3 ak) (fun _ _=>rfl)))
  (ao (bA (i:=3) c9.nd rfl (Or.inl rfl) (bg (mV hu1 (bg (pv 0) rfl) (pv 2) (fun _ _=>rfl)) rfl))
  (ao (bA (i:=4) c9.nd rfl (Or.inl rfl) (bK G0 CH rfl T.GL T.Ca.kp T.GK .nil BO (aa (bK fv ez rfl T.jr T.iA.kp T.jq .nil bh (aa (aS aY (pv 3) ak (fun _ _=>rfl)) ah)) (aa (pv 1) ah))))
  (aj (rT hu1 (bg (pv 0) rfl) (pv 2) (gs T.uu MP fq rfl T.uq T.OP .nil bh (aa (cQ (aa (aS aY (pv 3) ak (fun _ _=>rfl)) (aa (aS aY (pv 3) ak (fun _ _=>rfl)) (aa (bK qS pG rfl T.qJ T.mZ.kp T.qI .nil bh (aa (pv 4) ah)) ah)))) ah)) rfl))))),?_⟩
    have h0 : atI (st.aC.map nV) (-1) = some (nV n):=by rw [hp,List.map_append]; exact yB _ _
    obtain ⟨m,hv,hmo⟩:=X.O7 hn
    rw [hm] at hmo
    obtain ⟨_,dm,v,Su,te,rfl,hte⟩:=hmo
    refine ⟨_,rfl,o,A.ag,dx,_,.ref aP,rfl,X.ob,T.ai,T.jq0,fK,_,rfl,aP,_,_,_,rfl,rfl,SqL.of X.aC.2,h0,?_⟩
    refine ⟨_,rfl,o,A.ag,dx,_,.ref aM,rfl,X.ob,T.ai,T.jq2,il,_,rfl,aM,_,rfl,.inl ⟨_,Sum.inl (n : Int),.inl X.made.2,rfl,hv.symm⟩,?_⟩
    refine ⟨m,A.C 1,dm,_,.ref te,rfl,Su,T.cl 1 (by decide),T.na1,rfl,?_⟩
    have h2:=Co (e:=e) hk1
    refine ⟨_,rfl,te,_,_,_,rfl,rfl,hte.sq,h2,e.th,rfl,?_,fun p1 hp1=>?_⟩
    · have:=heo.th.len; omega
    have s1:=aH (o:=.lst ((R.bZ e.th).map V.str)) hp1
    refine ⟨_,rfl,p1,t,R.bZ e.th,f,rfl,SqL.of ae,hwl,d8 s1 ht.sq,hfo,fun _ p2 hp2=>?_,fun z=>by rw [hf] at z; cases z⟩
    have s2:=s1.new (o:=.lst ((cP (R.bZ e.th) f).map V.str)) hp2
    refine ⟨_,rfl,te,_,_,_,rfl,rfl,d8 s2 hte.sq,Ck e,_,rfl,te,_,_,_,rfl,rfl,d8 s2 hte.sq,Cn e,_,rfl,p2,_,rfl,SqL.of ae,hsz,(by show 3 ≤ sizeLine; decide),fun tn htn=>?_⟩
    have s3:=s2.new (o:=.tup [V.str (kn e.k),.int e.at_,.str (Str.join R.bl1 (cP (R.bZ e.th) f))]) htn
    refine fun y dy hy hdy ndy=>?_
    refine ⟨y,dy,.ref tn,rfl,ae,rfl,?_⟩
    have hno : ∀ {a : Addr},(upd (upd (upd H p1 (.lst ((R.bZ e.th).map V.str))) p2 (.lst ((cP (R.bZ e.th) f).map V.str))) tn (.tup [V.str (kn e.k),.int e.at_,.str (Str.join R.bl1 (cP (R.bZ e.th) f))])) a = none → H a = none:=by
      intro a ha
      cases z : H a with
      | none=>rfl
      | some v=>rw [s3 _ _ z] at ha; cases ha
    have nyt : y ≠ tn:=fun z=>by rw [z,ae] at hy; cases hy
    have ndt : dy ≠ tn:=fun z=>by rw [z,ae] at hdy; cases hdy
    have aca : H tn = none:=by
      cases z : H tn with
      | none=>rfl
      | some v=>rw [s2 _ _ z] at htn; cases htn
    have sm:=((s3.own (o:=.own y) (hno hdy)).own (o:=.ins (A.C 1) dy []) (hno hy)).own (o:=.ins (A.C 1) dy (oE 1 (.ref tn))) (hno hy)
    have X1:=X.cl sm
    have er : iY ⟨e.k,e.at_,Str.join R.bl1 (cP (R.bZ e.th) f)⟩ = [V.str (kn e.k),.int e.at_,.str (Str.join R.bl1 (cP (R.bZ e.th) f))]:=by
      obtain ⟨k,a,th⟩:=e
      have h3:=heo.k3
      dsimp only at h3 hk1 ⊢
      rcases h3 with rfl | rfl | rfl
      · rfl
      · exact absurd rfl hk1
      · rfl
    have hmn:=(⟨dY (hno hy),dy,.ref tn,ae,tn,rfl,dY aca,.inl (by rw [aq (Ne.symm nyt),aq (Ne.symm nyt),aq (Ne.symm ndt),ae,er])⟩ : mf A (hX c H) (upd (upd (upd (upd (upd (upd H p1 (.lst ((R.bZ e.th).map V.str))) p2 (.lst ((cP (R.bZ e.th) f).map V.str))) tn (.tup [V.str (kn e.k),.int e.at_,.str (Str.join R.bl1 (cP (R.bZ e.th) f))])) dy (.own y)) y (.ins (A.C 1) dy [])) y (.ins (A.C 1) dy (oE 1 (.ref tn)))) (.chg ⟨e.k,e.at_,Str.join R.bl1 (cP (R.bZ e.th) f)⟩) y)
    have st1 : Step (hU i) c (hX c H) H _:=Step.cl a6 sm
    generalize upd (upd (upd (upd (upd (upd H p1 (.lst ((R.bZ e.th).map V.str))) p2 (.lst ((cP (R.bZ e.th) f).map V.str))) tn (.tup [V.str (kn e.k),.int e.at_,.str (Str.join R.bl1 (cP (R.bZ e.th) f))])) dy (.own y)) y (.ins (A.C 1) dy [])) y (.ins (A.C 1) dy (oE 1 (.ref tn))) = H1 at X1 hmn st1 ⊢
    generalize hX c H = c1 at X1 hmn st1
    refine ⟨_,rfl,o,A.ag,dx,_,.ref aM,rfl,X1.ob,T.ai,T.jq2,il,_,rfl,aM,_,rfl,wR.k (k:=Sum.inl (n : Int)) X1.made.2 ?_,?_⟩
    · unfold bz
      rw [List.length_map,List.length_zip,List.length_range']
      omega
    obtain ⟨s4,X2⟩:=X1.Js hn hmn
    exact q c1 _ (st1.trans s4.qU) X2.at
end
end My
set_option maxHeartbeats 1000000
namespace My
open PySem L2
seal PySem.wpAny
def zH (below : List Mn) : Mn → Prop
  | .mat _=>below = []
  | .chg e=>∃ tx,below = [.mat tx] ∧ iZ tx.length e = true
  | .mnd f=>∃ tx e,below = [.mat tx,.chg e] ∧ e.k ≠ 1 ∧ iZ (R.bZ e.th).length f = true
  | .off _=>(∃ tx r,below = .mat tx :: r) ∧ ∀ b ∈ below,b.k < 3
  | .cls=>(∃ tx r,below = .mat tx :: r) ∧ ∀ b ∈ below,b.k < 4
  | .lay=>(∃ tx r,below = .mat tx :: r) ∧ ∀ b ∈ below,b.k < 5
  | .rst=>∀ b ∈ below,b.k < 6
  | .pnt _=>∀ b ∈ below,b.k < 7
inductive PMs : List Mn → Prop
  | nil : PMs []
  | snoc {ms : List Mn} {m : Mn} : PMs ms → zH ms m → PMs (ms ++ [m])
theorem PMs.pop {ms : List Mn} {m : Mn} (h : PMs (ms ++ [m])) : PMs ms ∧ zH ms m:=by
  generalize e : ms ++ [m] = l at h
  cases h with
  | nil=>simp at e
  | snoc h1 h2 =>
    obtain ⟨e1,e2⟩:=List.append_inj' e rfl
    cases e2
    subst e1
    exact ⟨h1,h2⟩
theorem zH.lt {below : List Mn} : ∀ {m : Mn},zH below m → ∀ b ∈ below,b.k < m.k
  | .mat _,h,b,hb=>by rw [h] at hb; cases hb
  | .chg _,⟨tx,h,_⟩,b,hb=>by
    rw [h,List.mem_singleton] at hb
    rw [hb]; show 0 < 1; decide
  | .mnd _,⟨tx,e,h,_,_⟩,b,hb=>by
    rw [h] at hb
    rcases List.mem_cons.mp hb with rfl | hb
    · show 0 < 2; decide
    · rw [List.mem_singleton] at hb
      rw [hb]; show 1 < 2; decide
  | .off _,h,b,hb=>h.2 b hb
  | .cls,h,b,hb=>h.2 b hb
  | .lay,h,b,hb=>h.2 b hb
  | .rst,h,b,hb=>h b hb
  | .pnt _,h,b,hb=>h b hb
theorem PMs.le_top {ms : List Mn} (h : PMs ms) : ∀ b ∈ ms,(b.k : Int) ≤ sv ms:=by
  cases h with
  | nil=>intro b hb; cases hb
  | snoc h1 h2 =>
    intro b hb
    rw [sf]
    rcases List.mem_append.mp hb with hb | hb
    · have:=h2.lt b hb; omega
    · rw [List.mem_singleton] at hb; rw [hb]; exact Int.le_refl _
theorem PMs.Ki {ms : List Mn} (h : PMs ms) : Kd ms = true → ∃ tx r,ms = .mat tx :: r:=by
  induction h with
  | nil=>intro h; cases h
  | @snoc ms m h1 h2 ih =>
    intro h
    unfold Kd at h ih
    rw [List.any_append,Bool.or_eq_true] at h
    rcases h with h | h
    · obtain ⟨tx,r,e⟩:=ih h
      exact ⟨tx,r ++ [m],by rw [e]; rfl⟩
    · cases m with
      | mat tx =>
        have : ms = []:=h2
        rw [this]
        exact ⟨tx,[],rfl⟩
      | _=>simp [Mn.k] at h
theorem PMs.len {ms : List Mn} (h : PMs ms) : (ms.length : Int) ≤ sv ms + 1:=by
  induction h with
  | nil=>decide
  | @snoc ms m h1 h2 ih =>
    rw [sf,List.length_append,List.length_singleton]
    have : sv ms < (m.k : Int):=by
      unfold sv
      split
      · omega
      · rename_i b hb
        have:=h2.lt b (List.mem_of_getLast? hb)
        omega
    omega
theorem PMs.Kj {ms : List Mn} (h : PMs ms) : ms.length ≤ 8:=by
  have:=h.len
  have:=MU ms
  omega
theorem wF (cl : Bool) (ms : List Mn) : sv ms ≤ uB cl ms:=by
  unfold uB
  split
  · split <;> omega
  · exact Int.le_refl _
theorem uF {cl : Bool} {ms : List Mn} {k : Nat} (h : zC cl ms k = none) : sv ms < (k : Int) ∧ DI ms k = true:=by
  have hb:=wF cl ms
  unfold zC at h
  split at h
  · cases h
  · split at h
    · exact ⟨by omega,by assumption⟩
    · split at h <;> cases h
theorem DN {ms : List Mn} (h : sv ms < 0) : ms = []:=by
  rcases List.eq_nil_or_concat ms with e | ⟨r,b,e⟩
  · exact e
  · rw [e,List.concat_eq_append,sf] at h; omega
def W5 (ms : List Mn) : Mn → Prop
  | .chg e=>∀ tx r,ms = .mat tx :: r → iZ tx.length e = true
  | .mnd f=>∀ r e,ms = r ++ [.chg e] → iZ (R.bZ e.th).length f = true
  | _=>True
theorem sj {α : Type} {xs : List α} {x : α} (h : xs.getLast? = some x) : ∃ r,xs = r ++ [x]:=by
  rcases List.eq_nil_or_concat xs with e | ⟨r,b,e⟩
  · rw [e] at h; cases h
  · rw [List.concat_eq_append] at e
    rw [e,List.getLast?_concat] at h
    cases h
    exact ⟨r,e⟩
theorem PMs.push {cl : Bool} {ms : List Mn} (h : PMs ms) {m : Mn} (ho : zC cl ms m.k = none) (hf : W5 ms m) : PMs (ms ++ [m]):=by
  obtain ⟨h1,h2⟩:=uF ho
  have lt : ∀ b ∈ ms,b.k < m.k:=fun b hb=>by have:=h.le_top b hb; omega
  refine .snoc h ?_
  cases m with
  | mat tx=>exact DN h1
  | chg e =>
    obtain ⟨tx,r,e1⟩:=h.Ki h2
    refine ⟨tx,?_,hf tx r e1⟩
    rcases List.eq_nil_or_concat r with e2 | ⟨r',b,e2⟩
    · rw [e1,e2]
    · rw [List.concat_eq_append] at e2
      have hb : b.k < 1:=lt b (by rw [e1,e2]; simp)
      rw [e1,e2,← List.cons_append] at h
      have ht:=h.pop.2
      cases b with
      | mat ty=>exact absurd ht (List.cons_ne_nil _ _)
      | _=>simp [Mn.k] at hb
  | mnd f =>
    have h3 : pI ms = true:=h2
    unfold pI at h3
    split at h3
    · rename_i e he
      obtain ⟨r,e1⟩:=sj he
      rw [e1] at h
      obtain ⟨tx,e2,_⟩:=h.pop.2
      refine ⟨tx,e,by rw [e1,e2]; rfl,?_,hf r e e1⟩
      intro z
      rw [z] at h3
      cases h3
    · cases h3
  | off n=>exact ⟨h.Ki h2,lt⟩
  | cls=>exact ⟨h.Ki h2,lt⟩
  | lay=>exact ⟨h.Ki h2,lt⟩
  | rst=>exact lt
  | pnt z=>exact lt
theorem G1 {st : Ch} {n : Nat} {m : Mn} (hn : gO st n) {st' : Ch} (h : st'.made = st.made.set (n - 1) m) : st'.mo n = m:=by
  unfold Ch.mo
  have:=hn.1; have:=hn.2
  rw [h,List.getD_eq_getElem?_getD,List.getElem?_set_self (by omega)]
  rfl
theorem vI {st : Ch} {n k : Nat} {m : Mn} (hn : gO st n) (h1 : 1 ≤ k) (ne : k ≠ n) {st' : Ch} (h : st'.made = st.made.set (n - 1) m) : st'.mo k = st.mo k:=by
  unfold Ch.mo
  have:=hn.1
  rw [h,List.getD_eq_getElem?_getD,List.getElem?_set_ne (by omega),← List.getD_eq_getElem?_getD]
theorem M6 {st : Ch} {m : Mn} {st' : Ch} (h : st'.made = st.made ++ [m]) {k : Nat} (hk : gO st k) : st'.mo k = st.mo k:=by
  unfold Ch.mo
  have:=hk.1; have:=hk.2
  rw [h,List.getD_eq_getElem?_getD,List.getElem?_append_left (by omega),← List.getD_eq_getElem?_getD]
theorem M7 {st : Ch} {m : Mn} {st' : Ch} (h : st'.made = st.made ++ [m]) : st'.mo (st.made.length + 1) = m:=by
  unfold Ch.mo
  rw [h,List.getD_eq_getElem?_getD,Nat.add_sub_cancel,List.getElem?_append_right (Nat.le_refl _),Nat.sub_self]
  rfl
def EdB (N : Nat) (e : Ed) : Prop:=(e.k = 0 ∨ e.k = 1 ∨ e.k = 2) ∧ -1000 ≤ e.at_ ∧ e.at_ ≤ 1000 ∧ ∃ ws,e.th = Str.join R.bl1 ws ∧ (∀ w ∈ ws,R.ny w) ∧ ws.length ≤ N
def MOk (N : Nat) : Mn → Prop
  | .mat tx=>tx.length ≤ 12 + N ∧ ∀ x ∈ tx,PyData.strOk x = true
  | .chg e=>EdB (12 + N) e
  | .mnd f=>EdB 1 f ∧ ∃ w,f.th = w ∧ R.ny w
  | .off u=>-10000000000 < u ∧ u < 10000000000
  | .pnt z=>PyData.strOk z = true
  | _=>True
theorem EdB.mono {N M : Nat} (h : N ≤ M) {e : Ed} (z : EdB N e) : EdB M e:=by
  obtain ⟨a,b,c,ws,d,f,g⟩:=z
  exact ⟨a,b,c,ws,d,f,Nat.le_trans g h⟩
theorem MOk.mono {N M : Nat} (h : N ≤ M) : ∀ {m : Mn},MOk N m → MOk M m
  | .mat tx,z=>⟨Nat.le_trans z.1 (by omega),z.2⟩
  | .chg e,z=>EdB.mono (by omega) z
  | .mnd f,z=>z
  | .off u,z=>z
  | .cls,_=>trivial
  | .lay,_=>trivial
  | .rst,_=>trivial
  | .pnt _,z=>z
def Ch.all (st : Ch) : List Nat:=st.aC ++ (st.aO.flatMap (·.2.2) ++ st.decided.map (·.1))
def Ch.vJ (st : Ch) : List Nat:=(List.range' 1 st.made.length).filter fun n=>decide ((st.mo n).k = 0)
structure Inv (N : Nat) (st : Ch) : Prop where
  lm : 3 * st.made.length ≤ N
  lr : st.rows.length ≤ N
  ld : st.decided.length ≤ N
  la : st.aO.length ≤ N
  lk : ∀ x ∈ st.kept,x.2.length ≤ N
  sit : 1 ≤ st.a7 ∧ st.a7 ≤ N + 1
  mok : ∀ m ∈ st.made,MOk N m
  num : ∀ n ∈ st.all,gO st n
  nd : st.all.Nodup
  pil : PMs (st.aC.map st.mo)
  asd : ∀ x ∈ st.aO,PMs (x.2.2.map st.mo) ∧ (∃ r,x.2.2 = x.1 :: r) ∧ -10000000000 < x.2.1 ∧ x.2.1 < 10000000000
  kk : st.kept.map (·.1) = st.vJ
  ff : st.firsts.map (·.1) = st.vJ
  dw : ∀ x ∈ st.decided,PyData.strOk x.2 = true
theorem Inv.mono {N M : Nat} (h : N ≤ M) {st : Ch} (I : Inv N st) : Inv M st where
  lm:=Nat.le_trans I.lm h
  lr:=Nat.le_trans I.lr h
  ld:=Nat.le_trans I.ld h
  la:=Nat.le_trans I.la h
  lk:=fun x hx=>Nat.le_trans (I.lk x hx) h
  sit:=⟨I.sit.1,by have:=I.sit.2; omega⟩
  mok:=fun m hm=>(I.mok m hm).mono h
  num:=I.num
  nd:=I.nd
  pil:=I.pil
  asd:=I.asd
  kk:=I.kk
  ff:=I.ff
  dw:=I.dw
theorem Inv.DO {N : Nat} {st : Ch} (I : Inv N st) {n : Nat} (hn : gO st n) : MOk N (st.mo n):=by
  have:=hn.1; have:=hn.2
  have hlt : n - 1 < st.made.length:=by omega
  have e : st.mo n = st.made[n - 1]:=by unfold Ch.mo; rw [List.getD_eq_getElem?_getD,List.getElem?_eq_getElem hlt]; rfl
  rw [e]
  exact I.mok _ (List.getElem_mem hlt)
theorem Inv.fw {N : Nat} {st : Ch} (I : Inv N st) : ∀ n ∈ st.aC,gO st n:=fun n hn=>I.num n (List.mem_append_left _ hn)
theorem Inv.zI {N : Nat} {st : Ch} (I : Inv N st) {x : Nat × Int × List Nat} (hx : x ∈ st.aO) : ∀ n ∈ x.2.2,gO st n:=fun n hn =>
  I.num n (List.mem_append_right _ (List.mem_append_left _ (List.mem_flatMap.mpr ⟨x,hx,hn⟩)))
theorem Inv.Jt {N : Nat} {st : Ch} (I : Inv N st) {n : Nat} (hn : n ∈ st.aC) {x : Nat × Int × List Nat} (hx : x ∈ st.aO) : n ∉ x.2.2:=fun z =>
  (List.nodup_append.mp I.nd).2.2 n hn n (List.mem_append_left _ (List.mem_flatMap.mpr ⟨x,hx,z⟩)) rfl
theorem Inv.M8 {N : Nat} {st : Ch} (I : Inv N st) {n : Nat} (hn : n ∈ st.aC) : n ∉ st.aO.map (·.1):=fun z=>by
  obtain ⟨x,hx,e⟩:=List.mem_map.mp z
  obtain ⟨r,er⟩:=(I.asd x hx).2.1
  exact I.Jt hn hx (by rw [er,e]; exact List.mem_cons_self)
theorem O8 {st st' : Ch} (hl : st'.made.length = st.made.length) (hk : ∀ n,gO st n → (st'.mo n).k = (st.mo n).k) : st'.vJ = st.vJ:=by
  unfold Ch.vJ
  rw [hl]
  refine List.filter_congr fun n hn=>?_
  rw [List.mem_range'_1] at hn
  rw [hk n ⟨hn.1,by omega⟩]
theorem G2 (st : Ch) : st.vJ.Nodup:=List.filter_sublist.nodup List.nodup_range'
theorem Inv.keptAt {N : Nat} {st : Ch} (I : Inv N st) {n : Nat} (hn : gO st n) (hk : (st.mo n).k = 0) : ∃ x,at1 n st.kept = some x ∧ x.2.length ≤ N:=by
  cases e : at1 n st.kept with
  | some x=>exact ⟨x,rfl,I.lk x (pM e).2⟩
  | none =>
    have h:=zG e
    rw [I.kk] at h
    have hr : n ∈ List.range' 1 st.made.length:=by
      rw [List.mem_range'_1]
      have:=hn.1; have:=hn.2
      omega
    exact absurd (show n ∈ st.vJ from List.mem_filter.mpr ⟨hr,by exact decide_eq_true hk⟩) h
def Ch.popped (st : Ch) (pre : List Nat) (n : Nat) (wd : Str) : Ch:={ st with aC:=pre,decided:=st.decided ++ [(n,wd)] }
theorem Inv.pop {N : Nat} {st : Ch} (I : Inv N st) {pre : List Nat} {n : Nat} (e : st.aC = pre ++ [n]) (wd : Str) (hw : PyData.strOk wd = true) : Inv (N + 1) (st.popped pre n wd) ∧ zH (pre.map st.mo) (st.mo n):=by
  have hp:=I.pil
  rw [e,List.map_append] at hp
  obtain ⟨p1,p2⟩:=PMs.pop hp
  have perm : List.Perm (st.popped pre n wd).all st.all:=by
    unfold Ch.all Ch.popped
    rw [e,List.map_append]
    have : List.Perm (st.aO.flatMap (·.2.2) ++ (st.decided.map (·.1) ++ [(n,wd)].map (·.1))) ([n] ++ (st.aO.flatMap (·.2.2) ++ st.decided.map (·.1))):=by
      rw [← List.append_assoc]
      exact List.perm_append_comm
    exact (List.Perm.append_left pre this).trans (by rw [List.append_assoc])
  refine ⟨⟨Nat.le_succ_of_le I.lm,Nat.le_succ_of_le I.lr,?_,Nat.le_succ_of_le I.la,fun x hx=>Nat.le_succ_of_le (I.lk x hx),⟨I.sit.1,by have:=I.sit.2; show st.a7 ≤ _; omega⟩,fun m hm=>(I.mok m hm).mono (by omega),fun k hk=>I.num k (perm.mem_iff.mp hk),perm.nodup_iff.mpr I.nd,p1,I.asd,I.kk,I.ff,?_⟩,p2⟩
  · show (st.decided ++ [(n,wd)]).length ≤ _
    rw [List.length_append,List.length_singleton]
    have:=I.ld
    omega
  · intro x hx
    rcases List.mem_append.mp hx with h | h
    · exact I.dw x h
    · rw [List.mem_singleton] at h; rw [h]; exact hw
theorem Inv.DM {N : Nat} {st : Ch} (I : Inv N st) (z : Str) : Inv (N + 1) (st.DM z):=by
  refine ⟨Nat.le_succ_of_le I.lm,?_,Nat.le_succ_of_le I.ld,Nat.le_succ_of_le I.la,fun x hx=>Nat.le_succ_of_le (I.lk x hx),⟨I.sit.1,by have:=I.sit.2; show st.a7 ≤ _; omega⟩,fun m hm=>(I.mok m hm).mono (by omega),I.num,I.nd,I.pil,I.asd,I.kk,I.ff,I.dw⟩
  show (st.rows ++ [z]).length ≤ _
  rw [List.length_append,List.length_singleton]
  have:=I.lr
  omega
theorem Inv.Qe {N : Nat} {st : Ch} (I : Inv N st) {n : Nat} {m : Mn} (hn : n ∈ st.aC) (hk : m.k = (st.mo n).k) (hm : MOk (N + 1) m) {kp : List (Nat × List Ed)} (ek : kp.map (·.1) = st.kept.map (·.1)) (lk : ∀ x ∈ kp,x.2.length ≤ N + 1)
    (hp : PMs (st.aC.map (Ch.mo { st with made:=st.made.set (n - 1) m,kept:=kp }))) : Inv (N + 1) { st with made:=st.made.set (n - 1) m,kept:=kp }:=by
  have hno:=I.fw n hn
  have kinds : ∀ k,gO st k → (Ch.mo { st with made:=st.made.set (n - 1) m,kept:=kp } k).k = (st.mo k).k:=fun k h=>by
    by_cases z : k = n
    · subst z; rw [G1 hno rfl,hk]
    · rw [vI hno h.1 z rfl]
  have em : Ch.vJ { st with made:=st.made.set (n - 1) m,kept:=kp } = st.vJ:=O8 (by show (st.made.set (n - 1) m).length = _; rw [List.length_set]) kinds
  refine ⟨?_,Nat.le_succ_of_le I.lr,Nat.le_succ_of_le I.ld,Nat.le_succ_of_le I.la,lk,⟨I.sit.1,by have:=I.sit.2; show st.a7 ≤ _; omega⟩,?_,?_,I.nd,hp,?_,by rw [em,← I.kk]; exact ek,by rw [em]; exact I.ff,I.dw⟩
  · show 3 * (st.made.set (n - 1) m).length ≤ _
    rw [List.length_set]; have:=I.lm; omega
  · intro x hx
    rcases List.mem_or_eq_of_mem_set hx with h | h
    · exact (I.mok x h).mono (by omega)
    · rw [h]; exact hm
  · intro k hk
    have:=I.num k hk
    exact ⟨this.1,by show k ≤ (st.made.set (n - 1) m).length; rw [List.length_set]; exact this.2⟩
  · intro x hx
    obtain ⟨h1,h2⟩:=I.asd x hx
    refine ⟨?_,h2⟩
    have : x.2.2.map (Ch.mo { st with made:=st.made.set (n - 1) m,kept:=kp }) = x.2.2.map st.mo:=List.map_congr_left fun k hk =>
      vI hno (I.zI hx k hk).1 (fun z=>I.Jt hn hx (by rw [← z]; exact hk)) rfl
    rw [this]; exact h1
theorem Inv.sA {N : Nat} {st : Ch} (I : Inv N st) {n : Nat} {r : List Nat} (e : st.aC = n :: r) {u : Int} (h0 : -10000000000 < u) (h1 : u < 10000000000) : Inv (N + 1) (st.sA n u):=by
  have perm : List.Perm (st.sA n u).all st.all:=by
    unfold Ch.all Ch.sA
    rw [List.flatMap_append,List.nil_append]
    show List.Perm ((st.aO.flatMap (·.2.2) ++ [(n,u,st.aC)].flatMap (·.2.2)) ++ st.decided.map (·.1)) _
    rw [show [(n,u,st.aC)].flatMap (·.2.2) = st.aC by simp,← List.append_assoc]
    exact List.Perm.append_right _ List.perm_append_comm
  refine ⟨Nat.le_succ_of_le I.lm,Nat.le_succ_of_le I.lr,Nat.le_succ_of_le I.ld,?_,fun x hx=>Nat.le_succ_of_le (I.lk x hx),⟨I.sit.1,by have:=I.sit.2; show st.a7 ≤ _; omega⟩,fun m hm=>(I.mok m hm).mono (by omega),fun k hk=>I.num k (perm.mem_iff.mp hk),perm.nodup_iff.mpr I.nd,.nil,?_,I.kk,I.ff,I.dw⟩
  · show (st.aO ++ [(n,u,st.aC)]).length ≤ _
    rw [List.length_append,List.length_singleton]
    have:=I.la
    omega
  · intro x hx
    rcases List.mem_append.mp hx with hx | hx
    · exact I.asd x hx
    · rw [List.mem_singleton] at hx
      subst hx
      exact ⟨I.pil,⟨r,e⟩,h0,h1⟩
def Ch.carry (st : Ch) : Mn → Ch
  | .chg e=>match st.aC with
    | n :: _=>(match st.mo n with
      | .mat tx=>st.O5 n tx e
      | _=>st)
    | []=>st
  | .mnd f=>match st.aC.getLast? with
    | some n=>(match st.mo n with
      | .chg e=>st.O6 n e (cP (R.bZ e.th) f)
      | _=>st)
    | none=>st
  | .off u=>match st.aC with
    | n :: _=>st.sA n u
    | []=>st
  | .cls=>{ st with closed:=true }
  | .lay=>match st.aC with
    | n :: _=>st.sA n st.a7
    | []=>st
  | .rst=>{ st with a7:=st.a7 + 1 }
  | _=>st
end My
set_option maxHeartbeats 1000000
namespace My
open PySem L2
seal PySem.wpAny
theorem vK (xs : List Str) (e : Ed) : (cP xs e).length ≤ xs.length + 1:=by
  unfold cP
  split
  · rw [List.length_append,List.length_cons,List.length_take,List.length_drop]; omega
  · exact Nat.le_succ_of_le (List.length_eraseIdx_le _ _)
  · rw [List.length_set]; omega
theorem Bj {xs : List Str} {e : Ed} {x : Str} (h : x ∈ cP xs e) : x ∈ xs ∨ x = e.th:=by
  unfold cP at h
  split at h
  · rcases List.mem_append.mp h with h | h
    · exact .inl (List.mem_of_mem_take h)
    · rcases List.mem_cons.mp h with h | h
      · exact .inr h
      · exact .inl (List.mem_of_mem_drop h)
  · exact .inl (List.mem_of_mem_eraseIdx h)
  · exact List.mem_or_eq_of_mem_set h
theorem Sv {α β : Type} {f : α → β} {xs : List α} {y : β} (h : xs.map f = [y]) : ∃ a,xs = [a] ∧ f a = y:=by
  cases xs with
  | nil=>cases h
  | cons a r =>
    cases r with
    | nil=>exact ⟨a,rfl,by simpa using h⟩
    | cons b r=>simp at h
theorem W6 {α β : Type} {f : α → β} {xs : List α} {y z : β} (h : xs.map f = [y,z]) : ∃ a b,xs = [a,b] ∧ f a = y ∧ f b = z:=by
  cases xs with
  | nil=>cases h
  | cons a r =>
    rw [List.map_cons] at h
    obtain ⟨b,rfl,e⟩:=Sv (List.cons.inj h).2
    exact ⟨a,b,rfl,(List.cons.inj h).1,e⟩
theorem O9 {α β : Type} {f : α → β} {xs : List α} {y : β} {r : List β} (h : xs.map f = y :: r) : ∃ a s,xs = a :: s ∧ f a = y:=by
  cases xs with
  | nil=>cases h
  | cons a s=>exact ⟨a,s,rfl,(List.cons.inj h).1⟩
theorem EdB.ok {N : Nat} {e : Ed} (h : EdB N e) (hN : N ≤ 4000) : uw e:=by
  obtain ⟨a,b,c,ws,d,f,g⟩:=h
  refine ⟨a,b,c,?_,?_⟩
  · rw [d]
    exact oB (fun x hx=>by
      rw [show (R.bl1 : Str).cps.toList = [32] by decide +kernel,List.mem_singleton] at hx
      omega) ws fun w hw=>fun x hx=>by have:=(f w hw).sgn x hx; unfold R.Sign at this; omega
  · rw [d,R.qQ]
    have h1:=rO 32 ws
    have h2:=R.DD f
    omega
theorem EdB.str {N : Nat} {e : Ed} (h : EdB N e) : PyData.strOk e.th = true:=by
  obtain ⟨a,b,c,ws,d,f,g⟩:=h
  rw [d]
  exact (oB (fun x hx=>by
    rw [show (R.bl1 : Str).cps.toList = [32] by decide +kernel,List.mem_singleton] at hx
    omega) ws fun w hw=>fun x hx=>by have:=(f w hw).sgn x hx; unfold R.Sign at this; omega).ok
theorem EdB.words {N : Nat} {e : Ed} (h : EdB N e) : (∀ w ∈ R.bZ e.th,R.ny w) ∧ (R.bZ e.th).length ≤ N:=by
  obtain ⟨a,b,c,ws,d,f,g⟩:=h
  rw [d,R.lh f]
  exact ⟨f,g⟩
theorem zJ {ws : List Str} {f : Ed} (h : ∀ w ∈ ws,R.ny w) (hf : R.ny f.th) : ∀ w ∈ cP ws f,R.ny w:=fun w hw=>by
  rcases Bj hw with h1 | h1
  · exact h w h1
  · rw [h1]; exact hf
theorem Kk (n : Nat) (e : Ed) (xs : List (Nat × List Ed)) : (DL n e xs).map (·.1) = xs.map (·.1):=by
  unfold DL
  rw [List.map_map]
  refine List.map_congr_left fun x _=>?_
  show (if x.1 = n then (x.1,x.2 ++ [e]) else x).1 = x.1
  split <;> rfl
theorem M9 {n N : Nat} {e : Ed} {xs : List (Nat × List Ed)} (h : ∀ x ∈ xs,x.2.length ≤ N) : ∀ x ∈ DL n e xs,x.2.length ≤ N + 1:=by
  intro x hx
  obtain ⟨y,hy,rfl⟩:=List.mem_map.mp hx
  have:=h y hy
  split
  · show (y.2 ++ [e]).length ≤ _
    rw [List.length_append,List.length_singleton]; omega
  · omega
theorem Inv.carry {N : Nat} {st : Ch} (I : Inv N st) (hN : N ≤ 900) {m : Mn} (ht : zH (st.aC.map st.mo) m) (hm : MOk N m) : Inv (N + 1) (st.carry m):=by
  have J:=I.mono (Nat.le_succ N)
  cases m with
  | mat tx=>exact J
  | pnt z=>exact J
  | chg e =>
    obtain ⟨tx,h1,hf⟩:=ht
    obtain ⟨k,e1,e2⟩:=Sv h1
    have hn : k ∈ st.aC:=by rw [e1]; exact List.mem_cons_self
    have htx:=I.DO (I.fw k hn)
    rw [e2] at htx
    have e3 : st.carry (.chg e) = st.O5 k tx e:=by unfold Ch.carry; rw [e1]; dsimp only; rw [e2]
    rw [e3]
    refine I.Qe hn (by rw [e2]; rfl) ?_ (Kk k e st.kept) (M9 I.lk) ?_
    · have:=vK tx e
      have h3 : tx.length ≤ 12 + N:=htx.1
      refine ⟨by omega,fun x hx=>?_⟩
      rcases Bj hx with h | h
      · exact htx.2 x h
      · rw [h]; exact EdB.str hm
    · rw [e1,List.map_cons,List.map_nil,G1 (I.fw k hn) rfl]
      exact PMs.snoc (ms:=[]) .nil rfl
  | mnd f =>
    obtain ⟨tx,e,h1,hk,hf⟩:=ht
    obtain ⟨a,b,e1,e2,e3⟩:=W6 h1
    have ha : a ∈ st.aC:=by rw [e1]; exact List.mem_cons_self
    have hb : b ∈ st.aC:=by rw [e1]; exact List.mem_cons_of_mem _ List.mem_cons_self
    have he:=I.DO (I.fw b hb)
    rw [e3] at he
    have he' : EdB (12 + N) e:=he
    obtain ⟨w1,w2⟩:=he'.words
    have e4 : st.carry (.mnd f) = st.O6 b e (cP (R.bZ e.th) f):=by unfold Ch.carry; rw [e1]; show (match st.mo b with | .chg e=>_ | _=>st) = _; rw [e3]; rfl
    rw [e4]
    obtain ⟨_,w,hw,hw2⟩:=hm
    refine I.Qe (kp:=st.kept) hb (by rw [e3]; rfl) ?_ rfl (fun x hx=>Nat.le_succ_of_le (I.lk x hx)) ?_
    · refine ⟨he'.1,he'.2.1,he'.2.2.1,_,rfl,zJ w1 (by rw [hw]; exact hw2),?_⟩
      have:=vK (R.bZ e.th) f
      omega
    · have ne : a ≠ b:=fun z=>by rw [z,e3] at e2; cases e2
      have hp:=I.pil
      rw [h1] at hp
      obtain ⟨tx',e5,e6⟩:=(PMs.pop (ms:=[.mat tx]) hp).2
      cases e5
      rw [e1,List.map_cons,List.map_cons,List.map_nil,G1 (I.fw b hb) rfl,vI (I.fw b hb) (I.fw a ha).1 ne rfl,e2]
      exact PMs.snoc (ms:=[.mat tx]) (PMs.snoc (ms:=[]) .nil rfl) ⟨tx,rfl,e6⟩
  | off u =>
    obtain ⟨⟨tx,r,h1⟩,_⟩:=ht
    obtain ⟨k,s,e1,_⟩:=O9 h1
    have e3 : st.carry (.off u) = st.sA k u:=by unfold Ch.carry; rw [e1]
    rw [e3]
    exact I.sA e1 hm.1 hm.2
  | lay =>
    obtain ⟨⟨tx,r,h1⟩,_⟩:=ht
    obtain ⟨k,s,e1,_⟩:=O9 h1
    have e3 : st.carry .lay = st.sA k st.a7:=by unfold Ch.carry; rw [e1]
    rw [e3]
    have:=I.sit
    exact I.sA e1 (by omega) (by omega)
  | cls=>exact ⟨J.lm,J.lr,J.ld,J.la,J.lk,J.sit,J.mok,J.num,J.nd,J.pil,J.asd,J.kk,J.ff,J.dw⟩
  | rst=>exact ⟨J.lm,J.lr,J.ld,J.la,J.lk,⟨by have:=I.sit.1; show 1 ≤ st.a7 + 1; omega,by have:=I.sit.2; show st.a7 + 1 ≤ _; omega⟩,J.mok,J.num,J.nd,J.pil,J.asd,J.kk,J.ff,J.dw⟩
inductive Rs where
  | num (n : Nat) | txt (z : Str) | exc (x : Xc)
abbrev Qf : Str:=Str.ofString "kept"
abbrev Qg : Str:=Str.ofString "lost"
abbrev q8 : Str:=Str.ofString "dropped"
def CI (b : Bool) : Str:=if b = true then Qf else Qg
theorem Ju (b : Bool) : PyData.strOk (CI b) = true:=by
  unfold CI
  split <;> decide +kernel
def p5 (st : Ch) (a b : Int) : Rs × Ch:=match st.aC.getLast? with
  | none=>(.exc .nothing,st)
  | some n=>if a + b > st.dh then (.exc .tooMany,st) else
    (.txt (CI (sJ (nd (st.mo n).k) a b)),(if sJ (nd (st.mo n).k) a b = true then (st.popped st.aC.dropLast n (CI (sJ (nd (st.mo n).k) a b))).carry (st.mo n) else st.popped st.aC.dropLast n (CI (sJ (nd (st.mo n).k) a b))).DM (R.tf (.nums (Str.ofString "vote") [a,b])))
def p6 (st : Ch) : Rs × Ch:=match st.aC.getLast? with
  | none=>(.exc .nothing,st)
  | some n=>(.txt q8,(st.popped st.aC.dropLast n q8).DM (R.tf (.nums (Str.ofString "drop") [])))
def stepT (st : Ch) (n : Nat) : Rs × Ch:=if st.aC = [] then (match at1 n st.aO with
  | none=>(.exc .pH,st)
  | some x=>if st.a7 < x.2.1 then (.exc (.mj x.2.1),st) else (.num n,{ st.uE n x.2.2 with rows:=st.rows ++ [R.tf (.nums (Str.ofString "take") [(n : Int)])] })) else (.exc (.jv (uB st.closed (st.aC.map st.mo))),st)
def sC (st : Ch) : Mn → Option Xc
  | .chg e=>match st.aC.map st.mo with
    | .mat tx :: _=>if iZ tx.length e = true then none else some .noFit
    | _=>none
  | .mnd f=>match (st.aC.map st.mo).getLast? with
    | some (.chg e)=>if iZ (R.bZ e.th).length f = true then none else some .noFit
    | _=>none
  | .off u=>if u ≤ st.a7 then some (.fL st.a7) else none
  | _=>none
def w9 (st : Ch) (m : Mn) : Option Xc:=match zC st.closed (st.aC.map st.mo) m.k with
  | some x=>some x
  | none=>sC st m
def Ch.moved (st : Ch) (m : Mn) (row : Str) : Ch:={ st with made:=st.made ++ [m],aC:=st.aC ++ [st.made.length + 1],firsts:=(match m with | .mat tx=>st.firsts ++ [(st.made.length + 1,tx)] | _=>st.firsts),kept:=(match m with | .mat _=>st.kept ++ [(st.made.length + 1,([] : List Ed))] | _=>st.kept),rows:=st.rows ++ [row] }
def q9 (st : Ch) (m : Mn) (row : Str) : Rs × Ch:=match w9 st m with
  | some x=>(.exc x,st)
  | none=>(.num (st.made.length + 1),st.moved m row)
theorem Inv.moved {N : Nat} {st : Ch} (I : Inv N st) {m : Mn} (hm : MOk N m) (hc : w9 st m = none) (row : Str) : Inv (N + 3) (st.moved m row):=by
  have J:=I.mono (show N ≤ N + 3 by omega)
  have ho : zC st.closed (st.aC.map st.mo) m.k = none ∧ sC st m = none:=by
    unfold w9 at hc
    split at hc
    · cases hc
    · exact ⟨by assumption,hc⟩
  have hf : W5 (st.aC.map st.mo) m:=by
    have h:=ho.2
    cases m with
    | chg e =>
      intro tx r e1
      unfold sC at h
      dsimp only at h
      rw [e1] at h
      dsimp only at h
      split at h
      · assumption
      · cases h
    | mnd f =>
      intro r e e1
      unfold sC at h
      dsimp only at h
      rw [e1,List.getLast?_concat] at h
      dsimp only at h
      split at h
      · assumption
      · cases h
    | _=>trivial
  have em : (st.moved m row).made = st.made ++ [m]:=rfl
  have old : ∀ ks : List Nat,(∀ k ∈ ks,gO st k) → ks.map (st.moved m row).mo = ks.map st.mo:=fun ks h=>List.map_congr_left fun k hk=>M6 em (h k hk)
  have nok : ∀ k,gO st k → gO (st.moved m row) k:=fun k h=>⟨h.1,by show k ≤ (st.made ++ [m]).length; rw [List.length_append]; have:=h.2; omega⟩
  have perm : List.Perm (st.moved m row).all ((st.made.length + 1) :: st.all):=by
    unfold Ch.all Ch.moved
    rw [List.append_assoc]
    exact List.perm_middle
  have mt : (st.moved m row).vJ = st.vJ ++ (if m.k = 0 then [st.made.length + 1] else []):=by
    unfold Ch.vJ
    rw [em,List.length_append,List.length_singleton,List.range'_concat,List.filter_append,Nat.one_mul,Nat.add_comm 1]
    congr 1
    · refine List.filter_congr fun k hk=>?_
      rw [List.mem_range'_1] at hk
      rw [M6 em ⟨hk.1,by omega⟩]
    · rw [List.filter_cons,M7 em]
      by_cases z : m.k = 0
      · rw [if_pos (decide_eq_true z),if_pos z]; rfl
      · rw [if_neg (by rw [decide_eq_false z]; decide),if_neg z]; rfl
  refine ⟨?_,?_,J.ld,J.la,?_,J.sit,?_,?_,?_,?_,?_,?_,?_,J.dw⟩
  · show 3 * (st.made ++ [m]).length ≤ _
    rw [List.length_append,List.length_singleton]; have:=I.lm; omega
  · show (st.rows ++ [row]).length ≤ _
    rw [List.length_append,List.length_singleton]; have:=I.lr; omega
  · intro x hx
    have hx' : x ∈ (match m with | .mat _=>st.kept ++ [(st.made.length + 1,([] : List Ed))] | _=>st.kept):=hx
    cases m with
    | mat tx =>
      rcases List.mem_append.mp hx' with h | h
      · exact J.lk x h
      · rw [List.mem_singleton] at h
        rw [h]; exact Nat.zero_le _
    | _=>exact J.lk x hx'
  · intro x hx
    rcases List.mem_append.mp (show x ∈ st.made ++ [m] from hx) with h | h
    · exact J.mok x h
    · rw [List.mem_singleton] at h
      rw [h]; exact hm.mono (by omega)
  · intro k hk
    rcases List.mem_cons.mp (perm.mem_iff.mp hk) with h | h
    · rw [h]
      exact ⟨by omega,by show _ ≤ (st.made ++ [m]).length; rw [List.length_append,List.length_singleton]; omega⟩
    · exact nok k (I.num k h)
  · rw [perm.nodup_iff,List.nodup_cons]
    exact ⟨fun z=>by have:=(I.num _ z).2; omega,I.nd⟩
  · show PMs ((st.aC ++ [st.made.length + 1]).map (st.moved m row).mo)
    rw [List.map_append,old st.aC I.fw,List.map_cons,List.map_nil,M7 em]
    exact I.pil.push ho.1 hf
  · intro x hx
    obtain ⟨h1,h2⟩:=I.asd x hx
    exact ⟨by rw [old _ (I.zI hx)]; exact h1,h2⟩
  · rw [mt,← I.kk]
    cases m with
    | mat tx=>show (st.kept ++ [(st.made.length + 1,([] : List Ed))]).map (·.1) = _; rw [List.map_append,if_pos (show (Mn.mat tx).k = 0 from rfl)]; rfl
    | _=>exact (List.append_nil _).symm
  · rw [mt,← I.ff]
    cases m with
    | mat tx=>show (st.firsts ++ [(st.made.length + 1,tx)]).map (·.1) = _; rw [List.map_append,if_pos (show (Mn.mat tx).k = 0 from rfl)]; rfl
    | _=>exact (List.append_nil _).symm
theorem Bk {n : Nat} {x : Nat × Int × List Nat} : ∀ {as : List (Nat × Int × List Nat)},(as.flatMap (·.2.2)).Nodup → (∀ y ∈ as,∃ r,y.2.2 = y.1 :: r) → at1 n as = some x → List.Perm (x.2.2 ++ (as.filter fun y=>decide (y.1 ≠ n)).flatMap (·.2.2)) (as.flatMap (·.2.2))
  | [],_,_,h=>nomatch h
  | y :: as,nd,hd,h=>by
    rw [List.flatMap_cons] at nd ⊢
    obtain ⟨n1,n2,n3⟩:=List.nodup_append.mp nd
    unfold at1 at h
    rw [List.find?_cons] at h
    by_cases e : y.1 = n
    · rw [decide_eq_true e] at h
      cases h
      have : as.filter (fun z=>decide (z.1 ≠ n)) = as:=by
        rw [List.filter_eq_self]
        intro z hz
        refine decide_eq_true fun q=>?_
        obtain ⟨r,hr⟩:=hd z (List.mem_cons_of_mem _ hz)
        obtain ⟨r',hr'⟩:=hd x List.mem_cons_self
        exact n3 n (by rw [hr',e]; exact List.mem_cons_self) n (List.mem_flatMap.mpr ⟨z,hz,by rw [hr,q]; exact List.mem_cons_self⟩) rfl
      rw [List.filter_cons_of_neg (by simp [e]),this]
    · rw [decide_eq_false e] at h
      have ih:=Bk n2 (fun z hz=>hd z (List.mem_cons_of_mem _ hz)) h
      rw [List.filter_cons_of_pos (by simp [e]),List.flatMap_cons,← List.append_assoc]
      exact (List.Perm.append_right _ List.perm_append_comm).trans (by rw [List.append_assoc]; exact List.Perm.append_left _ ih)
theorem Inv.uE {N : Nat} {st : Ch} (I : Inv N st) {n : Nat} {x : Nat × Int × List Nat} (hp : st.aC = []) (hx : at1 n st.aO = some x) (row : Str) : Inv (N + 1) { st.uE n x.2.2 with rows:=st.rows ++ [row] }:=by
  have J:=I.mono (Nat.le_succ N)
  have hm:=(pM hx).2
  have nd:=I.nd
  unfold Ch.all at nd
  rw [hp,List.nil_append] at nd
  have pm:=Bk (List.nodup_append.mp nd).1 (fun y hy=>(I.asd y hy).2.1) hx
  have perm : List.Perm (Ch.all { st.uE n x.2.2 with rows:=st.rows ++ [row] }) st.all:=by
    unfold Ch.all Ch.uE
    rw [hp,List.nil_append,← List.append_assoc]
    exact List.Perm.append_right _ pm
  refine ⟨J.lm,?_,J.ld,?_,J.lk,J.sit,J.mok,fun k hk=>I.num k (perm.mem_iff.mp hk),perm.nodup_iff.mpr I.nd,(I.asd x hm).1,fun y hy=>I.asd y (List.mem_filter.mp hy).1,I.kk,I.ff,I.dw⟩
  · show (st.rows ++ [row]).length ≤ _
    rw [List.length_append,List.length_singleton]; have:=I.lr; omega
  · exact Nat.le_trans (List.length_filter_le _ _) J.la
theorem Inv.p5 {N : Nat} {st : Ch} (I : Inv N st) (hN : N ≤ 800) (a b : Int) : Inv (N + 3) (p5 st a b).2:=by
  unfold My.p5
  split
  · exact I.mono (by omega)
  · rename_i n h
    obtain ⟨pre,e⟩:=sj h
    split
    · exact I.mono (by omega)
    · have ed : st.aC.dropLast = pre:=by rw [e]; exact List.dropLast_concat
      obtain ⟨I1,ht⟩:=I.pop e (CI (sJ (My.nd (st.mo n).k) a b)) (Ju _)
      rw [ed]
      have hn : n ∈ st.aC:=by rw [e]; simp
      split
      · exact (I1.carry (by omega) ht ((I.DO (I.fw n hn)).mono (by omega))).DM _
      · exact (I1.DM _).mono (by omega)
theorem Inv.p6 {N : Nat} {st : Ch} (I : Inv N st) : Inv (N + 3) (p6 st).2:=by
  unfold My.p6
  split
  · exact I.mono (by omega)
  · rename_i n h
    obtain ⟨pre,e⟩:=sj h
    have ed : st.aC.dropLast = pre:=by rw [e]; exact List.dropLast_concat
    rw [ed]
    exact ((I.pop e q8 (by decide +kernel)).1.DM _).mono (by omega)
theorem Inv.stepT {N : Nat} {st : Ch} (I : Inv N st) (n : Nat) : Inv (N + 3) (stepT st n).2:=by
  unfold My.stepT
  split
  · split
    · exact I.mono (by omega)
    · split
      · exact I.mono (by omega)
      · exact (I.uE (by assumption) (by assumption) _).mono (by omega)
  · exact I.mono (by omega)
theorem Inv.q9 {N : Nat} {st : Ch} (I : Inv N st) {m : Mn} (hm : MOk N m) (row : Str) : Inv (N + 3) (q9 st m row).2:=by
  unfold My.q9
  split
  · exact I.mono (by omega)
  · exact I.moved hm (by assumption) row
theorem zK : ∀ (L : Nat) (l : List Nat),l.Nodup → (∀ n ∈ l,1 ≤ n ∧ n ≤ L) → l.length ≤ L
  | 0,l,_,h=>by
    cases l with
    | nil=>exact Nat.le_refl 0
    | cons x r=>have:=h x List.mem_cons_self; omega
  | L + 1,l,nd,h=>by
    by_cases m : L + 1 ∈ l
    · have ih:=zK L (l.erase (L + 1)) (nd.erase _) (fun n hn=>by
        obtain ⟨h1,h2⟩:=nd.mem_erase_iff.mp hn
        have:=h n h2
        omega)
      rw [List.length_erase_of_mem m] at ih
      omega
    · have ih:=zK L l nd (fun n hn=>by
        have:=h n hn
        have : n ≠ L + 1:=fun z=>m (by rw [← z]; exact hn)
        omega)
      omega
theorem DP : ∀ {as : List (Nat × Int × List Nat)},(∀ y ∈ as,∃ r,y.2.2 = y.1 :: r) → List.Sublist (as.map (·.1)) (as.flatMap (·.2.2))
  | [],_=>.slnil
  | y :: as,h=>by
    obtain ⟨r,hr⟩:=h y List.mem_cons_self
    rw [List.map_cons,List.flatMap_cons,hr,List.cons_append]
    exact .cons₂ _ ((DP fun z hz=>h z (List.mem_cons_of_mem _ hz)).trans (List.sublist_append_right _ _))
theorem Inv.Sw {N : Nat} {st : Ch} (I : Inv N st) : (st.aO.map (·.1)).Nodup:=by
  have nd:=I.nd
  unfold Ch.all at nd
  exact (DP fun y hy=>(I.asd y hy).2.1).nodup (List.nodup_append.mp (List.nodup_append.mp nd).2.1).1
theorem Inv.Na {N : Nat} {st : Ch} (I : Inv N st) : st.aO.length ≤ st.made.length:=by
  have h:=zK st.made.length (st.aO.map (·.1)) I.Sw (fun n hn=>by
    obtain ⟨x,hx,e⟩:=List.mem_map.mp hn
    obtain ⟨r,hr⟩:=(I.asd x hx).2.1
    exact I.zI hx n (by rw [hr,e]; exact List.mem_cons_self))
  rw [List.length_map] at h
  exact h
theorem Kl (st : Ch) (m : Mn) : (st.carry m).made.length = st.made.length:=by
  unfold Ch.carry
  split
  · split
    · split
      · show (st.made.set _ _).length = _
        rw [List.length_set]
      · rfl
    · rfl
  · split
    · split
      · show (st.made.set _ _).length = _
        rw [List.length_set]
      · rfl
    · rfl
  · split <;> rfl
  · rfl
  · split <;> rfl
  · rfl
  · rfl
theorem Km (st : Ch) (a b : Int) : (p5 st a b).2.made.length = st.made.length:=by
  unfold p5
  split
  · rfl
  · split
    · rfl
    · show (if _ then _ else _ : Ch).made.length = _
      split
      · exact Kl _ _
      · rfl
theorem Kn (st : Ch) : (p6 st).2.made.length = st.made.length:=by
  unfold p6
  split <;> rfl
theorem Ko (st : Ch) (n : Nat) : (stepT st n).2.made.length = st.made.length:=by
  unfold stepT
  split
  · split
    · rfl
    · split <;> rfl
  · rfl
end My
set_option maxHeartbeats 1000000
namespace My
open PySem L2
seal PySem.wpAny
def DQ (A : Adr) (i : Nat) (c : Col) (H : Hp) (o : Addr) : Rs × Ch → VK → XK → Prop
  | (.num n,st),Q,_=>∀ c' H',Step (hU i) c c' H H' → eZ A i c' H' o st → Q (nV n) H'
  | (.txt z,st),Q,_=>∀ c' H',Step (hU i) c c' H H' → eZ A i c' H' o st → Q (.str z) H'
  | (.exc x,st),_,E=>∀ c' H' C d,Step (hU i) c c' H H' → eZ A i c' H' o st → x.At A H' C d → (∀ a,d = some a → c' a = none) → E C d H'
def Jv : List Str:=[Str.ofString "seats",Str.ofString "sitting",Str.ofString "closed",Str.ofString "made",Str.ofString "pile",Str.ofString "aside",Str.ofString "decided",Str.ofString "first_texts",Str.ofString "edits_kept",Str.ofString "rows"]
theorem cU {m : Str} {v0 v1 v2 v3 v4 v5 v6 v7 v8 v9 : V} (h : m ∉ Jv) : (chF v0 v1 v2 v3 v4 v5 v6 v7 v8 v9).lookup m = none:=by
  unfold Jv at h
  simp only [List.mem_cons,List.not_mem_nil,or_false,not_or] at h
  obtain ⟨h0,h1,h2,h3,h4,h5,h6,h7,h8,h9⟩:=h
  unfold chF
  simp only [List.lookup,beq_eq_false_iff_ne.mpr h0,beq_eq_false_iff_ne.mpr h1,beq_eq_false_iff_ne.mpr h2,beq_eq_false_iff_ne.mpr h3,beq_eq_false_iff_ne.mpr h4,beq_eq_false_iff_ne.mpr h5,beq_eq_false_iff_ne.mpr h6,beq_eq_false_iff_ne.mpr h7,beq_eq_false_iff_ne.mpr h8,beq_eq_false_iff_ne.mpr h9]
def Jw (A : Adr) (i : Nat) : Sp:=fun vs H Q _=>∃ (o mo : Addr) (c : Col) (st : Ch) (m : Mn) (N : Nat),vs = [.ref o,.ref mo] ∧ eZ A i c H o st ∧ mf A c H m mo ∧ Inv N st ∧ N ≤ 900 ∧ zH (st.aC.map st.mo) m ∧ MOk N m ∧
  ∀ c' H',Step (hU i) c c' H H' → eZ A i c' H' o (st.carry m) → Q .non H'
def G3 (A : Adr) (i : Nat) : Sp:=fun vs H Q E=>∃ (o : Addr) (a b : Int) (c : Col) (st : Ch) (N : Nat),vs = [.ref o,.int a,.int b] ∧ eZ A i c H o st ∧ Inv N st ∧ N ≤ 800 ∧ (0 ≤ a ∧ a < 10 ^ 10) ∧ (0 ≤ b ∧ b < 10 ^ 10) ∧ DQ A i c H o (p5 st a b) Q E
def G4 (A : Adr) (i : Nat) : Sp:=fun vs H Q E=>∃ (o : Addr) (c : Col) (st : Ch) (N : Nat),vs = [.ref o] ∧ eZ A i c H o st ∧ Inv N st ∧ N ≤ 800 ∧ DQ A i c H o (p6 st) Q E
def G5 (A : Adr) (i : Nat) : Sp:=fun vs H Q E=>∃ (o : Addr) (n : Nat) (c : Col) (st : Ch) (N : Nat),vs = [.ref o,nV n] ∧ eZ A i c H o st ∧ Inv N st ∧ N ≤ 800 ∧ n < 10 ^ 10 ∧ DQ A i c H o (stepT st n) Q E
theorem CJ {i : Nat} {c : Col} {H : Hp} {t : Addr} {xs : List V} : vF i (aW c t none) (upd H t (.tup xs)) t xs:=⟨by rw [bD]; exact a6,ae⟩
theorem zL {A : Adr} {c : Col} {H H' : Hp} {f : Nat → Mn} (s : bQ H H') : ∀ {ns : List Nat} {os : List Addr},cF (fun n m=>mf A c H (f n) m) ns os → cF (fun m p=>mf A c H' m p) (ns.map f) os
  | _,_,.nil=>.nil
  | _,_,.cons h t=>.cons (h.same s) (zL s t)
theorem zM {kd : Str} {ns : List Int} (h : (kd,ns.length) ∈ R.i4) (hn : ∀ i ∈ ns,0 ≤ i ∧ i < 10 ^ 10) : R.DOk (.nums kd ns):=⟨h,hn⟩
section
variable {P : Program} {w : World} {K : PySem.W.Frag} {mg : Str → Option Value} {base : Heap} {A : Adr}
theorem CK (T : Txt w.params K mg A) {i : Nat} : aw P w K mg base CX0 5 A.bN A.ef ["self","motion"] (Jw A i):=by
  have gN : ∀ k,k < 8 → aw P w K mg base CX0 1 (A.fk k) (A.fkd k) ["self"] (gm k):=lb T
  have oG : aw P w K mg base CX0 4 A.bj A.dc ["self","edit"] (M4 A i):=vG T
  have oH : aw P w K mg base CX0 4 A.bp A.df ["self","edit"] (M5 A i):=vH T
  have kS : aw P w K mg base CX0 1 A.bO A.eh ["self","until"] (M3 A i):=CG T
  refine T.dB.ok jQ (fun vs H Q E h=>?_) (fun cdv A' outer s H vs Q E hr h=>?_)
  · obtain ⟨o,mo,c,st,m,N,rfl,_⟩:=h
    rfl
  · obtain ⟨o,mo,c,st,m,N,rfl,hc,hmo,I,hN,G6,Nb,q⟩:=h
    obtain ⟨dx,aM,aP,aA,aD,aF,aE,aR,ms,ds,ws,fs,es,X⟩:=hc.ex
    have eu : Room 1 _:=hr.mono (by decide)
    have nA : Room 4 _:=hr
    have nB : Room 4 _:=hr
    have j2 : Room 1 _:=hr.mono (by decide)
    refine ⟨_,(ao (bA (i:=2) jQ.nd rfl (Or.inl rfl) (ll (n:=8) (Cf:=A.C) (pv 1) T.cl T.nr gN eu T.nv bh))
  (aj (bU (aI cf (pv 2) au (aT _))
  (aj (cI (iu (pv 0) T.ai T.iN oG nA T.dn .nil bh (aa (bg (pv 1) rfl) ah))))
  (aj (bU (aI cf (pv 2) au (aT _))
  (aj (cI (iu (pv 0) T.ai T.iO oH nB T.dq .nil bh (aa (bg (pv 1) rfl) ah))))
  (aj (bU (aI cf (pv 2) au (aT _))
  (aj (cI (iu (pv 0) T.ai T.ib kS j2 T.dD .nil bh (aa (bg (pv 1) rfl) ah))))
  (aj (bU (aI cf (pv 2) au (aT _))
  (aj (eL (pv 0) qt rfl))
  (aj (bU (aI cf (pv 2) au (aT _))
  (aj (cI (iu (pv 0) T.ai T.ib kS j2 T.dD .nil bh (aa (bg (pv 0) rfl) ah))))
  (aj (bU (aI cf (pv 2) au (aT _))
  (aj (eL (pv 0) (cg hZ (bg (pv 0) rfl) ak) rfl))
  aJ))))))))))))),?_⟩
    obtain ⟨hcn,dm,v,hm,hv⟩:=hmo
    refine ⟨_,rfl,m.k,m.k8,mo,dm,_,rfl,hm,k9 m.k v,mo,rfl,?_⟩
    have lM:=I.lm
    cases m with
    | mat tx=>exact ⟨_,rfl,rfl,_,rfl,aN (gq 0 (by decide)) ⟨_,rfl,rfl,_,rfl,aN (iC 0 (by decide)) ⟨_,rfl,rfl,_,rfl,aN (kF 0 (by decide)) ⟨_,rfl,rfl,_,rfl,aN (zE 0 (by decide)) ⟨_,rfl,rfl,_,rfl,aN (CC 0 (by decide)) ⟨_,rfl,rfl,_,rfl,aN (GX 0 (by decide)) (q c H (Step.refl a6) hc)⟩⟩⟩⟩⟩⟩
    | pnt z=>exact ⟨_,rfl,rfl,_,rfl,aN (gq 7 (by decide)) ⟨_,rfl,rfl,_,rfl,aN (iC 7 (by decide)) ⟨_,rfl,rfl,_,rfl,aN (kF 7 (by decide)) ⟨_,rfl,rfl,_,rfl,aN (zE 7 (by decide)) ⟨_,rfl,rfl,_,rfl,aN (CC 7 (by decide)) ⟨_,rfl,rfl,_,rfl,aN (GX 7 (by decide)) (q c H (Step.refl a6) hc)⟩⟩⟩⟩⟩⟩
    | chg e =>
      refine ⟨_,rfl,rfl,_,rfl,dj (gq 1 (by decide)) ?_⟩
      obtain ⟨tx,h1,hf⟩:=G6
      obtain ⟨k,e1,e2⟩:=Sv h1
      have hn : k ∈ st.aC:=by rw [e1]; exact List.mem_cons_self
      have hno:=I.fw k hn
      have htx:=I.DO hno
      rw [e2] at htx
      have ad0 : tx.length ≤ 12 + N:=htx.1
      obtain ⟨x,hx,hxl⟩:=I.keptAt hno (by rw [e2]; rfl)
      have e3 : st.carry (.chg e) = st.O5 k tx e:=by unfold Ch.carry; rw [e1]; dsimp only; rw [e2]
      rw [e3] at q
      have W7 : EdB (12 + N) e:=Nb
      obtain ⟨t,rfl,ht⟩:=hv
      refine ⟨_,rfl,o,dx,_,rfl,X.ob,cU (by decide +kernel),_,rfl,mo,A.C 1,dm,_,.ref t,rfl,hm,T.cl 1 (by decide),T.na1,rfl,?_⟩
      exact ⟨o,t,c,st,k,[],tx,e,x,rfl,hc,e1,hno,e2,by omega,by omega,ht,W7.ok (by omega),hf,hx,by omega,by rw [I.kk]; exact G2 st,q⟩
    | mnd f =>
      refine ⟨_,rfl,rfl,_,rfl,aN (gq 2 (by decide)) ⟨_,rfl,rfl,_,rfl,dj (iC 2 (by decide)) ?_⟩⟩
      obtain ⟨tx,e,h1,hk,hf⟩:=G6
      obtain ⟨a,b,e1,e2,e3⟩:=W6 h1
      have hb : b ∈ st.aC:=by rw [e1]; exact List.mem_cons_of_mem _ List.mem_cons_self
      have hno:=I.fw b hb
      have he:=I.DO hno
      rw [e3] at he
      have he' : EdB (12 + N) e:=he
      obtain ⟨w1,w2⟩:=he'.words
      have e4 : st.carry (.mnd f) = st.O6 b e (cP (R.bZ e.th) f):=by unfold Ch.carry; rw [e1]; show (match st.mo b with | .chg e=>_ | _=>st) = _; rw [e3]; rfl
      rw [e4] at q
      obtain ⟨hf1,w0,hw0,hw1⟩:=Nb
      have l1:=vK (R.bZ e.th) f
      have l2:=R.DD (zJ w1 (by rw [hw0]; exact hw1) : ∀ w ∈ cP (R.bZ e.th) f,R.ny w)
      obtain ⟨t,rfl,ht⟩:=hv
      refine ⟨_,rfl,o,dx,_,rfl,X.ob,cU (by decide +kernel),_,rfl,mo,A.C 2,dm,_,.ref t,rfl,hm,T.cl 2 (by decide),T.na2,rfl,?_⟩
      exact ⟨o,t,c,st,b,[a],e,f,rfl,hc,e1,hno,e3,hk,he'.ok (by omega),by omega,by omega,ht,hf1.ok (by omega),hf,by omega,q⟩
    | off u =>
      refine ⟨_,rfl,rfl,_,rfl,aN (gq 3 (by decide)) ⟨_,rfl,rfl,_,rfl,aN (iC 3 (by decide)) ⟨_,rfl,rfl,_,rfl,dj (kF 3 (by decide)) ?_⟩⟩⟩
      obtain ⟨⟨tx,r,h1⟩,_⟩:=G6
      obtain ⟨k,r',e1,_⟩:=O9 h1
      have e3 : st.carry (.off u) = st.sA k u:=by unfold Ch.carry; rw [e1]
      rw [e3] at q
      have hv' : v = .int u:=hv
      subst hv'
      have:=I.la
      refine ⟨_,rfl,o,dx,_,rfl,X.ob,cU (by decide +kernel),_,rfl,mo,A.C 3,dm,_,.int u,rfl,hm,T.cl 3 (by decide),T.na3,rfl,?_⟩
      exact ⟨o,u,c,st,k,r',rfl,hc,e1,I.M8 (by rw [e1]; exact List.mem_cons_self),by omega,q⟩
    | cls =>
      refine ⟨_,rfl,rfl,_,rfl,aN (gq 4 (by decide)) ⟨_,rfl,rfl,_,rfl,aN (iC 4 (by decide)) ⟨_,rfl,rfl,_,rfl,aN (kF 4 (by decide)) ⟨_,rfl,rfl,_,rfl,dj (zE 4 (by decide)) ?_⟩⟩⟩⟩
      refine ⟨_,rfl,o,A.ag,dx,_,rfl,X.ob,T.ai,T.jq4,(by show 10 < 1000; decide),?_⟩
      rw [zy]
      obtain ⟨s1,X1⟩:=X.attr st.a7 true
      exact q c _ s1.qU X1.at
    | lay =>
      refine ⟨_,rfl,rfl,_,rfl,aN (gq 5 (by decide)) ⟨_,rfl,rfl,_,rfl,aN (iC 5 (by decide)) ⟨_,rfl,rfl,_,rfl,aN (kF 5 (by decide)) ⟨_,rfl,rfl,_,rfl,aN (zE 5 (by decide)) ⟨_,rfl,rfl,_,rfl,dj (CC 5 (by decide)) ?_⟩⟩⟩⟩⟩
      obtain ⟨⟨tx,r,h1⟩,_⟩:=G6
      obtain ⟨k,r',e1,_⟩:=O9 h1
      have e3 : st.carry .lay = st.sA k st.a7:=by unfold Ch.carry; rw [e1]
      rw [e3] at q
      have:=I.la
      refine ⟨_,rfl,o,dx,_,rfl,X.ob,cU (by decide +kernel),_,rfl,o,A.ag,dx,_,.int st.a7,rfl,X.ob,T.ai,T.jq1,iP,?_⟩
      exact ⟨o,st.a7,c,st,k,r',rfl,hc,e1,I.M8 (by rw [e1]; exact List.mem_cons_self),by omega,q⟩
    | rst =>
      refine ⟨_,rfl,rfl,_,rfl,aN (gq 6 (by decide)) ⟨_,rfl,rfl,_,rfl,aN (iC 6 (by decide)) ⟨_,rfl,rfl,_,rfl,aN (kF 6 (by decide)) ⟨_,rfl,rfl,_,rfl,aN (zE 6 (by decide)) ⟨_,rfl,rfl,_,rfl,aN (CC 6 (by decide)) ⟨_,rfl,rfl,_,rfl,dj (GX 6 (by decide)) ?_⟩⟩⟩⟩⟩⟩
      refine ⟨_,rfl,o,A.ag,dx,_,.int st.a7,rfl,X.ob,T.ai,T.jq1,iP,_,_,rfl,rfl,_,rfl,o,A.ag,dx,_,rfl,X.ob,T.ai,T.jq1,(by show 10 < 1000; decide),?_⟩
      rw [DG]
      obtain ⟨s1,X1⟩:=X.attr (st.a7 + 1) st.closed
      exact q c _ s1.qU X1.at
theorem Jx (T : Txt w.params K mg A) {i : Nat} : aw P w K mg base (CXX P w) 6 A.cv A.fE ["self","ayes","noes"] (G3 A i):=by
  have dZ : aw P w K mg base (CXX P w) 1 A.aZ A.cy ["self"] (vz A i):=mh T
  have jx : aw P w K mg base CX0 1 A.bR A.ee ["self","word"] (zB A i):=Bf T
  have sD : aw P w K mg base CX0 5 A.bN A.ef ["self","motion"] (Jw A i):=CK T
  have fA : aw P w K mg base CX0 5 A.bf A.cM ["self","deed"] (M0 A i):=p4 T
  have Kp : aw P w K mg base CX0 1 A.yn A.o8 ["need","ayes","noes"] MR:=GV T
  have Sx : ∀ k,k < 8 → aw P w K mg base CX0 1 (A.fn k) (A.fnd k) ["self"] (Cs k):=O1 T
  refine T.gG.okX j9 (fun vs H Q E h=>?_) (fun cdv A' outer s H vs Q E hr h=>?_)
  · obtain ⟨o,a,b,c,st,N,rfl,_⟩:=h
    rfl
  · obtain ⟨o,a,b,c,st,N,rfl,hc,I,hN,ha,hb,q⟩:=h
    obtain ⟨dx,aM,aP,aA,aD,aF,aE,aR,ms,ds,ws,fs,es,X⟩:=hc.ex
    have hu1:=hr.u1
    have dR : Room 1 _:=hr.mono (by decide)
    have i7 : Room 1 _:=hr.mono (by decide)
    have rb : Room 5 _:=hr
    have eW : Room 5 _:=hr
    have G7 : Room 1 _:=hr.mono (by decide)
    have Pa : Room 1 _:=hr.mono (by decide)
    refine ⟨_,(aL (lI (rQ (px (pv 0)) T.ai T.dX dZ dR T.cD))
  (aL (eM (aI V1 (cg hZ (pv 1) (pv 2)) (bg (pv 0) rfl) (aT _))
  (bq (jh T.zm rfl rfl T.vq (aa au ah)))
  (qB aJ))
  (aL (psx (bA (i:=3) j9.nd rfl (Or.inl rfl) (mV hu1 (bg (pv 0) rfl) (aS cq (bg (pv 0) rfl) (AG u3 ak) (fun _ _=>rfl)) (fun _ _=>rfl))))
  (aL (psx (bA (i:=4) j9.nd rfl (Or.inl rfl) (CV (nk (bK Kp G7 rfl T.A6 T.vf.kp T.A5 .nil bh (aa (ll (n:=8) (Cf:=A.C) (pv 3) T.cl T.MC Sx Pa T.MD bh) (aa (pv 1) (aa (pv 2) ah))))) au au)))
  (aL (psx (cI (iu (pv 0) T.ai T.jt jx i7 T.eV .nil bh (aa (pv 4) ah))))
  (aL (psx (bU (aI cf (pv 4) au (aT _))
  (aj (cI (iu (pv 0) T.ai T.kR sD rb T.eJ .nil bh (aa (pv 3) ah))))
  aJ))
  (aL (psx (cI (iu (pv 0) T.ai T.fm fA eW T.cT .nil bh (aa (cQ (aa au (aa (pv 1) (aa (pv 2) ah)))) ah))))
  (bq (psx (aG (pv 4))))))))))),?_⟩
    refine ⟨_,rfl,o,dx,_,rfl,X.ob,cU (by decide +kernel),o,c,st,rfl,hc,fun hne=>?_,fun he=>?_⟩
    case refine_2 =>
      unfold p5 at q
      rw [he] at q
      exact q c H _ _ (Step.refl a6) hc ⟨rfl,rfl⟩ (fun _ z=>nomatch z)
    obtain ⟨pre,n,e⟩ : ∃ pre n,st.aC = pre ++ [n]:=by
      rcases List.eq_nil_or_concat st.aC with e | ⟨pre,n,e⟩
      · exact absurd e hne
      · exact ⟨pre,n,by rw [e,List.concat_eq_append]⟩
    have gl : st.aC.getLast? = some n:=by rw [e]; exact List.getLast?_concat
    have ed : st.aC.dropLast = pre:=by rw [e]; exact List.dropLast_concat
    unfold p5 at q
    rw [gl] at q
    dsimp only at q
    rw [ed] at q
    refine ⟨_,rfl,_,rfl,_,_,rfl,rfl,_,rfl,o,A.ag,dx,_,.int st.dh,rfl,X.ob,T.ai,T.jqX,Kc,_,_,rfl,rfl,_,rfl,n5 (fun z=>?_) (fun z=>?_)⟩
    · have z' : a + b > st.dh:=of_decide_eq_true z
      rw [if_pos z'] at q
      exact ⟨by decide,q c H _ _ (Step.refl a6) hc ⟨rfl,rfl⟩ (fun _ z=>nomatch z)⟩
    have z' : ¬ a + b > st.dh:=fun y=>z (decide_eq_true y)
    rw [if_neg z'] at q
    have hn : n ∈ st.aC:=by rw [e]; simp
    have hno:=I.fw n hn
    obtain ⟨mo,hv,hmo⟩:=X.O7 hno
    have hcp:=hmo
    obtain ⟨_,dm,v,hm,_⟩:=hmo
    have h0 : atI (st.aC.map nV) (-1) = some (nV n):=by rw [e,List.map_append]; exact yB _ _
    refine ⟨_,rfl,o,A.ag,dx,_,.ref aM,rfl,X.ob,T.ai,T.jq2,il,_,rfl,o,A.ag,dx,_,.ref aP,rfl,X.ob,T.ai,T.jq0,fK,_,rfl,aP,_,_,_,rfl,rfl,SqL.of X.aC.2,h0,aM,_,rfl,.inl ⟨_,Sum.inl (n : Int),.inl X.made.2,rfl,hv.symm⟩,?_⟩
    refine ⟨_,rfl,(st.mo n).k,(st.mo n).k8,mo,dm,_,rfl,hm,OV _ v,mo,rfl,_,rfl,_,rfl,nd (st.mo n).k,a,b,rfl,_,rfl,?_⟩
    obtain ⟨I1,G6⟩:=I.pop e (CI (sJ (nd (st.mo n).k) a b)) (Ju _)
    have Nb:=(I.DO hno).mono (Nat.le_succ N)
    have lp:=I.pil.Kj
    rw [List.length_map] at lp
    have ld:=I.ld
    have lr:=I.lr
    have dk : R.DOk (.nums (Str.ofString "vote") [a,b]):=zM (by show (Str.ofString "vote",2) ∈ R.i4; decide +kernel) (by
      intro i hi
      rcases List.mem_cons.mp hi with h | hi
      · rw [h]; exact ha
      · rw [List.mem_singleton] at hi; rw [hi]; exact hb)
    cases hk : sJ (nd (st.mo n).k) a b with
    | true =>
      rw [hk] at q I1
      rw [if_pos rfl] at q
      refine jO ⟨_,rfl,o,dx,_,rfl,X.ob,cU (by decide +kernel),_,rfl,o,Qf,c,st,pre,n,rfl,hc,e,by omega,by omega,fun c1 H1 s1 hc1=>?_⟩
      obtain ⟨dx1,aM1,aP1,aA1,aD1,aF1,aE1,aR1,ms1,ds1,ws1,fs1,es1,X1⟩:=hc1.ex
      refine ⟨_,rfl,rfl,_,rfl,dj (by decide +kernel) ⟨_,rfl,o,dx1,_,rfl,X1.ob,cU (by decide +kernel),_,rfl,o,mo,c1,_,st.mo n,N + 1,rfl,hc1,hcp.step s1,I1,by omega,G6,Nb,fun c2 H2 s2 hc2=>?_⟩⟩
      obtain ⟨dx2,aM2,aP2,aA2,aD2,aF2,aE2,aR2,ms2,ds2,ws2,fs2,es2,X2⟩:=hc2.ex
      have I2:=I1.carry (by omega) G6 Nb
      refine ⟨_,rfl,o,dx2,_,rfl,X2.ob,cU (by decide +kernel),_,rfl,_,rfl,(by show 3 ≤ sizeLine; decide),fun t ht=>?_⟩
      have s3 : Step (hU i) c2 (aW c2 t none) H2 (upd H2 t (.tup [V.str (Str.ofString "vote"),.int a,.int b])):=Step.new a6 ht
      have X3:=X2.free (W:=fun _=>False) (fun _=>id) (Step.new (x:=none) (o:=.tup [V.str (Str.ofString "vote"),.int a,.int b]) id ht)
      have lr2:=I2.lr
      refine ⟨o,t,_,_,.nums (Str.ofString "vote") [a,b],rfl,X3.at,CJ,dk,Nat.le_trans lr2 (by omega),fun c4 H4 s4 hc4=>⟨_,rfl,?_⟩⟩
      exact q c4 H4 (((s1.trans s2).trans s3).trans s4) hc4
    | false =>
      rw [hk] at q I1
      rw [if_neg Bool.false_ne_true] at q
      refine eD ⟨_,rfl,o,dx,_,rfl,X.ob,cU (by decide +kernel),_,rfl,o,Qg,c,st,pre,n,rfl,hc,e,by omega,by omega,fun c1 H1 s1 hc1=>?_⟩
      obtain ⟨dx2,aM2,aP2,aA2,aD2,aF2,aE2,aR2,ms2,ds2,ws2,fs2,es2,X2⟩:=hc1.ex
      refine ⟨_,rfl,rfl,_,rfl,aN (by decide +kernel) ?_⟩
      refine ⟨_,rfl,o,dx2,_,rfl,X2.ob,cU (by decide +kernel),_,rfl,_,rfl,(by show 3 ≤ sizeLine; decide),fun t ht=>?_⟩
      have s3 : Step (hU i) c1 (aW c1 t none) H1 (upd H1 t (.tup [V.str (Str.ofString "vote"),.int a,.int b])):=Step.new a6 ht
      have X3:=X2.free (W:=fun _=>False) (fun _=>id) (Step.new (x:=none) (o:=.tup [V.str (Str.ofString "vote"),.int a,.int b]) id ht)
      refine ⟨o,t,_,_,.nums (Str.ofString "vote") [a,b],rfl,X3.at,CJ,dk,by show st.rows.length ≤ 1000; omega,fun c4 H4 s4 hc4=>⟨_,rfl,?_⟩⟩
      exact q c4 H4 ((s1.trans s3).trans s4) hc4
theorem Jy (T : Txt w.params K mg A) {i : Nat} : aw P w K mg base (CXX P w) 6 A.cw A.fF ["self"] (G4 A i):=by
  have dZ : aw P w K mg base (CXX P w) 1 A.aZ A.cy ["self"] (vz A i):=mh T
  have jx : aw P w K mg base CX0 1 A.bR A.ee ["self","word"] (zB A i):=Bf T
  have fA : aw P w K mg base CX0 5 A.bf A.cM ["self","deed"] (M0 A i):=p4 T
  refine T.gI.okX wV (fun vs H Q E h=>?_) (fun cdv A' outer s H vs Q E hr h=>?_)
  · obtain ⟨o,c,st,N,rfl,_⟩:=h
    rfl
  · obtain ⟨o,c,st,N,rfl,hc,I,hN,q⟩:=h
    obtain ⟨dx,aM,aP,aA,aD,aF,aE,aR,ms,ds,ws,fs,es,X⟩:=hc.ex
    have dR : Room 1 _:=hr.mono (by decide)
    have i7 : Room 1 _:=hr.mono (by decide)
    have eW : Room 5 _:=hr
    refine ⟨_,(aL (lI (rQ (px (pv 0)) T.ai T.dX dZ dR T.cD))
  (aL (psx (cI (iu (pv 0) T.ai T.jt jx i7 T.eV .nil bh (aa au ah))))
  (aL (psx (cI (iu (pv 0) T.ai T.fm fA eW T.cT .nil bh (aa (cQ (aa au ah)) ah))))
  (bq (psx (aG au)))))),?_⟩
    refine ⟨_,rfl,o,dx,_,rfl,X.ob,cU (by decide +kernel),o,c,st,rfl,hc,fun hne=>?_,fun he=>?_⟩
    case refine_2 =>
      unfold p6 at q
      rw [he] at q
      exact q c H _ _ (Step.refl a6) hc ⟨rfl,rfl⟩ (fun _ z=>nomatch z)
    obtain ⟨pre,n,e⟩ : ∃ pre n,st.aC = pre ++ [n]:=by
      rcases List.eq_nil_or_concat st.aC with e | ⟨pre,n,e⟩
      · exact absurd e hne
      · exact ⟨pre,n,by rw [e,List.concat_eq_append]⟩
    have gl : st.aC.getLast? = some n:=by rw [e]; exact List.getLast?_concat
    have ed : st.aC.dropLast = pre:=by rw [e]; exact List.dropLast_concat
    unfold p6 at q
    rw [gl] at q
    dsimp only at q
    rw [ed] at q
    have lp:=I.pil.Kj
    rw [List.length_map] at lp
    have ld:=I.ld
    have lr:=I.lr
    refine ⟨_,rfl,o,dx,_,rfl,X.ob,cU (by decide +kernel),o,q8,c,st,pre,n,rfl,hc,e,by omega,by omega,fun c1 H1 s1 hc1=>?_⟩
    obtain ⟨dx2,aM2,aP2,aA2,aD2,aF2,aE2,aR2,ms2,ds2,ws2,fs2,es2,X2⟩:=hc1.ex
    refine ⟨_,rfl,o,dx2,_,rfl,X2.ob,cU (by decide +kernel),(by show 1 ≤ sizeLine; decide),fun t ht=>?_⟩
    have s3 : Step (hU i) c1 (aW c1 t none) H1 (upd H1 t (.tup [V.str (Str.ofString "drop")])):=Step.new a6 ht
    have X3:=X2.free (W:=fun _=>False) (fun _=>id) (Step.new (x:=none) (o:=.tup [V.str (Str.ofString "drop")]) id ht)
    refine ⟨o,t,_,_,.nums (Str.ofString "drop") [],rfl,X3.at,CJ,zM (by decide +kernel) (fun _ h=>nomatch h),by show st.rows.length ≤ 1000; omega,fun c4 H4 s4 hc4=>?_⟩
    exact q c4 H4 ((s1.trans s3).trans s4) hc4
theorem Jz (T : Txt w.params K mg A) {i : Nat} : aw P w K mg base (CXX P w) 6 A.cx A.fG ["self","number"] (G5 A i):=by
  have jZ : aw P w K mg base CX0 4 A.lB A.hG ["deed"] (R.Cy K):=R.pF T
  have zF : aw P w K mg base CX0 3 A.y7 A.ot ["pile","closed"] (MV A K):=Bg T
  have i8 : aw P w K mg base CX0 1 A.bP A.dQ ["self"] (vA A i):=zA T
  have tF : aw P w K mg base CX0 1 A.qH A.oy ["self","bar"] (Af A.bE "bar"):=wD T
  have G8 : aw P w K mg base CX0 1 A.ui A.rY ["self","sitting"] (Af A.bH "sitting"):=DJ T
  refine T.gK.okX pS (fun vs H Q E h=>?_) (fun cdv A' outer s H vs Q E hr h=>?_)
  · obtain ⟨o,n,c,st,N,rfl,_⟩:=h
    rfl
  · obtain ⟨o,n,c,st,N,rfl,hc,I,hN,ad1,q⟩:=h
    obtain ⟨dx,aM,aP,aA,aD,aF,aE,aR,ms,ds,ws,fs,es,X⟩:=hc.ex
    have hu1:=hr.u1
    have hgd:=hr.gd
    have i6 : Room 4 _:=hr.mono (by decide)
    have vE : Room 3 _:=hr.mono (by decide)
    have iD : Room 1 _:=hr.mono (by decide)
    have Ke : Room 2 _:=hr.mono (by decide)
    have lim : sizeLine = 16777216:=by decide
    refine ⟨_,(aL (eM (qv (bg (pv 0) rfl) (fun _=>rfl))
  (bq (oZ T.oz tF Ke T.l6 rfl rfl T.qN (aa (bK zF vE rfl T.za T.uj.kp T.y9 .nil bh (aa (gx (pv 0) T.ai T.iW i8 iD T.ej .nil bh) (aa (bg (pv 0) rfl) ah))) ah)))
  (qB aJ))
  (aL (eM (Lm (A0 hu1 (pv 1) (bg (pv 0) rfl)))
  (bq (jh T.zo rfl rfl T.vr (aa (AW (lK (u9 (pv 1) (lK u7)))) ah)))
  (qB aJ))
  (aL (psx (bA (i:=2) pS.nd rfl (Or.inl rfl) (aS aY (mV hu1 (bg (pv 0) rfl) (pv 1) (fun _ _=>rfl)) ak (fun _ _=>rfl))))
  (aL (eM (aI yy (bg (pv 0) rfl) (pv 2) (aT _))
  (bq (oZ T.r8 G8 Ke T.pD rfl rfl T.uv (aa (pv 2) ah)))
  (qB aJ))
  (aL (psx (eL (pv 0) (aS Ry (Mc (bg (pv 0) rfl) (pv 1) ⟨rfl,rfl,rfl,rfl⟩) ak (fun _ _=>rfl)) rfl))
  (aL (psx (cI (lH PySem.F.plainAttrs_list PySem.F.slot_list_append PySem.F.type_list_append gR (bg (pv 0) rfl) (aa (bK jZ i6 rfl T.m6 T.jU.kp T.m5 .nil bh (aa (cQ (aa au (aa (pv 1) ah))) ah)) ah))))
  (bq (psx (aG (pv 1)))))))))),?_⟩
    refine ⟨_,rfl,o,A.ag,dx,_,.ref aP,rfl,X.ob,T.ai,T.jq0,fK,_,.inl ⟨_,.inl (.inl X.aC.2),rfl⟩,?_⟩
    unfold stepT at q
    cases e : st.aC with
    | cons k0 r0 =>
      rw [if_neg (by rw [e]; exact List.cons_ne_nil _ _)] at q
      have lp:=I.pil.Kj
      rw [List.length_map] at lp
      have hb:=CA st.closed (st.aC.map st.mo)
      have hb0 : 0 ≤ uB st.closed (st.aC.map st.mo):=Int.le_trans (by
        by_cases z : sv (st.aC.map st.mo) < 0
        · have:=DN z
          rw [e] at this; cases this
        · omega) (wF _ _)
      refine jO ⟨_,rfl,o,dx,_,rfl,X.ob,cU (by decide +kernel),o,c,st,rfl,hc,I.fw,by omega,fun B os hB hos=>?_⟩
      have sB:=aH (o:=.lst (os.map V.ref)) hB
      refine ⟨_,rfl,o,A.ag,dx,_,.bl st.closed,rfl,sB _ _ X.ob,T.ai,T.jq4,tE,B,st.closed,c,st.aC.map st.mo,os,rfl,⟨SqL.of ae,zL sB hos⟩,?_⟩
      refine ⟨_,rfl,r9 (by omega) (by omega),fun d hd=>?_⟩
      exact q (hX c H) _ _ _ (Step.cl a6 (sB.new hd)) (X.cl (sB.new hd)).at ⟨rfl,d,rfl,ae⟩ (fun _ z=>by cases z; exact dY (same_none sB hd))
    | nil =>
      rw [if_pos e] at q
      refine eD ?_
      refine ⟨_,rfl,_,rfl,o,A.ag,dx,_,.ref aA,rfl,X.ob,T.ai,T.jq3,lD,aA,_,rfl,.inl ⟨_,Sum.inl (n : Int),.inl X.aO.2,rfl,rfl⟩,_,rfl,?_⟩
      cases hx : at1 n st.aO with
      | none =>
        rw [hx] at q
        rw [pL (zG hx)]
        have l1 : (Str.empty ++ Str.ofString "no matter of the number " : Str).length = 24:=by decide +kernel
        have l2 : (Str.ofString " is aside").length = 9:=by decide +kernel
        have e10 : (10 : Nat) ^ 10 = 10000000000:=by decide
        have l3 : (Str.ofString (toString (n : Int))).length ≤ 20:=vB (by omega) (by omega)
        refine jO ⟨by rw [l1]; omega,_,rfl,_,.int (lE (by omega) (by omega)),by omega,by rw [len_app,l1]; omega,by rw [len_app,len_app,l1,l2]; omega,by rw [len_app,len_app,l1,l2]; omega,(by show 1 ≤ sizeLine; decide),?_⟩
        exact q c H _ _ (Step.refl a6) hc ⟨rfl,rfl⟩ (fun _ z=>nomatch z)
      | some x =>
        rw [hx] at q
        dsimp only at q
        obtain ⟨t,p,hv,ht,hl⟩:=X.waitOf hx
        rw [hv]
        refine eD ?_
        refine ⟨_,rfl,o,A.ag,dx,_,.ref aA,rfl,X.ob,T.ai,T.jq3,lD,_,rfl,aA,_,rfl,.inl ⟨_,Sum.inl (n : Int),.inl X.aO.2,rfl,hv.symm⟩,t,_,_,_,rfl,rfl,ht.sq,rfl,?_⟩
        refine ⟨_,rfl,o,A.ag,dx,_,.int st.a7,rfl,X.ob,T.ai,T.jq1,iP,_,rfl,_,_,rfl,rfl,_,rfl,n5 (fun z=>?_) (fun z=>?_)⟩
        · have z' : st.a7 < x.2.1:=of_decide_eq_true z
          rw [if_pos z'] at q
          obtain ⟨_,_,b1,b2⟩:=I.asd x (pM hx).2
          refine ⟨_,rfl,_,rfl,r9 (by have:=I.sit.1; omega) b2,fun d hd=>?_⟩
          exact q (hX c H) _ _ _ (Step.cl a6 (aH hd)) (X.cl (aH hd)).at ⟨rfl,d,rfl,ae⟩ (fun _ z=>by cases z; exact dY hd)
        · have z' : ¬ st.a7 < x.2.1:=fun y=>z (decide_eq_true y)
          rw [if_neg z'] at q
          have nAt : t ≠ aA:=fun y=>by have:=ht.1; rw [y,X.aO.1] at this; cases this
          have ht' : SqT K (upd H aA (.dK (kL (bz ((st.aO.map (·.1)).zip ws)) (Sum.inl (n : Int))))) t [.int x.2.1,.ref p]:=by
            rcases ht.2 with h | ⟨u,h⟩
            · exact .inl (.inl ((aq nAt).trans h))
            · exact .inl (.inr ⟨u,(aq nAt).trans h⟩)
          have oA : o ≠ aA:=q5 X.co X.aO.1 (fun z=>nomatch z)
          refine ⟨_,rfl,o,A.ag,dx,_,.ref aA,rfl,X.ob,T.ai,T.jq3,lD,aA,rfl,.inl ⟨_,.inl X.aO.2⟩,_,rfl,_,Sum.inl (n : Int),_,X.aO.2,rfl,hv,.inr (.inl ⟨t,_,1,.ref p,rfl,rfl,ht',rfl,?_⟩)⟩
          refine ⟨_,rfl,o,A.ag,dx,_,rfl,(aq oA).trans X.ob,T.ai,T.jq0,(by show 10 < 1000; decide),?_⟩
          rw [DH]
          obtain ⟨c1,ws1,s1,X1⟩:=X.uE hl
          generalize upd (upd H aA (.dK (kL (bz ((st.aO.map (·.1)).zip ws)) (Sum.inl (n : Int))))) o (.ins A.ag dx (chF (.int st.dh) (.int st.a7) (.bl st.closed) (.ref aM) (.ref p) (.ref aA) (.ref aD) (.ref aF) (.ref aE) (.ref aR))) = H1 at s1 X1 ⊢
          have lr:=I.lr
          have h10 : (n : Int) < 10 ^ 10:=by
            have : (10 : Nat) ^ 10 = 10000000000:=by decide
            have : (10 : Int) ^ 10 = 10000000000:=by decide
            omega
          refine ⟨_,rfl,o,A.ag,dx,_,.ref aR,rfl,X1.ob,T.ai,T.jqk,uA,.inl ⟨rfl,_,SqL.of X1.rows.2⟩,_,rfl,(by show 2 ≤ sizeLine; decide),fun u hu=>?_⟩
          have s2:=aH (o:=.tup [V.str (Str.ofString "take"),nV n]) hu
          refine ⟨u,.nums (Str.ofString "take") [(n : Int)],rfl,SqT.of ae,zM (by show (Str.ofString "take",1) ∈ R.i4; decide +kernel) (by intro i hi; rw [List.mem_singleton] at hi; rw [hi]; exact ⟨by omega,h10⟩),fun H2 s3=>?_⟩
          have X2:=X1.same (s2.trans s3)
          obtain ⟨s4,X3⟩:=X2.row (R.tf (.nums (Str.ofString "take") [(n : Int)]))
          refine ⟨aR,_,_,rfl,rfl,X2.rows.2,by rw [List.length_map]; show st.rows.length < _; omega,_,rfl,?_⟩
          exact q c1 _ ((s1.qU.trans (Step.same a6 (s2.trans s3))).trans s4.qU) X3.at
end
end My
set_option maxHeartbeats 1000000
namespace My
open PySem L2
seal PySem.wpAny
theorem Nc {α : Type} {P : Program} {w : World} {K : PySem.W.Frag} {mg : Str → Option Value} {base : Heap} {CX : CXT} {k : Nat} {f : Addr} {fd : FuncData} {ps : List Str} {sp : α → Sp} (F : ∀ a,aw P w K mg base CX k f fd ps (sp a)) :
    aw P w K mg base CX k f fd ps (fun vs H Q E=>∃ a,sp a vs H Q E) :=
  ⟨fun vs H Q E ⟨a,z⟩=>(F a).1 vs H Q E z,fun x1 x2 x3 H x4 x5 vs Q E x6 x7 x8 x9 ⟨a,z⟩=>(F a).2 x1 x2 x3 H x4 x5 vs Q E x6 x7 x8 x9 z⟩
def iE : R.dz → Mn
  | .mat cs=>.mat (cs.map (Str.join R.bl1))
  | .ed m k j ws=>if m = true then .mnd ⟨k,j,Str.join R.bl1 ws⟩ else .chg ⟨k,j,Str.join R.bl1 ws⟩
  | .pt ws=>.pnt (Str.join R.bl1 ws)
  | .nums kd ns=>if kd = Str.ofString "put off" then .off (ns.getD 0 0) else if kd = Str.ofString "close" then .cls else if kd = Str.ofString "lay" then .lay else .rst
def uG : List (Str × Nat):=[(Str.ofString "put off",1),(Str.ofString "close",0),(Str.ofString "lay",0),(Str.ofString "rest",0)]
def DR : R.dz → Prop
  | .mat cs=>cs.length ≤ 12 ∧ ∀ ws ∈ cs,R.qg 12 ws
  | .ed m k j ws=>(k = 0 ∨ k = 1 ∨ k = 2) ∧ (-1000 ≤ j ∧ j ≤ 1000) ∧ R.qg 12 ws ∧ (m = true → ws.length = 1)
  | .pt ws=>R.qg 12 ws
  | .nums kd ns=>(kd,ns.length) ∈ uG ∧ ∀ i ∈ ns,-10000000000 < i ∧ i < 10 ^ 10
theorem m9 {kd : Str} {ns : List Int} (h : (kd,ns.length) ∈ uG) : (∃ u,kd = Str.ofString "put off" ∧ ns = [u]) ∨ (kd = Str.ofString "close" ∧ ns = []) ∨ (kd = Str.ofString "lay" ∧ ns = []) ∨ (kd = Str.ofString "rest" ∧ ns = []):=by
  unfold uG at h
  simp only [List.mem_cons,List.not_mem_nil,or_false,Prod.mk.injEq] at h
  rcases h with ⟨h1,h2⟩ | ⟨h1,h2⟩ | ⟨h1,h2⟩ | ⟨h1,h2⟩
  · cases ns with
    | nil=>simp at h2
    | cons u r =>
      cases r with
      | nil=>exact .inl ⟨u,h1,rfl⟩
      | cons _ _=>simp at h2
  · exact .inr (.inl ⟨h1,List.length_eq_zero_iff.mp h2⟩)
  · exact .inr (.inr (.inl ⟨h1,List.length_eq_zero_iff.mp h2⟩))
  · exact .inr (.inr (.inr ⟨h1,List.length_eq_zero_iff.mp h2⟩))
theorem rg {n : Nat} {ws : List Str} (h : R.qg n ws) : PyData.strOk (Str.join R.bl1 ws) = true:=(R.Clause.asc (n:=n) ⟨rfl,h.len,h.wd⟩).ok
theorem Nd {N : Nat} : ∀ {d : R.dz},DR d → MOk N (iE d)
  | .mat cs,h=>by
    refine ⟨?_,?_⟩
    · rw [List.length_map]; have:=h.1; omega
    · intro x hx
      obtain ⟨ws,hw,rfl⟩:=List.mem_map.mp hx
      exact rg (h.2 ws hw)
  | .ed m k j ws,h=>by
    obtain ⟨h1,⟨h2,h3⟩,h4,h5⟩:=h
    cases m with
    | true =>
      show EdB 1 ⟨k,j,Str.join R.bl1 ws⟩ ∧ _
      have hl:=h5 rfl
      match ws,hl,h4 with
      | [x],_,h4=>exact ⟨⟨h1,h2,h3,[x],rfl,h4.wd,Nat.le_refl 1⟩,x,rfl,h4.wd x List.mem_cons_self⟩
    | false =>
      show EdB (12 + N) ⟨k,j,Str.join R.bl1 ws⟩
      exact ⟨h1,h2,h3,ws,rfl,h4.wd,by have:=h4.len; omega⟩
  | .pt ws,h=>rg h
  | .nums kd ns,h=>by
    obtain ⟨h1,h2⟩:=h
    rcases m9 h1 with ⟨u,rfl,rfl⟩ | ⟨rfl,rfl⟩ | ⟨rfl,rfl⟩ | ⟨rfl,rfl⟩
    · rw [iE,if_pos rfl]
      obtain ⟨a,b⟩:=h2 u List.mem_cons_self
      have : (10 : Int) ^ 10 = 10000000000:=by decide
      exact ⟨a,by show u < _; omega⟩
    · rw [iE,if_neg (by decide +kernel),if_pos rfl]; trivial
    · rw [iE,if_neg (by decide +kernel),if_neg (by decide +kernel),if_pos rfl]; trivial
    · rw [iE,if_neg (by decide +kernel),if_neg (by decide +kernel),if_neg (by decide +kernel)]; trivial
theorem Qh {M : Nat} {e : Ed} (h : iZ M e = true) : 0 ≤ e.at_:=(Dz.mp h).1
theorem Sy {N : Nat} {st : Ch} (I : Inv N st) {d : R.dz} (h : DR d) (hc : w9 st (iE d) = none) : R.DOk d:=by
  have ho : zC st.closed (st.aC.map st.mo) (iE d).k = none ∧ sC st (iE d) = none:=by
    unfold w9 at hc
    split at hc
    · cases hc
    · exact ⟨by assumption,hc⟩
  obtain ⟨h0,hf⟩:=ho
  cases d with
  | mat cs=>exact h
  | pt ws=>exact h
  | ed m k j ws =>
    obtain ⟨h1,⟨h2,h3⟩,h4,h5⟩:=h
    have e10 : (10 : Int) ^ 10 = 10000000000:=by decide
    refine ⟨h1,⟨?_,by omega⟩,h4,h5⟩
    cases m with
    | true =>
      rw [iE,if_pos rfl] at h0 hf
      have h3 : pI (st.aC.map st.mo) = true:=(uF h0).2
      unfold pI at h3
      split at h3
      · rename_i e he
        unfold sC at hf
        dsimp only at hf
        rw [he] at hf
        dsimp only at hf
        split at hf
        · rename_i h6
          exact Qh h6
        · cases hf
      · cases h3
    | false =>
      rw [iE,if_neg Bool.false_ne_true] at h0 hf
      obtain ⟨tx,r,e1⟩:=I.pil.Ki (uF h0).2
      unfold sC at hf
      dsimp only at hf
      rw [e1] at hf
      dsimp only at hf
      split at hf
      · rename_i h6
        exact Qh h6
      · cases hf
  | nums kd ns =>
    obtain ⟨h1,h2⟩:=h
    have s1:=I.sit.1
    rcases m9 h1 with ⟨u,rfl,rfl⟩ | ⟨rfl,rfl⟩ | ⟨rfl,rfl⟩ | ⟨rfl,rfl⟩
    · rw [iE,if_pos rfl] at hf
      refine ⟨by show (Str.ofString "put off",1) ∈ R.i4; decide +kernel,fun i hi=>?_⟩
      rw [List.mem_singleton] at hi
      subst hi
      unfold sC at hf
      dsimp only at hf
      split at hf
      · cases hf
      · rename_i h6
        have h7 : ¬ i ≤ st.a7:=h6
        exact ⟨by omega,(h2 i List.mem_cons_self).2⟩
    · exact ⟨by decide +kernel,fun _ h=>nomatch h⟩
    · exact ⟨by decide +kernel,fun _ h=>nomatch h⟩
    · exact ⟨by decide +kernel,fun _ h=>nomatch h⟩
theorem uH {i : Nat} {c : Col} {H : Hp} {t : Addr} : ∀ {d : R.dz},DR d → mn i c H d t → ∃ v,vF i c H t (rowOf (iE d).k v) ∧ ((iE d).k = 0 → ∃ L tx,v = .ref L ∧ iE d = .mat tx ∧ Kh i c H L (tx.map V.str)) ∧ ((iE d).k ≠ 0 → (iE d).Val c H v)
  | .mat cs,_,⟨L,a,b⟩=>⟨.ref L,a,fun _=>⟨L,_,rfl,rfl,b⟩,fun z=>absurd rfl z⟩
  | .ed true k j ws,h,⟨e,a,b⟩=>⟨.ref e,a,fun z=>(nomatch z),fun _=>⟨e,rfl,by rw [← GZ h.1]; exact b⟩⟩
  | .ed false k j ws,h,⟨e,a,b⟩=>⟨.ref e,a,fun z=>(nomatch z),fun _=>⟨e,rfl,by rw [← GZ h.1]; exact b⟩⟩
  | .pt ws,_,a=>⟨.str (Str.join R.bl1 ws),a,fun z=>(nomatch z),fun _=>rfl⟩
  | .nums kd ns,h,a=>by
    rcases m9 h.1 with ⟨u,rfl,rfl⟩ | ⟨rfl,rfl⟩ | ⟨rfl,rfl⟩ | ⟨rfl,rfl⟩
    · rw [iE,if_pos rfl]
      exact ⟨.int u,a,fun z=>(nomatch z),fun _=>rfl⟩
    · rw [iE,if_neg (by decide +kernel),if_pos rfl]
      exact ⟨.non,a,fun z=>(nomatch z),fun _=>trivial⟩
    · rw [iE,if_neg (by decide +kernel),if_neg (by decide +kernel),if_pos rfl]
      exact ⟨.non,a,fun z=>(nomatch z),fun _=>trivial⟩
    · rw [iE,if_neg (by decide +kernel),if_neg (by decide +kernel),if_neg (by decide +kernel)]
      exact ⟨.non,a,fun z=>(nomatch z),fun _=>trivial⟩
def G9 (A : Adr) (K : PySem.W.Frag) : Sp:=fun vs H Q E=>Jh A vs H Q E ∨ DA A K vs H Q E
def Qi (A : Adr) (i : Nat) : Sp:=fun vs H Q E=>∃ (o t : Addr) (c : Col) (st : Ch) (N : Nat) (d : R.dz),vs = [.ref o,.ref t] ∧ eZ A i c H o st ∧ Inv N st ∧ N ≤ 800 ∧ DR d ∧ mn i c H d t ∧
  (w9 st (iE d) = none → ∀ H',bQ H H' → Q .non H') ∧ ∀ x,w9 st (iE d) = some x → ∀ C e H',bQ H H' → x.New A H H' C e → E C e H'
def Ha (A : Adr) (i : Nat) : Sp:=fun vs H Q E=>∃ (o t : Addr) (c : Col) (st : Ch) (N : Nat) (d : R.dz),vs = [.ref o,.ref t] ∧ eZ A i c H o st ∧ Inv N st ∧ N ≤ 800 ∧ DR d ∧ mn i c H d t ∧ DQ A i c H o (q9 st (iE d) (R.tf d)) Q E
theorem MOk.ed1 {N : Nat} {e : Ed} (h : MOk N (.chg e)) (hN : N ≤ 800) : uw e:=EdB.ok h (by omega)
theorem MOk.ed2 {N : Nat} {e : Ed} (h : MOk N (.mnd e)) : uw e:=EdB.ok h.1 (by decide)
section
variable {P : Program} {w : World} {K : PySem.W.Frag} {mg : Str → Option Value} {base : Heap} {A : Adr}
theorem pN (T : Txt w.params K mg A) {i : Nat} : aw P w K mg base (CXX P w) 6 A.aQ A.cB ["self","told"] (Qi A i):=by
  have i8 : aw P w K mg base CX0 1 A.bP A.dQ ["self"] (vA A i):=zA T
  have tG : aw P w K mg base (CXX P w) 5 A.g7 A.eI ["kind","pile","closed"] (P9 A K):=sx T
  have jN : aw P w K mg base (CXX P w) 2 A.jS A.gA ["things","edit"] (MJ A K):=qO T
  have fv : aw P w K mg base CX0 1 A.words_of A.e9 ["clause"] R.lC:=R.jW T
  have CL : aw P w K mg base CX0 1 A.pf A.mY ["self","sitting"] (Af A.a8 "sitting"):=Ar T
  refine T.bW.okX cY (fun vs H Q E h=>?_) (fun cdv A' outer s H vs Q E hr h=>?_)
  · obtain ⟨o,t,c,st,N,d,rfl,_⟩:=h
    rfl
  · obtain ⟨o,t,c,st,N,d,rfl,hc,I,hN,hd,hdc,q,qx⟩:=h
    obtain ⟨dx,aM,aP,aA,aD,aF,aE,aR,ms,ds,ws,fs,es,X⟩:=hc.ex
    have hu1:=hr.u1
    have iD : Room 1 _:=hr.mono (by decide)
    have sE : Room 5 _:=hr
    have i3 : Room 2 _:=hr.mono (by decide)
    have ez : Room 1 _:=hr.mono (by decide)
    have Ke : Room 2 _:=hr.mono (by decide)
    refine ⟨_,(aL (psx (bA (i:=2) cY.nd rfl (Or.inl rfl) (aS aY (pv 1) ak (fun _ _=>rfl))))
  (aL (psx (bA (i:=3) cY.nd rfl (Or.inl rfl) (gx (pv 0) T.ai T.iW i8 iD T.ej .nil bh)))
  (aL (lI (n8 tG sE rfl T.lS T.iB.kp T.lR (pax (aa (pv 2) (aa (pv 3) (aa (bg (pv 0) rfl) ah))))))
  (bq (eM (aI cf (pv 2) au (aT _))
  (bq (lI (n8 jN i3 rfl T.jM T.ig.kp T.jL (pax (aa (bg (aS cq (pv 3) ak (fun _ _=>rfl)) rfl) (aa (aS aY (pv 1) ak (fun _ _=>rfl)) ah))))))
  (bq (eM (aI cf (pv 2) au (aT _))
  (bq (lI (n8 jN i3 rfl T.jM T.ig.kp T.jL (pax (aa (bK fv ez rfl T.jr T.iA.kp T.jq .nil bh (aa (aS aY (bg (aS cq (pv 3) (AG u3 ak) (fun _ _=>rfl)) rfl) ak (fun _ _=>rfl)) ah)) (aa (aS aY (pv 1) ak (fun _ _=>rfl)) ah))))))
  (bq (eM (PW.pt (pw_and (aI cf (pv 2) au (aT _)) (pw_and1 (aI IL (aS aY (pv 1) ak (fun _ _=>rfl)) (bg (pv 0) rfl) (aT _)))))
  (bq (oZ T.m7 CL Ke T.kZ rfl rfl T.pB (aa (bg (pv 0) rfl) ah)))
  (qB aJ)))))))))),?_⟩
    obtain ⟨v,ht,hv0,hv1⟩:=uH hd hdc
    have hmk:=Nd (N:=N) hd
    generalize iE d = m at ht hv0 hv1 hmk q qx
    have lp:=I.pil.Kj
    rw [List.length_map] at lp
    refine ⟨_,rfl,t,_,_,_,rfl,rfl,SqT.of ht.2,pJ,?_⟩
    refine ⟨_,rfl,o,dx,_,rfl,X.ob,cU (by decide +kernel),o,c,st,rfl,hc,I.fw,by omega,fun B os hB hos=>?_⟩
    have sB:=aH (o:=.lst (os.map V.ref)) hB
    have hp : uC A K c (upd H B (.lst (os.map V.ref))) B (st.aC.map st.mo) os:=⟨SqL.of ae,zL sB hos⟩
    generalize upd H B (.lst (os.map V.ref)) = H1 at sB hp
    refine ⟨_,rfl,_,rfl,_,rfl,o,A.ag,dx,_,.bl st.closed,rfl,sB _ _ X.ob,T.ai,T.jq4,tE,m.k,B,st.closed,c,st.aC.map st.mo,os,rfl,m.k8,hp,by rw [List.length_map]; omega,fun ho H2 s2=>?_,fun x hx C e H2 s2 hat=>?_⟩
    case refine_2=>exact qx x (by unfold w9; rw [hx]) C e H2 (sB.trans s2) ⟨hat.1,fun a z=>same_none sB (hat.2 a z)⟩
    have ec : w9 st m = sC st m:=by unfold w9; rw [ho]
    rw [ec] at q qx
    have s12:=sB.trans s2
    have hp2:=hp.same s2
    obtain ⟨h1,h2⟩:=uF ho
    have X2:=X.same s12
    have ht2 : H2 t = some (.tup (rowOf m.k v)):=s12 _ _ ht.2
    cases m with
    | mat tx=>exact ⟨_,rfl,rfl,_,rfl,aN (gq 0 (by decide)) ⟨_,rfl,rfl,_,rfl,aN (iC 0 (by decide)) ⟨_,rfl,rfl,_,rfl,aN (kF 0 (by decide)) (eD (q rfl H2 s12))⟩⟩⟩
    | pnt z=>exact ⟨_,rfl,rfl,_,rfl,aN (gq 7 (by decide)) ⟨_,rfl,rfl,_,rfl,aN (iC 7 (by decide)) ⟨_,rfl,rfl,_,rfl,aN (kF 7 (by decide)) (eD (q rfl H2 s12))⟩⟩⟩
    | cls=>exact ⟨_,rfl,rfl,_,rfl,aN (gq 4 (by decide)) ⟨_,rfl,rfl,_,rfl,aN (iC 4 (by decide)) ⟨_,rfl,rfl,_,rfl,aN (kF 4 (by decide)) (eD (q rfl H2 s12))⟩⟩⟩
    | lay=>exact ⟨_,rfl,rfl,_,rfl,aN (gq 5 (by decide)) ⟨_,rfl,rfl,_,rfl,aN (iC 5 (by decide)) ⟨_,rfl,rfl,_,rfl,aN (kF 5 (by decide)) (eD (q rfl H2 s12))⟩⟩⟩
    | rst=>exact ⟨_,rfl,rfl,_,rfl,aN (gq 6 (by decide)) ⟨_,rfl,rfl,_,rfl,aN (iC 6 (by decide)) ⟨_,rfl,rfl,_,rfl,aN (kF 6 (by decide)) (eD (q rfl H2 s12))⟩⟩⟩
    | chg e =>
      refine ⟨_,rfl,rfl,_,rfl,dj (gq 1 (by decide)) ?_⟩
      obtain ⟨tx,r,e1⟩:=I.pil.Ki h2
      obtain ⟨te,rfl,hte⟩:=hv1 (by simp [Mn.k])
      rw [e1] at hp2
      obtain ⟨hB2,ho2⟩:=hp2
      cases ho2 with
      | @cons _ ob _ bs hm adX =>
        obtain ⟨_,dm,v,hm2,L,rfl,hL⟩:=hm
        refine ⟨_,rfl,B,_,_,_,rfl,rfl,hB2,oY (j:=0) rfl,ob,A.C 0,dm,_,.ref L,rfl,hm2,T.cl 0 (by decide),T.na0,rfl,_,rfl,t,_,_,_,rfl,rfl,SqT.of ht2,rfl,?_⟩
        refine ⟨L,te,tx.map V.str,e,rfl,SqL.of hL.2,d8 s12 hte.sq,hmk.ed1 hN,fun hf=>?_,fun hf=>?_⟩
        · rw [List.length_map] at hf
          refine q ?_ H2 s12
          unfold sC; dsimp only; rw [e1]; dsimp only; rw [if_pos hf]
        · rw [List.length_map] at hf
          refine qx .noFit ?_ _ _ H2 s12 ⟨⟨rfl,rfl⟩,fun _ z=>nomatch z⟩
          unfold sC; dsimp only; rw [e1]; dsimp only; rw [if_neg (by rw [hf]; decide)]
    | mnd f =>
      refine ⟨_,rfl,rfl,_,rfl,aN (gq 2 (by decide)) ⟨_,rfl,rfl,_,rfl,dj (iC 2 (by decide)) ?_⟩⟩
      have h3 : pI (st.aC.map st.mo) = true:=h2
      unfold pI at h3
      obtain ⟨e,he,hk1⟩ : ∃ e,(st.aC.map st.mo).getLast? = some (.chg e) ∧ e.k ≠ 1:=by
        split at h3
        · rename_i e he
          exact ⟨e,he,fun z=>by rw [z] at h3; cases h3⟩
        · cases h3
      obtain ⟨r,e1⟩:=sj he
      obtain ⟨te,rfl,hte⟩:=hv1 (by simp [Mn.k])
      obtain ⟨hB2,ho2⟩:=hp2
      obtain ⟨pre,ob,eo⟩ : ∃ pre ob,os = pre ++ [ob]:=by
        have hl:=ho2.len
        rw [e1,List.length_append,List.length_singleton] at hl
        rcases List.eq_nil_or_concat os with e | ⟨pre,n,e⟩
        · rw [e] at hl; simp at hl
        · exact ⟨pre,n,by rw [e,List.concat_eq_append]⟩
      subst eo
      obtain ⟨as',a,e3,_,hm⟩:=ho2.last
      rw [e1] at e3
      obtain ⟨_,e4⟩:=List.append_inj' e3 rfl
      cases e4
      obtain ⟨_,dm,v,hm2,tc,rfl,htc⟩:=hm
      have hem : EdB (12 + N) e:=by
        have Sz : Mn.chg e ∈ st.aC.map st.mo:=by rw [e1]; simp
        obtain ⟨k,hk,ek⟩:=List.mem_map.mp Sz
        have:=I.DO (I.fw k hk)
        rw [ek] at this
        exact this
      have heo : uw e:=hem.ok (by omega)
      refine ⟨_,rfl,_,rfl,B,_,_,_,rfl,rfl,hB2,zD pre ob,ob,A.C 1,dm,_,.ref tc,rfl,hm2,T.cl 1 (by decide),T.na1,rfl,tc,_,_,_,rfl,rfl,htc.sq,Co hk1,e.th,rfl,?_,fun p1 hp1=>?_⟩
      · have:=heo.th.len
        have lim : sizeLine = 16777216:=by decide
        omega
      have s3:=aH (o:=.lst ((R.bZ e.th).map V.str)) hp1
      have s13:=s12.trans s3
      refine ⟨_,rfl,t,_,_,_,rfl,rfl,SqT.of (s3 _ _ ht2),rfl,?_⟩
      refine ⟨p1,te,(R.bZ e.th).map V.str,f,rfl,SqL.of ae,d8 s13 hte.sq,hmk.ed2,fun hf=>?_,fun hf=>?_⟩
      · rw [List.length_map] at hf
        refine q ?_ _ s13
        unfold sC; dsimp only; rw [he]; dsimp only; rw [if_pos hf]
      · rw [List.length_map] at hf
        refine qx .noFit ?_ _ _ _ s13 ⟨⟨rfl,rfl⟩,fun _ z=>nomatch z⟩
        unfold sC; dsimp only; rw [he]; dsimp only; rw [if_neg (by rw [hf]; decide)]
    | off u =>
      have hv' : v = .int u:=hv1 (by simp [Mn.k])
      subst hv'
      refine ⟨_,rfl,rfl,_,rfl,aN (gq 3 (by decide)) ⟨_,rfl,rfl,_,rfl,aN (iC 3 (by decide)) ⟨_,rfl,rfl,_,rfl,dj (kF 3 (by decide)) ?_⟩⟩⟩
      refine ⟨_,rfl,t,_,_,_,rfl,rfl,SqT.of ht2,rfl,_,rfl,o,A.ag,dx,_,.int st.a7,rfl,X2.ob,T.ai,T.jq1,iP,_,_,rfl,rfl,_,rfl,n5 (fun z=>?_) (fun z=>?_)⟩
      · have z' : u ≤ st.a7:=of_decide_eq_true z
        have:=I.sit
        refine ⟨_,rfl,o,A.ag,dx,_,.int st.a7,rfl,X2.ob,T.ai,T.jq1,iP,_,rfl,r9 (by omega) (by omega),fun d hd=>?_⟩
        refine qx (.fL st.a7) ?_ _ _ _ (s12.new hd) ⟨⟨rfl,d,rfl,ae⟩,fun _ z=>by cases z; exact same_none s12 hd⟩
        unfold sC; dsimp only; rw [if_pos z']
      · have z' : ¬ u ≤ st.a7:=fun y=>z (decide_eq_true y)
        refine q ?_ _ s12
        unfold sC; dsimp only; rw [if_neg z']
end
end My
set_option maxHeartbeats 1000000
namespace My
open PySem L2
seal PySem.wpAny
section
variable {P : Program} {w : World} {K : PySem.W.Frag} {mg : Str → Option Value} {base : Heap} {A : Adr}
theorem Pb (T : Txt w.params K mg A) : aw P w K mg base CX0 3 A.lA A.gZ ["told"] (G9 A K):=Wv (Cw T) (Aq T)
theorem Nf {i : Nat} {c : Col} {H : Hp} {t : Addr} {m : Mn} {v : V} {Q : VK} {E : XK} (ht : vF i c H t (rowOf m.k v)) (hv0 : m.k = 0 → ∃ L tx,v = .ref L ∧ m = .mat tx ∧ Kh i c H L (tx.map V.str)) (hv1 : m.k ≠ 0 → m.Val c H v)
    (q : ∀ mo H',bQ H H' → mf A (hX c H) H' m mo → Q (.ref mo) H') : G9 A K [.ref t] H Q E:=by
  by_cases h0 : m.k = 0
  · obtain ⟨L,tx,rfl,rfl,hL⟩:=hv0 h0
    refine .inr ⟨t,L,tx.map V.str,rfl,ht.2,SqL.of hL.2,fun mo p H' s hm hp hp' hmo=>q mo H' s ?_⟩
    obtain ⟨dx,hmo⟩:=hmo
    exact ⟨dY hm,dx,.ref p,hmo,p,rfl,dY hp,hp'⟩
  · refine .inl ⟨t,m.k,v,by omega,m.k8,rfl,ht.2,fun mo H' s hm hmo=>q mo H' s ?_⟩
    obtain ⟨dx,hmo⟩:=hmo
    exact ⟨dY hm,dx,v,hmo,(hv1 h0).step (Step.cl (W:=fun _=>False) id s)⟩
theorem JA (T : Txt w.params K mg A) {i : Nat} : aw P w K mg base (CXX P w) 7 A.cu A.fD ["self","told"] (Ha A i):=by
  have j3 : aw P w K mg base (CXX P w) 6 A.aQ A.cB ["self","told"] (Qi A i):=pN T
  have DS : aw P w K mg base CX0 3 A.lA A.gZ ["told"] (G9 A K):=Pb T
  have jZ : aw P w K mg base CX0 4 A.lB A.hG ["deed"] (R.Cy K):=R.pF T
  refine T.gD.okX pR (fun vs H Q E h=>?_) (fun cdv A' outer s H vs Q E hr h=>?_)
  · obtain ⟨o,t,c,st,N,d,rfl,_⟩:=h
    rfl
  · obtain ⟨o,t,c,st,N,d,rfl,hc,I,hN,hd,hdc,q⟩:=h
    obtain ⟨dx,aM,aP,aA,aD,aF,aE,aR,ms,ds,ws,fs,es,X⟩:=hc.ex
    have hu1:=hr.u1
    have jy : Room 6 _:=hr
    have CM : Room 3 _:=hr.mono (by decide)
    have i6 : Room 4 _:=hr.mono (by decide)
    have lim : sizeLine = 16777216:=by decide
    refine ⟨_,(aL (lI (lJ (px (pv 0)) T.ai T.fb j3 jy T.cE (pax (aa (pv 1) ah))))
  (aL (psx (bA (i:=2) pR.nd rfl (Or.inl rfl) (cg hZ (cG J8 (by rfl) T.Jb Gu (aa (bg (pv 0) rfl) ah)) ak)))
  (aL (psx (rT hu1 (bg (pv 0) rfl) (pv 2) (bK DS CM rfl T.wm T.m3.kp T.wk .nil bh (aa (pv 1) ah)) rfl))
  (aL (psx (cI (lH PySem.F.plainAttrs_list PySem.F.slot_list_append PySem.F.type_list_append gR (bg (pv 0) rfl) (aa (pv 2) ah))))
  (aL (psx (bU (aI cf (aS aY (pv 1) ak (fun _ _=>rfl)) au (aT _))
  (ao (rT hu1 (bg (pv 0) rfl) (pv 2) (fN d7 (by rfl) T.pA mS (aa (aS aY (pv 1) ak (fun _ _=>rfl)) ah)) rfl)
  (aj (rT hu1 (bg (pv 0) rfl) (pv 2) (eB ah) rfl)))
  aJ))
  (aL (psx (cI (lH PySem.F.plainAttrs_list PySem.F.slot_list_append PySem.F.type_list_append gR (bg (pv 0) rfl) (aa (bK jZ i6 rfl T.m6 T.jU.kp T.m5 .nil bh (aa (pv 1) ah)) ah))))
  (bq (psx (aG (pv 2)))))))))),?_⟩
    unfold q9 at q
    refine ⟨_,rfl,o,dx,_,rfl,X.ob,cU (by decide +kernel),_,rfl,o,t,c,st,N,d,rfl,hc,I,hN,hd,hdc,fun W8 H1 s1=>?_,fun x hx C e H1 s1 hat=>?_⟩
    case refine_2 =>
      rw [hx] at q
      exact q (hX c H) H1 C e (Step.cl a6 s1) (X.cl s1).at hat.1 (fun a z=>dY (hat.2 a z))
    rw [W8] at q
    have W9:=Sy I hd W8
    have X1:=X.same s1
    have st1 : Step (hU i) c c H H1:=Step.same a6 s1
    have SA:=hdc.step st1
    obtain ⟨v,ht,hv0,hv1⟩:=uH hd SA
    obtain ⟨m,em⟩ : ∃ m,m = iE d:=⟨_,rfl⟩
    rw [← em] at ht hv0 hv1 q
    have lm:=I.lm
    have lr:=I.lr
    have ml:=X1.mot.len
    have lp:=I.pil.Kj
    rw [List.length_map] at lp
    have el : (bz ((List.range' 1 st.made.length).zip (ms.map V.ref))).length = st.made.length:=by
      unfold bz
      rw [List.length_map,List.length_zip,List.length_range',List.length_map,← ml,Nat.min_self]
    have en : (((bz ((List.range' 1 st.made.length).zip (ms.map V.ref))).length : Nat) : Int) + 1 = ((st.made.length + 1 : Nat) : Int):=by rw [el]; omega
    refine ⟨_,rfl,o,A.ag,dx,_,.ref aM,rfl,X1.ob,T.ai,T.jq2,il,aM,_,rfl,X1.made.2,_,_,rfl,rfl,?_⟩
    dsimp only [qu]
    rw [en]
    refine ⟨_,rfl,Nf ht hv0 hv1 fun mo H2 s2 hmo=>?_⟩
    have X2:=X1.cl s2
    have st2 : Step (hU i) c (hX c H1) H1 H2:=Step.cl a6 s2
    refine ⟨_,rfl,o,A.ag,dx,_,.ref aM,rfl,X2.ob,T.ai,T.jq2,il,_,rfl,aM,_,rfl,wR.k (k:=Sum.inl ((st.made.length + 1 : Nat) : Int)) X2.made.2 (by omega),?_⟩
    obtain ⟨st3,X3⟩:=X2.O2 hmo
    have SD:=st2.trans st3.qU
    generalize upd H2 aM (.dK (putK (bz ((List.range' 1 st.made.length).zip (ms.map V.ref))) (Sum.inl ((st.made.length + 1 : Nat) : Int)) (.ref mo))) = H3 at SD X3 ⊢
    clear hmo st2 X2
    generalize hX c H1 = c3 at SD X3
    refine ⟨_,rfl,o,A.ag,dx,_,.ref aP,rfl,X3.ob,T.ai,T.jq0,fK,.inl ⟨rfl,_,SqL.of X3.aC.2⟩,_,rfl,aP,_,_,rfl,rfl,X3.aC.2,by rw [List.length_map]; show st.aC.length < _; omega,?_⟩
    obtain ⟨st4,X4⟩:=X3.push (st.made.length + 1)
    have Xa:=SD.trans st4.qU
    have X4' : ChX A i c3 (upd H3 aP (.lst (st.aC.map nV ++ [V.int ((st.made.length + 1 : Nat) : Int)]))) o { st with made:=st.made ++ [m],aC:=st.aC ++ [st.made.length + 1] } dx aM aP aA aD aF aE aR (ms ++ [mo]) ds ws fs es:=X4
    have Bl : Step (hU i) c c3 H1 (upd H3 aP (.lst (st.aC.map nV ++ [V.int ((st.made.length + 1 : Nat) : Int)]))):=Xa
    clear X4 Xa st4
    generalize upd H3 aP (.lst (st.aC.map nV ++ [V.int ((st.made.length + 1 : Nat) : Int)])) = H4 at X4' Bl ⊢
    have nf : st.made.length + 1 ∉ st.vJ:=fun z=>by
      have:=(List.mem_filter.mp z).1
      rw [List.mem_range'_1] at this
      omega
    have ht4:=ht.step Bl
    by_cases h0 : m.k = 0
    · obtain ⟨L,tx,rfl,rfl,hL⟩:=hv0 h0
      have hL4:=hL.step Bl
      refine ⟨_,rfl,t,_,_,_,rfl,rfl,SqT.of ht4.2,rfl,rfl,_,rfl,dj (GW 0 (by decide)) ?_⟩
      refine ⟨_,rfl,t,_,_,_,rfl,rfl,SqT.of ht4.2,rfl,L,_,rfl,.inl (SqL.of hL4.2),fun p hp=>?_⟩
      have lf : st.firsts.length = fs.length:=X4'.first.len
      have lff : st.firsts.length ≤ st.made.length:=by
        have:=congrArg List.length I.ff
        rw [List.length_map] at this
        rw [this]
        exact Nat.le_trans (List.length_filter_le _ _) (by rw [List.length_range']; exact Nat.le_refl _)
      have lkk : st.kept.length ≤ st.made.length:=by
        have:=congrArg List.length I.kk
        rw [List.length_map] at this
        rw [this]
        exact Nat.le_trans (List.length_filter_le _ _) (by rw [List.length_range']; exact Nat.le_refl _)
      have sp:=aH (o:=.lst (tx.map V.str)) hp
      refine ⟨_,rfl,o,A.ag,dx,_,.ref aF,rfl,sp _ _ X4'.ob,T.ai,T.jqb,w6,_,rfl,aF,_,rfl,wR.k (k:=Sum.inl ((st.made.length + 1 : Nat) : Int)) (sp _ _ X4'.firsts.2) ?_,?_⟩
      · unfold bz
        rw [List.length_map,List.length_zip,List.length_map]
        show min st.firsts.length _ < _
        omega
      obtain ⟨st5,X5⟩:=X4'.MZ (tx:=tx) hp (n:=st.made.length + 1) (by show _ ∉ st.firsts.map (·.1); rw [I.ff]; exact nf)
      have X5' : ChX A i (aW c3 p (some (i,.md (st.made.length + 1)))) (upd (upd H4 p (.lst (tx.map V.str))) aF (.dK (putK (bz ((st.firsts.map (·.1)).zip fs)) (Sum.inl ((st.made.length + 1 : Nat) : Int)) (.ref p)))) o { st with made:=st.made ++ [.mat tx],aC:=st.aC ++ [st.made.length + 1],firsts:=st.firsts ++ [(st.made.length + 1,tx)] } dx aM aP aA aD aF aE aR (ms ++ [mo]) ds ws (fs ++ [.ref p]) es:=X5
      have SE : Step (hU i) c (aW c3 p (some (i,.md (st.made.length + 1)))) H1 (upd (upd H4 p (.lst (tx.map V.str))) aF (.dK (putK (bz ((st.firsts.map (·.1)).zip fs)) (Sum.inl ((st.made.length + 1 : Nat) : Int)) (.ref p)))):=Bl.trans st5.qU
      clear X5 st5
      generalize aW c3 p (some (i,.md (st.made.length + 1))) = c5 at X5' SE
      generalize upd (upd H4 p (.lst (tx.map V.str))) aF (.dK (putK (bz ((st.firsts.map (·.1)).zip fs)) (Sum.inl ((st.made.length + 1 : Nat) : Int)) (.ref p))) = H5 at X5' SE ⊢
      refine ⟨(by show 0 ≤ sizeLine; decide),fun p2 hp2=>?_⟩
      have sp2:=aH (o:=.lst []) hp2
      refine ⟨_,rfl,o,A.ag,dx,_,.ref aE,rfl,sp2 _ _ X5'.ob,T.ai,T.jq5,qX,_,rfl,aE,_,rfl,wR.k (k:=Sum.inl ((st.made.length + 1 : Nat) : Int)) (sp2 _ _ X5'.jY.2) ?_,?_⟩
      · unfold bz
        rw [List.length_map,List.length_zip,List.length_map]
        show min st.kept.length _ < _
        omega
      obtain ⟨st6,X6⟩:=X5'.O4 hp2 (n:=st.made.length + 1) (by show _ ∉ st.kept.map (·.1); rw [I.kk]; exact nf)
      have Xb:=SE.trans st6.qU
      have SG:=SA.step Xb
      refine ⟨_,rfl,o,A.ag,dx,_,.ref aR,rfl,X6.ob,T.ai,T.jqk,uA,.inl ⟨rfl,_,SqL.of X6.rows.2⟩,_,rfl,t,d,rfl,SG.at,W9,fun H7 s7=>?_⟩
      have X7:=X6.same s7
      obtain ⟨st8,X8⟩:=X7.row (R.tf d)
      refine ⟨aR,_,_,rfl,rfl,X7.rows.2,by rw [List.length_map]; show st.rows.length < _; omega,_,rfl,?_⟩
      exact q _ _ (((st1.trans Xb).trans (Step.same a6 s7)).trans st8.qU) X8.at
    · refine ⟨_,rfl,t,_,_,_,rfl,rfl,SqT.of ht4.2,pJ,rfl,_,rfl,aN ((GW m.k m.k8).trans (decide_eq_false h0)) ?_⟩
      have SG:=SA.step Bl
      refine ⟨_,rfl,o,A.ag,dx,_,.ref aR,rfl,X4'.ob,T.ai,T.jqk,uA,.inl ⟨rfl,_,SqL.of X4'.rows.2⟩,_,rfl,t,d,rfl,SG.at,W9,fun H7 s7=>?_⟩
      have X7:=X4'.same s7
      obtain ⟨st8,X8⟩:=X7.row (R.tf d)
      refine ⟨aR,_,_,rfl,rfl,X7.rows.2,by rw [List.length_map]; show st.rows.length < _; omega,_,rfl,?_⟩
      have e8 : st.moved m (R.tf d) = { st with made:=st.made ++ [m],aC:=st.aC ++ [st.made.length + 1],rows:=st.rows ++ [R.tf d] }:=by
        unfold Ch.moved
        cases m with
        | mat tx=>exact absurd rfl h0
        | _=>rfl
      rw [e8] at q
      exact q _ _ (((st1.trans Bl).trans (Step.same a6 s7)).trans st8.qU) X8.at
end
end My
set_option maxHeartbeats 1000000
namespace My
open PySem L2
seal PySem.wpAny
def Ng (n : Int) : Ch:=⟨n,1,false,[],[],[],[],[],[],[]⟩
def Qj (A : Adr) : Sp:=fun vs H Q _=>∃ (o dx : Addr) (n : Int),vs = [.ref o,.int n] ∧ H o = some (.ins A.ag dx []) ∧
  ∀ H',(∀ (i : Nat) (c : Col),∃ c',(∀ a v,H a = some v → a ≠ o → H' a = some v ∧ c' a = c a) ∧ eZ A i c' H' o (Ng n)) → Q .non H'
theorem ip {f : Str} {v : V} : ∀ {fs : List (Str × V)},f ∉ fs.map (·.1) → gw f v fs = fs ++ [(f,v)]
  | [],_=>rfl
  | (g,x) :: r,h=>by
    rw [gw,if_neg (fun z=>h (by rw [← z]; exact List.mem_cons_self)),ip fun z=>h (List.mem_cons_of_mem _ z)]
    rfl
theorem nxt {H : Hp} {o a C dx : Addr} {fs fs' : List (Str × V)} {v : HO} (ho : H o = some (.ins C dx fs)) (ha : H a = none) :
    (upd (upd H a v) o (.ins C dx fs')) a = some v ∧ (upd (upd H a v) o (.ins C dx fs')) o = some (.ins C dx fs') ∧ a ≠ o ∧ ∀ b u,H b = some u → b ≠ o → (upd (upd H a v) o (.ins C dx fs')) b = some u ∧ b ≠ a:=by
  have na : a ≠ o:=(aV ho ha).symm
  refine ⟨(aq na).trans ae,ae,na,fun b u hb hbo=>?_⟩
  have nb : b ≠ a:=aV hb ha
  exact ⟨(aq hbo).trans ((aq nb).trans hb),nb⟩
section
variable {P : Program} {w : World} {K : PySem.W.Frag} {mg : Str → Option Value} {base : Heap} {A : Adr}
theorem SH (T : Txt w.params K mg A) : aw P w K mg base CX0 2 A.cH A.ix ["self","seats"] (Qj A):=by
  refine T.gB.ok wU (fun vs H Q E h=>?_) (fun cdv A' outer s H vs Q E hr h=>?_)
  · obtain ⟨o,dx,n,rfl,_⟩:=h
    rfl
  · obtain ⟨o,dx,n,rfl,ho,q⟩:=h
    refine ⟨_,(ao (eL (pv 0) (pv 1) rfl)
  (ao (eL (pv 0) ak rfl)
  (ao (eL (pv 0) qt rfl)
  (ao (eL (pv 0) ub rfl)
  (ao (eL (pv 0) (eB ah) rfl)
  (ao (eL (pv 0) ub rfl)
  (ao (eL (pv 0) (eB ah) rfl)
  (ao (eL (pv 0) ub rfl)
  (ao (eL (pv 0) ub rfl)
  (aj (eL (pv 0) (eB ah) rfl))))))))))),?_⟩
    refine ⟨_,rfl,_,rfl,o,A.ag,dx,_,rfl,ho,T.ai,T.jqX,(by show 0 < 1000; decide),?_⟩
    refine ⟨_,rfl,o,A.ag,dx,_,rfl,ae,T.ai,T.jq1,(by show 1 < 1000; decide),?_⟩
    rw [mQ]
    refine ⟨_,rfl,o,A.ag,dx,_,rfl,ae,T.ai,T.jq4,(by show 2 < 1000; decide),?_⟩
    rw [mQ]
    have e0 : gw (Str.ofString "closed") (V.bl false) (gw (Str.ofString "sitting") (V.int 1) (gw (Str.ofString "seats") (V.int n) [])) = [(Str.ofString "seats",V.int n),(Str.ofString "sitting",V.int 1),(Str.ofString "closed",V.bl false)]:=by
      have f1 : gw (Str.ofString "seats") (V.int n) [] = [(Str.ofString "seats",V.int n)]:=rfl
      have f2 : gw (Str.ofString "sitting") (V.int 1) [(Str.ofString "seats",V.int n)] = [(Str.ofString "seats",V.int n),(Str.ofString "sitting",V.int 1)]:=ip (by show _ ∉ [Str.ofString "seats"]; decide +kernel)
      rw [f1,f2]
      exact ip (by show _ ∉ [Str.ofString "seats",Str.ofString "sitting"]; decide +kernel)
    rw [e0]
    have o0 : (upd H o (.ins A.ag dx [(Str.ofString "seats",V.int n),(Str.ofString "sitting",V.int 1),(Str.ofString "closed",V.bl false)])) o = some (.ins A.ag dx [(Str.ofString "seats",V.int n),(Str.ofString "sitting",V.int 1),(Str.ofString "closed",V.bl false)]):=ae
    have k0 : ∀ b u,H b = some u → b ≠ o → (upd H o (.ins A.ag dx [(Str.ofString "seats",V.int n),(Str.ofString "sitting",V.int 1),(Str.ofString "closed",V.bl false)])) b = some u:=fun b u hb hbo=>(aq hbo).trans hb
    generalize upd H o (.ins A.ag dx [(Str.ofString "seats",V.int n),(Str.ofString "sitting",V.int 1),(Str.ofString "closed",V.bl false)]) = H0 at o0 k0 ⊢
    refine fun aM zaM=>?_
    have naM : o ≠ aM:=aV o0 zaM
    refine ⟨_,rfl,o,A.ag,dx,_,rfl,(aq naM).trans o0,T.ai,T.jq2,(by show 3 < 1000; decide),?_⟩
    have e1 : gw (Str.ofString "made") (V.ref aM) [(Str.ofString "seats",V.int n),(Str.ofString "sitting",V.int 1),(Str.ofString "closed",V.bl false)] = [(Str.ofString "seats",V.int n),(Str.ofString "sitting",V.int 1),(Str.ofString "closed",V.bl false),(Str.ofString "made",V.ref aM)]:=ip (by show _ ∉ [Str.ofString "seats",Str.ofString "sitting",Str.ofString "closed"]; decide +kernel)
    rw [e1]
    obtain ⟨yaM,o1,_,waM⟩:=nxt (v:=.dK []) (fs':=[(Str.ofString "seats",V.int n),(Str.ofString "sitting",V.int 1),(Str.ofString "closed",V.bl false),(Str.ofString "made",V.ref aM)]) o0 zaM
    have k1:=fun b u (hb : H b = some u) (hbo : b ≠ o)=>waM b u (k0 b u hb hbo) hbo
    generalize upd (upd H0 aM (.dK [])) o (.ins A.ag dx [(Str.ofString "seats",V.int n),(Str.ofString "sitting",V.int 1),(Str.ofString "closed",V.bl false),(Str.ofString "made",V.ref aM)]) = H1 at o1 k1 waM yaM ⊢
    clear waM
    refine ⟨(by show 0 ≤ sizeLine; decide),fun aP zaP=>?_⟩
    have naP : o ≠ aP:=aV o1 zaP
    refine ⟨_,rfl,o,A.ag,dx,_,rfl,(aq naP).trans o1,T.ai,T.jq0,(by show 4 < 1000; decide),?_⟩
    have e2 : gw (Str.ofString "pile") (V.ref aP) [(Str.ofString "seats",V.int n),(Str.ofString "sitting",V.int 1),(Str.ofString "closed",V.bl false),(Str.ofString "made",V.ref aM)] = [(Str.ofString "seats",V.int n),(Str.ofString "sitting",V.int 1),(Str.ofString "closed",V.bl false),(Str.ofString "made",V.ref aM),(Str.ofString "pile",V.ref aP)]:=ip (by show _ ∉ [Str.ofString "seats",Str.ofString "sitting",Str.ofString "closed",Str.ofString "made"]; decide +kernel)
    rw [e2]
    obtain ⟨yaP,o2,_,waP⟩:=nxt (v:=.lst []) (fs':=[(Str.ofString "seats",V.int n),(Str.ofString "sitting",V.int 1),(Str.ofString "closed",V.bl false),(Str.ofString "made",V.ref aM),(Str.ofString "pile",V.ref aP)]) o1 zaP
    obtain ⟨yaM,Xd⟩:=waP _ _ yaM (Ne.symm naM)
    have k2:=fun b u (hb : H b = some u) (hbo : b ≠ o)=>waP b u ((k1 b u hb hbo).1) hbo
    generalize upd (upd H1 aP (.lst [])) o (.ins A.ag dx [(Str.ofString "seats",V.int n),(Str.ofString "sitting",V.int 1),(Str.ofString "closed",V.bl false),(Str.ofString "made",V.ref aM),(Str.ofString "pile",V.ref aP)]) = H2 at o2 k2 waP yaM yaP ⊢
    clear waP
    refine fun aA zaA=>?_
    have naA : o ≠ aA:=aV o2 zaA
    refine ⟨_,rfl,o,A.ag,dx,_,rfl,(aq naA).trans o2,T.ai,T.jq3,(by show 5 < 1000; decide),?_⟩
    have e3 : gw (Str.ofString "aside") (V.ref aA) [(Str.ofString "seats",V.int n),(Str.ofString "sitting",V.int 1),(Str.ofString "closed",V.bl false),(Str.ofString "made",V.ref aM),(Str.ofString "pile",V.ref aP)] = [(Str.ofString "seats",V.int n),(Str.ofString "sitting",V.int 1),(Str.ofString "closed",V.bl false),(Str.ofString "made",V.ref aM),(Str.ofString "pile",V.ref aP),(Str.ofString "aside",V.ref aA)]:=ip (by show _ ∉ [Str.ofString "seats",Str.ofString "sitting",Str.ofString "closed",Str.ofString "made",Str.ofString "pile"]; decide +kernel)
    rw [e3]
    obtain ⟨yaA,o3,_,waA⟩:=nxt (v:=.dK []) (fs':=[(Str.ofString "seats",V.int n),(Str.ofString "sitting",V.int 1),(Str.ofString "closed",V.bl false),(Str.ofString "made",V.ref aM),(Str.ofString "pile",V.ref aP),(Str.ofString "aside",V.ref aA)]) o2 zaA
    obtain ⟨yaM,Xe⟩:=waA _ _ yaM (Ne.symm naM)
    obtain ⟨yaP,Xf⟩:=waA _ _ yaP (Ne.symm naP)
    have k3:=fun b u (hb : H b = some u) (hbo : b ≠ o)=>waA b u ((k2 b u hb hbo).1) hbo
    generalize upd (upd H2 aA (.dK [])) o (.ins A.ag dx [(Str.ofString "seats",V.int n),(Str.ofString "sitting",V.int 1),(Str.ofString "closed",V.bl false),(Str.ofString "made",V.ref aM),(Str.ofString "pile",V.ref aP),(Str.ofString "aside",V.ref aA)]) = H3 at o3 k3 waA yaM yaP yaA ⊢
    clear waA
    refine ⟨(by show 0 ≤ sizeLine; decide),fun aD zaD=>?_⟩
    have naD : o ≠ aD:=aV o3 zaD
    refine ⟨_,rfl,o,A.ag,dx,_,rfl,(aq naD).trans o3,T.ai,T.jqj,(by show 6 < 1000; decide),?_⟩
    have e4 : gw (Str.ofString "decided") (V.ref aD) [(Str.ofString "seats",V.int n),(Str.ofString "sitting",V.int 1),(Str.ofString "closed",V.bl false),(Str.ofString "made",V.ref aM),(Str.ofString "pile",V.ref aP),(Str.ofString "aside",V.ref aA)] = [(Str.ofString "seats",V.int n),(Str.ofString "sitting",V.int 1),(Str.ofString "closed",V.bl false),(Str.ofString "made",V.ref aM),(Str.ofString "pile",V.ref aP),(Str.ofString "aside",V.ref aA),(Str.ofString "decided",V.ref aD)]:=ip (by show _ ∉ [Str.ofString "seats",Str.ofString "sitting",Str.ofString "closed",Str.ofString "made",Str.ofString "pile",Str.ofString "aside"]; decide +kernel)
    rw [e4]
    obtain ⟨yaD,o4,_,waD⟩:=nxt (v:=.lst []) (fs':=[(Str.ofString "seats",V.int n),(Str.ofString "sitting",V.int 1),(Str.ofString "closed",V.bl false),(Str.ofString "made",V.ref aM),(Str.ofString "pile",V.ref aP),(Str.ofString "aside",V.ref aA),(Str.ofString "decided",V.ref aD)]) o3 zaD
    obtain ⟨yaM,Xg⟩:=waD _ _ yaM (Ne.symm naM)
    obtain ⟨yaP,Xh⟩:=waD _ _ yaP (Ne.symm naP)
    obtain ⟨yaA,Xi⟩:=waD _ _ yaA (Ne.symm naA)
    have k4:=fun b u (hb : H b = some u) (hbo : b ≠ o)=>waD b u ((k3 b u hb hbo).1) hbo
    generalize upd (upd H3 aD (.lst [])) o (.ins A.ag dx [(Str.ofString "seats",V.int n),(Str.ofString "sitting",V.int 1),(Str.ofString "closed",V.bl false),(Str.ofString "made",V.ref aM),(Str.ofString "pile",V.ref aP),(Str.ofString "aside",V.ref aA),(Str.ofString "decided",V.ref aD)]) = H4 at o4 k4 waD yaM yaP yaA yaD ⊢
    clear waD
    refine fun aF zaF=>?_
    have naF : o ≠ aF:=aV o4 zaF
    refine ⟨_,rfl,o,A.ag,dx,_,rfl,(aq naF).trans o4,T.ai,T.jqb,(by show 7 < 1000; decide),?_⟩
    have e5 : gw (Str.ofString "first_texts") (V.ref aF) [(Str.ofString "seats",V.int n),(Str.ofString "sitting",V.int 1),(Str.ofString "closed",V.bl false),(Str.ofString "made",V.ref aM),(Str.ofString "pile",V.ref aP),(Str.ofString "aside",V.ref aA),(Str.ofString "decided",V.ref aD)] = [(Str.ofString "seats",V.int n),(Str.ofString "sitting",V.int 1),(Str.ofString "closed",V.bl false),(Str.ofString "made",V.ref aM),(Str.ofString "pile",V.ref aP),(Str.ofString "aside",V.ref aA),(Str.ofString "decided",V.ref aD),(Str.ofString "first_texts",V.ref aF)]:=ip (by show _ ∉ [Str.ofString "seats",Str.ofString "sitting",Str.ofString "closed",Str.ofString "made",Str.ofString "pile",Str.ofString "aside",Str.ofString "decided"]; decide +kernel)
    rw [e5]
    obtain ⟨yaF,o5,_,waF⟩:=nxt (v:=.dK []) (fs':=[(Str.ofString "seats",V.int n),(Str.ofString "sitting",V.int 1),(Str.ofString "closed",V.bl false),(Str.ofString "made",V.ref aM),(Str.ofString "pile",V.ref aP),(Str.ofString "aside",V.ref aA),(Str.ofString "decided",V.ref aD),(Str.ofString "first_texts",V.ref aF)]) o4 zaF
    obtain ⟨yaM,Xj⟩:=waF _ _ yaM (Ne.symm naM)
    obtain ⟨yaP,Xk⟩:=waF _ _ yaP (Ne.symm naP)
    obtain ⟨yaA,Xl⟩:=waF _ _ yaA (Ne.symm naA)
    obtain ⟨yaD,Xm⟩:=waF _ _ yaD (Ne.symm naD)
    have k5:=fun b u (hb : H b = some u) (hbo : b ≠ o)=>waF b u ((k4 b u hb hbo).1) hbo
    generalize upd (upd H4 aF (.dK [])) o (.ins A.ag dx [(Str.ofString "seats",V.int n),(Str.ofString "sitting",V.int 1),(Str.ofString "closed",V.bl false),(Str.ofString "made",V.ref aM),(Str.ofString "pile",V.ref aP),(Str.ofString "aside",V.ref aA),(Str.ofString "decided",V.ref aD),(Str.ofString "first_texts",V.ref aF)]) = H5 at o5 k5 waF yaM yaP yaA yaD yaF ⊢
    clear waF
    refine fun aE zaE=>?_
    have naE : o ≠ aE:=aV o5 zaE
    refine ⟨_,rfl,o,A.ag,dx,_,rfl,(aq naE).trans o5,T.ai,T.jq5,(by show 8 < 1000; decide),?_⟩
    have e6 : gw (Str.ofString "edits_kept") (V.ref aE) [(Str.ofString "seats",V.int n),(Str.ofString "sitting",V.int 1),(Str.ofString "closed",V.bl false),(Str.ofString "made",V.ref aM),(Str.ofString "pile",V.ref aP),(Str.ofString "aside",V.ref aA),(Str.ofString "decided",V.ref aD),(Str.ofString "first_texts",V.ref aF)] = [(Str.ofString "seats",V.int n),(Str.ofString "sitting",V.int 1),(Str.ofString "closed",V.bl false),(Str.ofString "made",V.ref aM),(Str.ofString "pile",V.ref aP),(Str.ofString "aside",V.ref aA),(Str.ofString "decided",V.ref aD),(Str.ofString "first_texts",V.ref aF),(Str.ofString "edits_kept",V.ref aE)]:=ip (by show _ ∉ [Str.ofString "seats",Str.ofString "sitting",Str.ofString "closed",Str.ofString "made",Str.ofString "pile",Str.ofString "aside",Str.ofString "decided",Str.ofString "first_texts"]; decide +kernel)
    rw [e6]
    obtain ⟨yaE,o6,_,waE⟩:=nxt (v:=.dK []) (fs':=[(Str.ofString "seats",V.int n),(Str.ofString "sitting",V.int 1),(Str.ofString "closed",V.bl false),(Str.ofString "made",V.ref aM),(Str.ofString "pile",V.ref aP),(Str.ofString "aside",V.ref aA),(Str.ofString "decided",V.ref aD),(Str.ofString "first_texts",V.ref aF),(Str.ofString "edits_kept",V.ref aE)]) o5 zaE
    obtain ⟨yaM,Xn⟩:=waE _ _ yaM (Ne.symm naM)
    obtain ⟨yaP,Xo⟩:=waE _ _ yaP (Ne.symm naP)
    obtain ⟨yaA,Xp⟩:=waE _ _ yaA (Ne.symm naA)
    obtain ⟨yaD,Xq⟩:=waE _ _ yaD (Ne.symm naD)
    obtain ⟨yaF,Xr⟩:=waE _ _ yaF (Ne.symm naF)
    have k6:=fun b u (hb : H b = some u) (hbo : b ≠ o)=>waE b u ((k5 b u hb hbo).1) hbo
    generalize upd (upd H5 aE (.dK [])) o (.ins A.ag dx [(Str.ofString "seats",V.int n),(Str.ofString "sitting",V.int 1),(Str.ofString "closed",V.bl false),(Str.ofString "made",V.ref aM),(Str.ofString "pile",V.ref aP),(Str.ofString "aside",V.ref aA),(Str.ofString "decided",V.ref aD),(Str.ofString "first_texts",V.ref aF),(Str.ofString "edits_kept",V.ref aE)]) = H6 at o6 k6 waE yaM yaP yaA yaD yaF yaE ⊢
    clear waE
    refine ⟨(by show 0 ≤ sizeLine; decide),fun aR zaR=>?_⟩
    have naR : o ≠ aR:=aV o6 zaR
    refine ⟨_,rfl,o,A.ag,dx,_,rfl,(aq naR).trans o6,T.ai,T.jqk,(by show 9 < 1000; decide),?_⟩
    have e7 : gw (Str.ofString "rows") (V.ref aR) [(Str.ofString "seats",V.int n),(Str.ofString "sitting",V.int 1),(Str.ofString "closed",V.bl false),(Str.ofString "made",V.ref aM),(Str.ofString "pile",V.ref aP),(Str.ofString "aside",V.ref aA),(Str.ofString "decided",V.ref aD),(Str.ofString "first_texts",V.ref aF),(Str.ofString "edits_kept",V.ref aE)] = [(Str.ofString "seats",V.int n),(Str.ofString "sitting",V.int 1),(Str.ofString "closed",V.bl false),(Str.ofString "made",V.ref aM),(Str.ofString "pile",V.ref aP),(Str.ofString "aside",V.ref aA),(Str.ofString "decided",V.ref aD),(Str.ofString "first_texts",V.ref aF),(Str.ofString "edits_kept",V.ref aE),(Str.ofString "rows",V.ref aR)]:=ip (by show _ ∉ [Str.ofString "seats",Str.ofString "sitting",Str.ofString "closed",Str.ofString "made",Str.ofString "pile",Str.ofString "aside",Str.ofString "decided",Str.ofString "first_texts",Str.ofString "edits_kept"]; decide +kernel)
    rw [e7]
    obtain ⟨yaR,o7,_,waR⟩:=nxt (v:=.lst []) (fs':=[(Str.ofString "seats",V.int n),(Str.ofString "sitting",V.int 1),(Str.ofString "closed",V.bl false),(Str.ofString "made",V.ref aM),(Str.ofString "pile",V.ref aP),(Str.ofString "aside",V.ref aA),(Str.ofString "decided",V.ref aD),(Str.ofString "first_texts",V.ref aF),(Str.ofString "edits_kept",V.ref aE),(Str.ofString "rows",V.ref aR)]) o6 zaR
    obtain ⟨yaM,Xs⟩:=waR _ _ yaM (Ne.symm naM)
    obtain ⟨yaP,Xt⟩:=waR _ _ yaP (Ne.symm naP)
    obtain ⟨yaA,Xu⟩:=waR _ _ yaA (Ne.symm naA)
    obtain ⟨yaD,Xv⟩:=waR _ _ yaD (Ne.symm naD)
    obtain ⟨yaF,Xw⟩:=waR _ _ yaF (Ne.symm naF)
    obtain ⟨yaE,Xx⟩:=waR _ _ yaE (Ne.symm naE)
    have k7:=fun b u (hb : H b = some u) (hbo : b ≠ o)=>waR b u ((k6 b u hb hbo).1) hbo
    generalize upd (upd H6 aR (.lst [])) o (.ins A.ag dx [(Str.ofString "seats",V.int n),(Str.ofString "sitting",V.int 1),(Str.ofString "closed",V.bl false),(Str.ofString "made",V.ref aM),(Str.ofString "pile",V.ref aP),(Str.ofString "aside",V.ref aA),(Str.ofString "decided",V.ref aD),(Str.ofString "first_texts",V.ref aF),(Str.ofString "edits_kept",V.ref aE),(Str.ofString "rows",V.ref aR)]) = H7 at o7 k7 waR yaM yaP yaA yaD yaF yaE yaR ⊢
    clear waR
    refine q H7 fun i c=>⟨aW (aW (aW (aW (aW (aW (aW (aW c o (some (i,Rl.ob))) aM (some (i,Rl.made))) aP (some (i,Rl.aC))) aA (some (i,Rl.aO))) aD (some (i,Rl.decided))) aF (some (i,Rl.firsts))) aE (some (i,Rl.kept))) aR (some (i,Rl.rows)),fun b u hb hbo=>⟨(k7 b u hb hbo).1,?_⟩,⟨dx,aM,aP,aA,aD,aF,aE,aR,[],[],[],[],[],?_⟩⟩
    · rw [av (k7 b u hb hbo).2,av (k6 b u hb hbo).2,av (k5 b u hb hbo).2,av (k4 b u hb hbo).2,av (k3 b u hb hbo).2,av (k2 b u hb hbo).2,av (k1 b u hb hbo).2,av hbo]
    · exact ⟨by rw [av naR,av naE,av naF,av naD,av naA,av naP,av naM,bD],o7,⟨by rw [av Xs,av Xn,av Xj,av Xg,av Xe,av Xd,bD],yaM⟩,.nil,⟨by rw [av Xt,av Xo,av Xk,av Xh,av Xf,bD],yaP⟩,⟨by rw [av Xu,av Xp,av Xl,av Xi,bD],yaA⟩,.nil,⟨by rw [av Xv,av Xq,av Xm,bD],yaD⟩,.nil,⟨by rw [av Xw,av Xr,bD],yaF⟩,.nil,⟨by rw [av Xx,bD],yaE⟩,.nil,⟨by rw [bD],yaR⟩⟩
end
end My
set_option maxHeartbeats 1000000
namespace My
open PySem L2
seal PySem.wpAny
def Xy (A : Adr) (i : Nat) : Sp:=fun vs H Q _=>∃ (o : Addr) (n : Nat) (c : Col) (st : Ch) (x : Nat × Int × List Nat),vs = [.ref o,nV n] ∧ eZ A i c H o st ∧ at1 n st.aO = some x ∧
  ∀ l u H',H l = none → H u = none → bQ H H' → H' l = some (.lst (x.2.2.map nV)) → H' u = some (.tup [nV n,.int x.2.1,.ref l]) → Q (.ref u) H'
def wG (ns : List Nat) : PyData:=.list (ns.map fun n : Nat=>.int (n : Int))
def asD (x : Nat × Int × List Nat) : PyData:=.tuple [.int (x.1 : Int),.int x.2.1,wG x.2.2]
def dcD (x : Nat × Str) : PyData:=.tuple [.int (x.1 : Int),.str x.2]
def DT (st : Ch) (n : Int) : Nat × Int × List Nat:=(at1 n.toNat st.aO).getD (0,0,[])
def stD (st : Ch) (ns : List Int) : PyData:=.tuple [.int st.a7,.bool st.closed,wG st.aC,.list (ns.map fun n=>asD (DT st n)),.list (st.decided.map dcD)]
def JB (A : Adr) (K : PySem.W.Frag) (i : Nat) : Sp:=fun vs H Q _=>∃ (o : Addr) (c : Col) (st : Ch),vs = [.ref o] ∧ eZ A i c H o st ∧ st.aO.length < 64 ∧ st.aC.length ≤ 1000 ∧ st.decided.length ≤ 1000 ∧
  ∀ (ns : List Int) (u : Addr) (H' : Hp),List.Perm ns (st.aO.map fun x=>(x.1 : Int)) → ns.Pairwise (· ≤ ·) → bQ H H' → DV K H' (stD st ns) (.ref u) → Q (.ref u) H'
def mnD : Mn → PyData
  | .mat tx=>.tuple [.str (nm 0),.list (tx.map PyData.str)]
  | .chg e=>.tuple [.str (nm 1),edD e]
  | .mnd e=>.tuple [.str (nm 2),edD e]
  | .off u=>.tuple [.str (nm 3),.int u]
  | .cls=>.tuple [.str (nm 4)]
  | .lay=>.tuple [.str (nm 5)]
  | .rst=>.tuple [.str (nm 6)]
  | .pnt z=>.tuple [.str (nm 7),.str z]
def DU (A : Adr) (K : PySem.W.Frag) (i : Nat) : Sp:=fun vs H Q E=>∃ (o : Addr) (n : Nat) (c : Col) (st : Ch),vs = [.ref o,nV n] ∧ eZ A i c H o st ∧ n < 10 ^ 10 ∧
  (gO st n → ∀ u H',bQ H H' → DV K H' (mnD (st.mo n)) (.ref u) → Q (.ref u) H') ∧ (¬ gO st n → E (.ref A.cK) none H)
theorem JC {α : Type} {K : PySem.W.Frag} {H : Hp} {f : α → PyData} {g : α → V} : ∀ {xs : List α},(∀ x ∈ xs,DV K H (f x) (g x)) → DVs K H (xs.map f) (xs.map g)
  | [],_=>by unfold DVs; rfl
  | x :: xs,h=>by
    rw [List.map_cons,List.map_cons]
    unfold DVs
    exact ⟨g x,xs.map g,rfl,h x List.mem_cons_self,JC fun y hy=>h y (List.mem_cons_of_mem _ hy)⟩
theorem JD {K : PySem.W.Frag} {H : Hp} {a : Addr} {ns : List Nat} (h : SqL K H a (ns.map nV)) : DV K H (wG ns) (.ref a):=by
  unfold wG DV
  exact ⟨a,_,rfl,h,JC (f:=fun n : Nat=>PyData.int (n : Int)) (g:=nV) fun n _=>by unfold DV; rfl⟩
theorem cF.dvs {α : Type} {K : PySem.W.Frag} {H : Hp} {f : α → PyData} {R : α → V → Prop} (g : ∀ x v,R x v → DV K H (f x) v) : ∀ {xs : List α} {vs : List V},cF R xs vs → DVs K H (xs.map f) vs
  | _,_,.nil=>by unfold DVs; rfl
  | _,_,.cons h t=>by
    rw [List.map_cons]
    unfold DVs
    exact ⟨_,_,rfl,g _ _ h,t.dvs g⟩
theorem cF.mapR {α β γ : Type} {R : α → γ → Prop} {f : β → γ} : ∀ {xs : List α} {ys : List β},cF (fun a b=>R a (f b)) xs ys → cF R xs (ys.map f)
  | _,_,.nil=>.nil
  | _,_,.cons h t=>.cons h t.mapR
def As (H : Hp) (R : Addr) (x : Nat × Int × List Nat) (v : V) : Prop:=∃ u l,v = .ref u ∧ u ≠ R ∧ l ≠ R ∧ H u = some (.tup [nV x.1,.int x.2.1,.ref l]) ∧ H l = some (.lst (x.2.2.map nV))
theorem As.same {H H' : Hp} {R : Addr} {x : Nat × Int × List Nat} {v : V} (s : bQ H H') : As H R x v → As H' R x v
  | ⟨u,l,e,h1,h2,h3,h4⟩=>⟨u,l,e,h1,h2,s _ _ h3,s _ _ h4⟩
theorem As.upd {H : Hp} {R : Addr} {o : HO} {x : Nat × Int × List Nat} {v : V} : As H R x v → As (L2.upd H R o) R x v
  | ⟨u,l,e,h1,h2,h3,h4⟩=>⟨u,l,e,h1,h2,(aq h1).trans h3,(aq h2).trans h4⟩
theorem As.dv {K : PySem.W.Frag} {H : Hp} {R : Addr} {x : Nat × Int × List Nat} {v : V} : As H R x v → DV K H (asD x) v
  | ⟨u,l,e,h1,h2,h3,h4⟩=>by
    unfold asD DV
    refine ⟨u,_,e,SqT.of h3,?_⟩
    unfold DVs
    refine ⟨_,_,rfl,by unfold DV; rfl,?_⟩
    unfold DVs
    refine ⟨_,_,rfl,by unfold DV; rfl,?_⟩
    unfold DVs
    exact ⟨_,_,rfl,JD (SqL.of h4),by unfold DVs; rfl⟩
section
variable {P : Program} {w : World} {K : PySem.W.Frag} {mg : Str → Option Value} {base : Heap} {A : Adr}
theorem Au (T : Txt w.params K mg A) {i : Nat} : aw P w K mg base CX0 1 A.bG A.dU ["self","number"] (Xy A i):=by
  refine T.dg.ok jd (fun vs H Q E h=>?_) (fun cdv A' outer s H vs Q E hr h=>?_)
  · obtain ⟨o,n,c,st,x,rfl,_⟩:=h
    rfl
  · obtain ⟨o,n,c,st,x,rfl,hc,hx,q⟩:=h
    obtain ⟨dx,aM,aP,aA,aD,aF,aE,aR,ms,ds,ws,fs,es,X⟩:=hc.ex
    have hu1:=hr.u1
    refine ⟨_,(ao (bA (i:=2) jd.nd rfl (Or.inl rfl) (mV hu1 (bg (pv 0) rfl) (pv 1) (fun _ _=>rfl)))
  (aj (aG (cQ (aa (pv 1) (aa (aS aY (pv 2) ak (fun _ _=>rfl)) (aa (fN d7 (by rfl) T.pA mS (aa (aS aY (pv 2) ak (fun _ _=>rfl)) ah)) ah))))))),?_⟩
    obtain ⟨t,p,hv,ht,hl⟩:=X.waitOf hx
    refine ⟨_,rfl,o,A.ag,dx,_,.ref aA,rfl,X.ob,T.ai,T.jq3,lD,_,rfl,aA,_,rfl,.inl ⟨_,Sum.inl (n : Int),.inl X.aO.2,rfl,hv.symm⟩,?_⟩
    refine ⟨_,rfl,_,rfl,t,_,_,_,rfl,rfl,ht.sq,rfl,_,rfl,t,_,_,_,rfl,rfl,ht.sq,rfl,p,_,rfl,.inl (SqL.of hl.2),fun l hl0=>⟨(by show 3 ≤ sizeLine; decide),fun u hu=>?_⟩⟩
    have nul : u ≠ l:=fun z=>by rw [z,ae] at hu; cases hu
    have hu0 : H u = none:=by rw [aq nul] at hu; exact hu
    exact q l u _ hl0 hu0 ((aH hl0).new hu) ((aq (Ne.symm nul)).trans ae) ae
theorem Nh (T : Txt w.params K mg A) {i : Nat} : aw P w K mg base CX0 2 A.cz A.hJ ["self"] (JB A K i):=by
  have rh : aw P w K mg base CX0 1 A.bG A.dU ["self","number"] (Xy A i):=Au T
  refine T.fH.ok vb (fun vs H Q E h=>?_) (fun cdv A' outer s H vs Q E hr h=>?_)
  · obtain ⟨o,c,st,rfl,_⟩:=h
    rfl
  · obtain ⟨o,c,st,rfl,hc,hal,hpl,hdl,q⟩:=h
    obtain ⟨dx,aM,aP,aA,aD,aF,aE,aR,ms,ds,ws,fs,es,X⟩:=hc.ex
    have qh : Room 1 _:=hr
    have lim : sizeLine = 16777216:=by decide
    refine ⟨_,(ao (Gy (i:=1) (scope:=kM) sT rfl rfl (Or.inl rfl) (rL (cG (BY hr.hd) (by rfl) T.Dx J9 (aa (bg (pv 0) rfl) ah))) (fun _ _ _ _ _=>(iu (pv 1) T.ai T.jV rh qh T.et .nil bh (aa (pv 0) ah))))
  (aj (aG (cQ (aa (bg (pv 0) rfl) (aa (bg (pv 0) rfl) (aa (fN d7 (by rfl) T.pA mS (aa (bg (pv 0) rfl) ah)) (aa (pv 1) (aa (fN d7 (by rfl) T.pA mS (aa (bg (pv 0) rfl) ah)) ah))))))))),?_⟩
    have wl:=X.wait.len
    have Xz : (bz ((st.aO.map (·.1)).zip ws)).map (·.1) = (st.aO.map fun x=>(x.1 : Int)).map Sum.inl:=by
      have : ∀ (as : List (Nat × Int × List Nat)) (ws : List V),as.length = ws.length → (bz ((as.map (·.1)).zip ws)).map (·.1) = (as.map fun x=>(x.1 : Int)).map Sum.inl:=by
        intro as
        induction as with
        | nil=>intro ws _; cases ws <;> rfl
        | cons a as ih =>
          intro ws h
          cases ws with
          | nil=>cases h
          | cons w ws =>
            rw [List.map_cons,dA,List.map_cons,ih ws (by simpa using h)]
            rfl
      exact this _ _ wl
    refine ⟨_,rfl,o,A.ag,dx,_,.ref aA,rfl,X.ob,T.ai,T.jq3,lD,aA,_,_,rfl,X.aO.2,Xz,by rw [List.length_map]; exact hal,fun l0 ns pm so hl0=>?_⟩
    have nl : ns.length = st.aO.length:=by rw [pm.length_eq,List.length_map]
    have s0:=aH (o:=.lst (ns.map V.int)) hl0
    have hB : SqL K (upd H l0 (.lst (ns.map V.int))) l0 (ns.map V.int):=SqL.of ae
    generalize upd H l0 (.lst (ns.map V.int)) = H1 at s0 hB ⊢
    refine ⟨l0,rfl,⟨_,hB⟩,fun R hR=>?_⟩
    refine rP (K:=K) (a:=l0) (xs:=ns.map V.int) (fun j ys H2=>bQ H1 H2 ∧ H2 R = some (.lst ys) ∧ cF (As H2 R) ((ns.take j).map (DT st)) ys) ⟨aH hR,ae,.nil⟩ (by rw [List.length_map]; omega) ?_ ?_ ?_
    · rintro j ys H2 hj ⟨s2,hR2,ha⟩
      refine ⟨s2.seq hB,hR2,?_⟩
      rw [← ha.len,List.length_map,List.length_take]
      rw [List.length_map] at hj
      omega
    · rintro j y ys H2 hy ⟨s2,hR2,ha⟩
      obtain ⟨n,hn1,rfl⟩ : ∃ n,ns[j]? = some n ∧ V.int n = y:=by
        rw [List.getElem?_map] at hy
        cases ht : ns[j]? with
        | none=>rw [ht] at hy; cases hy
        | some t=>rw [ht] at hy; exact ⟨t,rfl,Option.some.inj hy⟩
      have Sz : n ∈ st.aO.map fun x=>(x.1 : Int):=pm.mem_iff.mp (List.mem_of_getElem? hn1)
      obtain ⟨x0,hx0,e0⟩:=List.mem_map.mp Sz
      obtain ⟨x,hx⟩ : ∃ x,at1 x0.1 st.aO = some x:=by
        cases z : at1 x0.1 st.aO with
        | some x=>exact ⟨x,rfl⟩
        | none=>exact absurd (List.mem_map_of_mem hx0) (zG z)
      have e0' : ((x0.1 : Nat) : Int) = n:=e0
      subst e0'
      have X2:=X.same (s0.trans s2)
      have ea : DT st ((x0.1 : Nat) : Int) = x:=by unfold DT; rw [Int.toNat_natCast,hx]; rfl
      refine ⟨_,rfl,o,dx,_,rfl,X2.ob,cU (by decide +kernel),_,rfl,o,x0.1,c,st,x,rfl,X2.at,hx,fun l u H3 hl hu s3 h1 h2=>?_⟩
      have hR3:=s3 _ _ hR2
      refine gz.mk (List.getElem?_eq_some_iff.mp hy).1 hR3 ⟨(s2.trans s3).own hR,ae,?_⟩
      rw [List.take_succ,hn1,List.map_append]
      refine cF.snoc (ha.imp fun _ _ z=>(z.same s3).upd) ?_
      rw [ea]
      refine As.upd ⟨u,l,rfl,(fun z=>by rw [z,hR2] at hu; cases hu),(fun z=>by rw [z,hR2] at hl; cases hl),?_,h1⟩
      rw [(pM hx).1]; exact h2
    · rintro ys H2 ⟨s2,hR2,ha⟩
      rw [List.length_map,List.take_length] at ha
      have s02:=s0.trans s2
      have X2:=X.same s02
      refine ⟨_,rfl,o,A.ag,dx,_,.int st.a7,rfl,X2.ob,T.ai,T.jq1,iP,_,rfl,o,A.ag,dx,_,.bl st.closed,rfl,X2.ob,T.ai,T.jq4,tE,_,rfl,o,A.ag,dx,_,.ref aP,rfl,X2.ob,T.ai,T.jq0,fK,aP,_,rfl,.inl (SqL.of X2.aC.2),fun l1 hl1=>?_⟩
      have s3:=aH (o:=.lst (st.aC.map nV)) hl1
      have X3:=X2.same s3
      refine ⟨_,rfl,_,rfl,o,A.ag,dx,_,.ref aD,rfl,X3.ob,T.ai,T.jqj,wC,aD,_,rfl,.inl (SqL.of X3.dec.2),fun l2 hl2=>⟨(by show 5 ≤ sizeLine; decide),fun u hu=>?_⟩⟩
      have s4:=aH (o:=.lst (ds.map V.ref)) hl2
      have s5:=aH (o:=.tup [V.int st.a7,.bl st.closed,.ref l1,.ref R,.ref l2]) hu
      refine q ns u _ pm so (((s02.trans s3).trans s4).trans s5) ?_
      have X5:=X3.same (s4.trans s5)
      unfold stD DV
      refine ⟨u,_,rfl,SqT.of ae,?_⟩
      unfold DVs
      refine ⟨_,_,rfl,by unfold DV; rfl,?_⟩
      unfold DVs
      refine ⟨_,_,rfl,by unfold DV; rfl,?_⟩
      unfold DVs
      refine ⟨_,_,rfl,JD (SqL.of ((s4.trans s5) _ _ ae)),?_⟩
      unfold DVs
      refine ⟨_,_,rfl,?_,?_⟩
      · unfold DV
        refine ⟨R,ys,rfl,SqL.of (((s3.trans s4).trans s5) _ _ hR2),?_⟩
        rw [show (ns.map fun n=>asD (DT st n)) = (ns.map (DT st)).map asD by rw [List.map_map]; rfl]
        exact cF.dvs (fun x v h=>h.dv) (ha.imp fun _ _ z=>z.same ((s3.trans s4).trans s5))
      · unfold DVs
        refine ⟨_,_,rfl,?_,by unfold DVs; rfl⟩
        unfold DV
        refine ⟨l2,_,rfl,SqL.of (s5 _ _ ae),?_⟩
        refine cF.dvs (R:=fun (x : Nat × Str) v=>∃ t,v = .ref t ∧ TupAt c _ t [nV x.1,.str x.2]) ?_ (cF.mapR (X5.w5.imp fun x t h=>⟨t,rfl,h⟩))
        rintro x v ⟨t,rfl,h⟩
        unfold dcD DV
        refine ⟨t,_,rfl,h.sq,?_⟩
        unfold DVs
        refine ⟨_,_,rfl,by unfold DV; rfl,?_⟩
        unfold DVs
        exact ⟨_,_,rfl,by unfold DV; rfl,by unfold DVs; rfl⟩
theorem SI {c : Col} {H : Hp} {v : V} {t : Addr} : ∀ {m : Mn},1 ≤ m.k → m.Val c H v → SqT K H t (rowOf m.k v) → DV K H (mnD m) (.ref t)
  | .mat _,h,_,_=>absurd h (by simp [Mn.k])
  | .chg e,_,⟨te,ev,hte⟩,ht=>by
    subst ev
    unfold mnD DV
    refine ⟨t,_,rfl,ht,?_⟩
    unfold DVs
    refine ⟨_,_,rfl,by unfold DV; rfl,?_⟩
    unfold DVs
    exact ⟨_,_,rfl,Cp e hte.sq,by unfold DVs; rfl⟩
  | .mnd e,_,⟨te,ev,hte⟩,ht=>by
    subst ev
    unfold mnD DV
    refine ⟨t,_,rfl,ht,?_⟩
    unfold DVs
    refine ⟨_,_,rfl,by unfold DV; rfl,?_⟩
    unfold DVs
    exact ⟨_,_,rfl,Cp e hte.sq,by unfold DVs; rfl⟩
  | .off u,_,ev,ht=>by
    have ev' : v = .int u:=ev
    subst ev'
    unfold mnD DV
    refine ⟨t,_,rfl,ht,?_⟩
    unfold DVs
    refine ⟨_,_,rfl,by unfold DV; rfl,?_⟩
    unfold DVs
    exact ⟨_,_,rfl,by unfold DV; rfl,by unfold DVs; rfl⟩
  | .pnt z,_,ev,ht=>by
    have ev' : v = .str z:=ev
    subst ev'
    unfold mnD DV
    refine ⟨t,_,rfl,ht,?_⟩
    unfold DVs
    refine ⟨_,_,rfl,by unfold DV; rfl,?_⟩
    unfold DVs
    exact ⟨_,_,rfl,by unfold DV; rfl,by unfold DVs; rfl⟩
  | .cls,_,_,ht=>by
    unfold mnD DV
    refine ⟨t,_,rfl,ht,?_⟩
    unfold DVs
    exact ⟨_,_,rfl,by unfold DV; rfl,by unfold DVs; rfl⟩
  | .lay,_,_,ht=>by
    unfold mnD DV
    refine ⟨t,_,rfl,ht,?_⟩
    unfold DVs
    exact ⟨_,_,rfl,by unfold DV; rfl,by unfold DVs; rfl⟩
  | .rst,_,_,ht=>by
    unfold mnD DV
    refine ⟨t,_,rfl,ht,?_⟩
    unfold DVs
    exact ⟨_,_,rfl,by unfold DV; rfl,by unfold DVs; rfl⟩
theorem Kq (T : Txt w.params K mg A) {i : Nat} : aw P w K mg base (CXX P w) 3 A.cc A.gv ["self","number"] (DU A K i):=by
  have GY : ∀ k,k < 8 → aw P w K mg base CX0 2 (A.ft k) (A.ftd k) ["self"] (CB A K k):=DK T
  refine T.eS.okX uc (fun vs H Q E h=>?_) (fun cdv A' outer s H vs Q E hr h=>?_)
  · obtain ⟨o,n,c,st,rfl,_⟩:=h
    rfl
  · obtain ⟨o,n,c,st,rfl,hc,h10,q,qx⟩:=h
    obtain ⟨dx,aM,aP,aA,aD,aF,aE,aR,ms,ds,ws,fs,es,X⟩:=hc.ex
    have hu1:=hr.u1
    have hgd:=hr.gd
    have CD : Room 2 _:=hr
    have lim : sizeLine = 16777216:=by decide
    refine ⟨_,(aL (eM (Lm (A0 hu1 (pv 1) (bg (pv 0) rfl)))
  (bq (jh T.wz rfl rfl T.zj (aa (AW (lK (u9 (pv 1) u7))) ah)))
  (qB aJ))
  (bq (psx (aG (ll (n:=8) (Cf:=A.C) (mV hu1 (bg (pv 0) rfl) (pv 1) (fun _ _=>rfl)) T.cl T.GP GY CD T.GQ bh))))),?_⟩
    refine ⟨_,rfl,_,rfl,o,A.ag,dx,_,.ref aM,rfl,X.ob,T.ai,T.jq2,il,aM,_,rfl,.inl ⟨_,Sum.inl (n : Int),.inl X.made.2,rfl,rfl⟩,_,rfl,?_⟩
    by_cases hn : gO st n
    · obtain ⟨mo,hv,hmo⟩:=X.O7 hn
      have q:=q hn
      rw [hv]
      refine eD ?_
      obtain ⟨_,dm,v,hm,hvv⟩:=hmo
      refine ⟨_,rfl,o,A.ag,dx,_,.ref aM,rfl,X.ob,T.ai,T.jq2,il,_,rfl,aM,_,rfl,.inl ⟨_,Sum.inl (n : Int),.inl X.made.2,rfl,hv.symm⟩,(st.mo n).k,(st.mo n).k8,mo,dm,_,rfl,hm,Je _ v,?_⟩
      generalize st.mo n = m at hm hvv q
      by_cases h0 : m.k = 0
      · obtain ⟨tx,rfl⟩ : ∃ tx,m = .mat tx:=by cases m <;> first | exact ⟨_,rfl⟩ | exact absurd h0 (by simp [Mn.k])
        obtain ⟨p,rfl,hp⟩:=hvv
        refine .inl ⟨rfl,mo,dm,p,tx.map V.str,rfl,hm,SqL.of hp.2,fun p2 u hp2 hu npu=>?_⟩
        have nu : (upd H p2 (.lst (tx.map V.str))) u = none:=(aq (Ne.symm npu)).trans hu
        refine q u _ ((aH hp2).new nu) ?_
        unfold mnD DV
        refine ⟨u,_,rfl,SqT.of ae,?_⟩
        unfold DVs
        refine ⟨_,_,rfl,by unfold DV; rfl,?_⟩
        unfold DVs
        exact ⟨_,_,rfl,IT (SqL.of ((aq npu).trans ae)),by unfold DVs; rfl⟩
      · refine .inr ⟨by omega,mo,dm,v,rfl,hm,fun u hu=>?_⟩
        have su:=aH (o:=.tup (rowOf m.k v)) hu
        exact q u _ su (SI (by omega) (hvv.step (Step.same (W:=fun _=>False) id su)) (SqT.of ae))
    · have hnm : n ∉ List.range' 1 st.made.length:=fun z=>by
        rw [List.mem_range'_1] at z
        exact hn ⟨z.1,by omega⟩
      rw [pL hnm]
      have l1 : (Str.empty ++ Str.ofString "no motion has the number " : Str).length = 25:=by decide +kernel
      have e10 : (10 : Nat) ^ 10 = 10000000000:=by decide
      have l3 : (Str.ofString (toString (n : Int))).length ≤ 20:=vB (by omega) (by omega)
      refine jO ⟨by rw [l1]; omega,_,rfl,_,.int (lE (by omega) (by omega)),by omega,by rw [len_app,l1]; omega,by rw [len_app,l1]; omega,(by show 1 ≤ sizeLine; decide),qx hn⟩
end
end My
set_option maxHeartbeats 1000000
namespace My
open PySem L2
seal PySem.wpAny
def fg (st : Ch) : R.dz → Rs × Ch
  | .nums kd ns=>if kd = Str.ofString "vote" then p5 st (ns.getD 0 0) (ns.getD 1 0) else if kd = Str.ofString "drop" then p6 st else if kd = Str.ofString "take" then stepT st (ns.getD 0 0).toNat else q9 st (iE (.nums kd ns)) (R.tf (.nums kd ns))
  | d=>q9 st (iE d) (R.tf d)
inductive tH : R.dz → Prop
  | CN {a b : Int} : (0 ≤ a ∧ a < 10 ^ 10) → (0 ≤ b ∧ b < 10 ^ 10) → tH (.nums (Str.ofString "vote") [a,b])
  | drop : tH (.nums (Str.ofString "drop") [])
  | take {n : Nat} : n < 10 ^ 10 → tH (.nums (Str.ofString "take") [(n : Int)])
  | move {d : R.dz} : DR d → tH d
theorem mq {st : Ch} {a b : Int} : fg st (.nums (Str.ofString "vote") [a,b]) = p5 st a b:=by rw [fg,if_pos rfl]; rfl
theorem mr {st : Ch} : fg st (.nums (Str.ofString "drop") []) = p6 st:=by rw [fg,if_neg (by decide +kernel),if_pos rfl]
theorem mw {st : Ch} {n : Nat} : fg st (.nums (Str.ofString "take") [(n : Int)]) = stepT st n:=by
  rw [fg,if_neg (by decide +kernel),if_neg (by decide +kernel),if_pos rfl]
  rfl
theorem mx {st : Ch} {d : R.dz} (h : DR d) : fg st d = q9 st (iE d) (R.tf d):=by
  cases d with
  | nums kd ns =>
    rcases m9 h.1 with ⟨u,rfl,rfl⟩ | ⟨rfl,rfl⟩ | ⟨rfl,rfl⟩ | ⟨rfl,rfl⟩ <;> rw [fg,if_neg (by decide +kernel),if_neg (by decide +kernel),if_neg (by decide +kernel)]
  | _=>rfl
theorem Inv.fg {N : Nat} {st : Ch} (I : Inv N st) (hN : N ≤ 800) {d : R.dz} (h : tH d) : Inv (N + 3) (fg st d).2:=by
  cases h with
  | CN=>rw [mq]; exact I.p5 hN _ _
  | drop=>rw [mr]; exact I.p6
  | take=>rw [mw]; exact I.stepT _
  | move h=>rw [mx h]; exact I.q9 (Nd h) _
def XA : Xc → Prop
  | .jv b=>-10000000000 < b ∧ b < 10000000000
  | .fL b=>-10000000000 < b ∧ b < 10000000000
  | .mj b=>-10000000000 < b ∧ b < 10000000000
  | _=>True
def Ni : Rs → Prop
  | .txt z=>PyData.strOk z = true
  | .exc x=>XA x
  | _=>True
theorem Pc {N : Nat} {st : Ch} (I : Inv N st) (hN : N ≤ 800) {m : Mn} {x : Xc} (h : w9 st m = some x) : XA x:=by
  have hb:=CA st.closed (st.aC.map st.mo)
  have hs:=I.sit
  unfold w9 at h
  split at h
  · rename_i y hy
    cases h
    unfold zC at hy
    split at hy
    · cases hy; exact ⟨by omega,by omega⟩
    · split at hy
      · cases hy
      · split at hy <;> cases hy <;> trivial
  · unfold sC at h
    split at h
    · split at h
      · split at h
        · cases h
        · cases h; trivial
      · cases h
    · split at h
      · split at h
        · cases h
        · cases h; trivial
      · cases h
    · split at h
      · cases h; exact ⟨by omega,by omega⟩
      · cases h
    · cases h
theorem Nj {N : Nat} {st : Ch} (I : Inv N st) (hN : N ≤ 800) {d : R.dz} (h : tH d) : Ni (fg st d).1:=by
  cases h with
  | CN =>
    rw [mq]
    unfold p5
    split
    · trivial
    · split
      · trivial
      · show PyData.strOk (CI _) = true
        unfold CI
        split <;> decide +kernel
  | drop =>
    rw [mr]
    unfold p6
    split
    · trivial
    · show PyData.strOk q8 = true
      decide +kernel
  | take =>
    rw [mw]
    unfold stepT
    split
    · split
      · trivial
      · rename_i x hx
        split
        · exact (I.asd x (pM hx).2).2.2
        · trivial
    · have hb:=CA st.closed (st.aC.map st.mo)
      exact ⟨by omega,by omega⟩
  | move h =>
    rw [mx h]
    unfold q9
    split
    · rename_i x hx
      exact Pc I hN hx
    · trivial
def Pd (A : Adr) (i : Nat) : Sp:=fun vs H Q E=>∃ (o t : Addr) (c : Col) (st : Ch) (N : Nat) (d : R.dz),vs = [.ref o,.ref t] ∧ eZ A i c H o st ∧ Inv N st ∧ N ≤ 800 ∧ tH d ∧ mn i c H d t ∧ DQ A i c H o (fg st d) Q E
theorem Nk : ∀ k,k < 8 → decide (V.str (nm k) = V.str (Str.ofString "vote")) = false:=by decide +kernel
theorem Nl : ∀ k,k < 8 → decide (V.str (nm k) = V.str (Str.ofString "drop")) = false:=by decide +kernel
theorem Nm : ∀ k,k < 8 → decide (V.str (nm k) = V.str (Str.ofString "take")) = false:=by decide +kernel
section
variable {P : Program} {w : World} {K : PySem.W.Frag} {mg : Str → Option Value} {base : Heap} {A : Adr}
theorem Hb (T : Txt w.params K mg A) {i : Nat} : aw P w K mg base (CXX P w) 8 A.yo A.o9 ["chamber","deed"] (Pd A i):=by
  have my : aw P w K mg base (CXX P w) 6 A.cv A.fE ["self","ayes","noes"] (G3 A i):=Jx T
  have mz : aw P w K mg base (CXX P w) 6 A.cw A.fF ["self"] (G4 A i):=Jy T
  have mB : aw P w K mg base (CXX P w) 6 A.cx A.fG ["self","number"] (G5 A i):=Jz T
  have mC : aw P w K mg base (CXX P w) 7 A.cu A.fD ["self","told"] (Ha A i):=JA T
  refine T.vg.okX y4 (fun vs H Q E h=>?_) (fun cdv A' outer s H vs Q E hr h=>?_)
  · obtain ⟨o,t,c,st,N,d,rfl,_⟩:=h
    rfl
  · obtain ⟨o,t,c,st,N,d,rfl,hc,I,hN,hd,hdc,q⟩:=h
    obtain ⟨dx,aM,aP,aA,aD,aF,aE,aR,ms,ds,ws,fs,es,X⟩:=hc.ex
    have kG : Room 6 _:=hr.mono (by decide)
    have kH : Room 6 _:=hr.mono (by decide)
    have kJ : Room 6 _:=hr.mono (by decide)
    have kK : Room 7 _:=hr
    refine ⟨_,(aL (psx (bA (i:=2) y4.nd rfl (Or.inl rfl) (aS aY (pv 1) ak (fun _ _=>rfl))))
  (aL (eM (aI cf (pv 2) au (aT _))
  (bq (mT (lJ (px (pv 0)) T.ai T.lW my kG T.gH (pax (aa (aS aY (pv 1) ak (fun _ _=>rfl)) (aa (aS aY (pv 1) ak (fun _ _=>rfl)) ah))))))
  (qB aJ))
  (aL (eM (aI cf (pv 2) au (aT _))
  (bq (mT (rQ (px (pv 0)) T.ai T.lX mz kH T.gJ)))
  (qB aJ))
  (aL (eM (aI cf (pv 2) au (aT _))
  (bq (mT (lJ (px (pv 0)) T.ai T.lY mB kJ T.gL (pax (aa (aS aY (pv 1) ak (fun _ _=>rfl)) ah)))))
  (qB aJ))
  (bq (mT (lJ (px (pv 0)) T.ai T.lV mC kK T.gF (pax (aa (pv 1) ah))))))))),?_⟩
    cases hd with
    | @CN a b ha hb =>
      rw [mq] at q
      have ht : SqT K H t [.str (Str.ofString "vote"),.int a,.int b]:=SqT.of hdc.2
      refine ⟨_,rfl,t,_,_,_,rfl,rfl,ht,rfl,_,rfl,rfl,_,rfl,dj (by decide +kernel) ?_⟩
      exact ⟨_,rfl,o,dx,_,rfl,X.ob,cU (by decide +kernel),_,rfl,t,_,_,_,rfl,rfl,ht,rfl,_,rfl,t,_,_,_,rfl,rfl,ht,rfl,o,a,b,c,st,N,rfl,hc,I,hN,ha,hb,q⟩
    | drop =>
      rw [mr] at q
      have ht : SqT K H t [.str (Str.ofString "drop")]:=SqT.of hdc.2
      refine ⟨_,rfl,t,_,_,_,rfl,rfl,ht,rfl,_,rfl,rfl,_,rfl,aN (by decide +kernel) ⟨_,rfl,rfl,_,rfl,dj (by decide +kernel) ?_⟩⟩
      exact ⟨_,rfl,o,dx,_,rfl,X.ob,cU (by decide +kernel),o,c,st,N,rfl,hc,I,hN,q⟩
    | @take n hn =>
      rw [mw] at q
      have ht : SqT K H t [.str (Str.ofString "take"),nV n]:=SqT.of hdc.2
      refine ⟨_,rfl,t,_,_,_,rfl,rfl,ht,rfl,_,rfl,rfl,_,rfl,aN (by decide +kernel) ⟨_,rfl,rfl,_,rfl,aN (by decide +kernel) ⟨_,rfl,rfl,_,rfl,dj (by decide +kernel) ?_⟩⟩⟩
      exact ⟨_,rfl,o,dx,_,rfl,X.ob,cU (by decide +kernel),_,rfl,t,_,_,_,rfl,rfl,ht,rfl,o,n,c,st,N,rfl,hc,I,hN,hn,q⟩
    | move hm =>
      rw [mx hm] at q
      obtain ⟨v,ht,_,_⟩:=uH hm hdc
      have k8:=(iE d).k8
      refine ⟨_,rfl,t,_,_,_,rfl,rfl,SqT.of ht.2,pJ,_,rfl,rfl,_,rfl,aN (Nk _ k8) ⟨_,rfl,rfl,_,rfl,aN (Nl _ k8) ⟨_,rfl,rfl,_,rfl,aN (Nm _ k8) ?_⟩⟩⟩
      exact ⟨_,rfl,o,dx,_,rfl,X.ob,cU (by decide +kernel),_,rfl,o,t,c,st,N,d,rfl,hc,I,hN,hm,hdc,q⟩
theorem zN (T : Txt w.params K mg A) {i : Nat} : aw P w K mg base (CXX P w) 8 A.mX A.iV ["_law_chamber","_law_deed_here"] (Pd A i):=by
  have my : aw P w K mg base (CXX P w) 6 A.cv A.fE ["self","ayes","noes"] (G3 A i):=Jx T
  have mz : aw P w K mg base (CXX P w) 6 A.cw A.fF ["self"] (G4 A i):=Jy T
  have mB : aw P w K mg base (CXX P w) 6 A.cx A.fG ["self","number"] (G5 A i):=Jz T
  have mC : aw P w K mg base (CXX P w) 7 A.cu A.fD ["self","told"] (Ha A i):=JA T
  refine T.nq.okX y6 (fun vs H Q E h=>?_) (fun cdv A' outer s H vs Q E hr h=>?_)
  · obtain ⟨o,t,c,st,N,d,rfl,_⟩:=h
    rfl
  · obtain ⟨o,t,c,st,N,d,rfl,hc,I,hN,hd,hdc,q⟩:=h
    obtain ⟨dx,aM,aP,aA,aD,aF,aE,aR,ms,ds,ws,fs,es,X⟩:=hc.ex
    have kG : Room 6 _:=hr.mono (by decide)
    have kH : Room 6 _:=hr.mono (by decide)
    have kJ : Room 6 _:=hr.mono (by decide)
    have kK : Room 7 _:=hr
    refine ⟨_,(aL (eM (aI cf (aS aY (pv 1) ak (fun _ _=>rfl)) au (aT _))
  (bq (mT (lJ (px (pv 0)) T.ai T.lW my kG T.gH (pax (aa (aS aY (pv 1) ak (fun _ _=>rfl)) (aa (aS aY (pv 1) ak (fun _ _=>rfl)) ah))))))
  (qB aJ))
  (aL (eM (aI cf (aS aY (pv 1) ak (fun _ _=>rfl)) au (aT _))
  (bq (mT (rQ (px (pv 0)) T.ai T.lX mz kH T.gJ)))
  (qB aJ))
  (aL (eM (aI cf (aS aY (pv 1) ak (fun _ _=>rfl)) au (aT _))
  (bq (mT (lJ (px (pv 0)) T.ai T.lY mB kJ T.gL (pax (aa (aS aY (pv 1) ak (fun _ _=>rfl)) ah)))))
  (qB aJ))
  (bq (mT (lJ (px (pv 0)) T.ai T.lV mC kK T.gF (pax (aa (pv 1) ah)))))))),?_⟩
    cases hd with
    | @CN a b ha hb =>
      rw [mq] at q
      have ht : SqT K H t [.str (Str.ofString "vote"),.int a,.int b]:=SqT.of hdc.2
      refine ⟨_,rfl,t,_,_,_,rfl,rfl,ht,rfl,rfl,_,rfl,dj (by decide +kernel) ?_⟩
      exact ⟨_,rfl,o,dx,_,rfl,X.ob,cU (by decide +kernel),_,rfl,t,_,_,_,rfl,rfl,ht,rfl,_,rfl,t,_,_,_,rfl,rfl,ht,rfl,o,a,b,c,st,N,rfl,hc,I,hN,ha,hb,q⟩
    | drop =>
      rw [mr] at q
      have ht : SqT K H t [.str (Str.ofString "drop")]:=SqT.of hdc.2
      refine ⟨_,rfl,t,_,_,_,rfl,rfl,ht,rfl,rfl,_,rfl,aN (by decide +kernel) ⟨_,rfl,t,_,_,_,rfl,rfl,ht,rfl,rfl,_,rfl,dj (by decide +kernel) ?_⟩⟩
      exact ⟨_,rfl,o,dx,_,rfl,X.ob,cU (by decide +kernel),o,c,st,N,rfl,hc,I,hN,q⟩
    | @take n hn =>
      rw [mw] at q
      have ht : SqT K H t [.str (Str.ofString "take"),nV n]:=SqT.of hdc.2
      refine ⟨_,rfl,t,_,_,_,rfl,rfl,ht,rfl,rfl,_,rfl,aN (by decide +kernel) ⟨_,rfl,t,_,_,_,rfl,rfl,ht,rfl,rfl,_,rfl,aN (by decide +kernel) ⟨_,rfl,t,_,_,_,rfl,rfl,ht,rfl,rfl,_,rfl,dj (by decide +kernel) ?_⟩⟩⟩
      exact ⟨_,rfl,o,dx,_,rfl,X.ob,cU (by decide +kernel),_,rfl,t,_,_,_,rfl,rfl,ht,rfl,o,n,c,st,N,rfl,hc,I,hN,hn,q⟩
    | move hm =>
      rw [mx hm] at q
      obtain ⟨v,ht,_,_⟩:=uH hm hdc
      have k8:=(iE d).k8
      refine ⟨_,rfl,t,_,_,_,rfl,rfl,SqT.of ht.2,pJ,rfl,_,rfl,aN (Nk _ k8) ⟨_,rfl,t,_,_,_,rfl,rfl,SqT.of ht.2,pJ,rfl,_,rfl,aN (Nl _ k8) ⟨_,rfl,t,_,_,_,rfl,rfl,SqT.of ht.2,pJ,rfl,_,rfl,aN (Nm _ k8) ?_⟩⟩⟩
      exact ⟨_,rfl,o,dx,_,rfl,X.ob,cU (by decide +kernel),_,rfl,o,t,c,st,N,d,rfl,hc,I,hN,hm,hdc,q⟩
end
theorem eZ.free {A : Adr} {i : Nat} {W : Option (Nat × Rl) → Prop} {c c' : Col} {H H' : Hp} {o : Addr} {st : Ch} (h : ∀ r,¬ W (some (i,r))) (s : Step W c c' H H') (hc : eZ A i c H o st) : eZ A i c' H' o st:=by
  obtain ⟨dx,aM,aP,aA,aD,aF,aE,aR,ms,ds,ws,fs,es,X⟩:=hc.ex
  exact (X.free h s).at
def Pe : Rs → V
  | .num n=>nV n
  | .txt z=>.str z
  | .exc _=>.non
def fM (A : Adr) (c : Col) (H : Hp) : Rs → V → Prop
  | .exc x,v=>∃ ea C d,v = .ref ea ∧ c ea = none ∧ H ea = some (xo ea C d) ∧ x.At A H C d ∧ ∀ a,d = some a → c a = none
  | _,v=>v = .non
def vL (A : Adr) (c : Col) (H : Hp) (r : Rs) (p : Addr) (v : V) : Prop:=c p = none ∧ H p = some (.tup [Pe r,v]) ∧ fM A c H r v
theorem i9 {W : Option (Nat × Rl) → Prop} {c c' : Col} {H H' : Hp} (s : Step W c c' H H') {a : Addr} {v : HO} (h : c a = none) (hv : H a = some v) : c' a = none ∧ H' a = some v:=by
  have hn : ¬ W (c a):=by rw [h]; exact s.nn
  exact ⟨by rw [s.col a _ hv hn]; exact h,s.keep _ _ hv hn⟩
theorem Xc.At.step {A : Adr} {W : Option (Nat × Rl) → Prop} {c c' : Col} {H H' : Hp} (s : Step W c c' H H') {C : Value} {d : Option Addr} (hd : ∀ a,d = some a → c a = none) : ∀ {x : Xc},x.At A H C d → x.At A H' C d ∧ ∀ a,d = some a → c' a = none
  | .jv _,⟨e,a,ea,h⟩=>⟨⟨e,a,ea,(i9 s (hd a ea) h).2⟩,fun b eb=>by rw [ea] at eb; cases eb; exact (i9 s (hd a ea) h).1⟩
  | .fL _,⟨e,a,ea,h⟩=>⟨⟨e,a,ea,(i9 s (hd a ea) h).2⟩,fun b eb=>by rw [ea] at eb; cases eb; exact (i9 s (hd a ea) h).1⟩
  | .mj _,⟨e,a,ea,h⟩=>⟨⟨e,a,ea,(i9 s (hd a ea) h).2⟩,fun b eb=>by rw [ea] at eb; cases eb; exact (i9 s (hd a ea) h).1⟩
  | .mi,h=>⟨h,fun b eb=>by rw [h.2] at eb; cases eb⟩
  | .noChange,h=>⟨h,fun b eb=>by rw [h.2] at eb; cases eb⟩
  | .noFit,h=>⟨h,fun b eb=>by rw [h.2] at eb; cases eb⟩
  | .nothing,h=>⟨h,fun b eb=>by rw [h.2] at eb; cases eb⟩
  | .tooMany,h=>⟨h,fun b eb=>by rw [h.2] at eb; cases eb⟩
  | .pH,h=>⟨h,fun b eb=>by rw [h.2] at eb; cases eb⟩
  | .oF,h=>⟨h,fun b eb=>by rw [h.2] at eb; cases eb⟩
theorem fM.step {A : Adr} {W : Option (Nat × Rl) → Prop} {c c' : Col} {H H' : Hp} (s : Step W c c' H H') {v : V} : ∀ {r : Rs},fM A c H r v → fM A c' H' r v
  | .exc x,⟨ea,C,d,e,h1,h2,h3,h4⟩=>⟨ea,C,d,e,(i9 s h1 h2).1,(i9 s h1 h2).2,(h3.step s h4).1,(h3.step s h4).2⟩
  | .num _,h=>h
  | .txt _,h=>h
theorem vL.step {A : Adr} {W : Option (Nat × Rl) → Prop} {c c' : Col} {H H' : Hp} (s : Step W c c' H H') {r : Rs} {p : Addr} {v : V} (h : vL A c H r p v) : vL A c' H' r p v :=
  ⟨(i9 s h.1 h.2.1).1,(i9 s h.1 h.2.1).2,h.2.2.step s⟩
theorem fM.same {A : Adr} {c : Col} {H H' : Hp} (s : bQ H H') {r : Rs} {v : V} (h : fM A c H r v) : fM A c H' r v:=h.step (Step.same (W:=fun _=>False) id s)
def zO (A : Adr) (i : Nat) : Sp:=fun vs H Q _=>∃ (o t : Addr) (b : Bool) (c : Col) (st : Ch) (N : Nat) (d : R.dz),vs = [.ref o,.ref t,.bl b] ∧ eZ A i c H o st ∧ Inv N st ∧ N ≤ 800 ∧ tH d ∧ mn i c H d t ∧
  ∀ c' H' p v,Step (hU i) c c' H H' → eZ A i c' H' o (fg st d).2 → vL A c' H' (fg st d).1 p v → Q (.ref p) H'
section
variable {P : Program} {w : World} {K : PySem.W.Frag} {mg : Str → Option Value} {base : Heap} {A : Adr}
theorem Xc.mat (T : Txt w.params K mg A) {H : Hp} {C : Value} {d : Option Addr} : ∀ {x : Xc},x.At A H C d → PySem.W.exmOne K C (.ref A.bS) = some true
  | .jv _,⟨e,_⟩=>by rw [e]; exact T.jql
  | .fL _,⟨e,_⟩=>by rw [e]; exact T.jqf
  | .mj _,⟨e,_⟩=>by rw [e]; exact T.jqm
  | .mi,⟨e,_⟩=>by rw [e]; exact T.jqc
  | .noChange,⟨e,_⟩=>by rw [e]; exact T.jqd
  | .noFit,⟨e,_⟩=>by rw [e]; exact T.jqo
  | .nothing,⟨e,_⟩=>by rw [e]; exact T.jqg
  | .tooMany,⟨e,_⟩=>by rw [e]; exact T.jqh
  | .pH,⟨e,_⟩=>by rw [e]; exact T.jqi
  | .oF,⟨e,_⟩=>by rw [e]; exact T.jqe
theorem Hc (T : Txt w.params K mg A) {i : Nat} : aw P w K mg base (CXX P w) 9 A.y8 A.ou ["_law_chamber","_law_deed_here","_law_by_method_here"] (zO A i):=by
  have Kr : aw P w K mg base (CXX P w) 8 A.yo A.o9 ["chamber","deed"] (Pd A i):=Hb T
  have Av : aw P w K mg base (CXX P w) 8 A.mX A.iV ["_law_chamber","_law_deed_here"] (Pd A i):=zN T
  refine T.uk.okX jo (fun vs H Q E h=>?_) (fun cdv A' outer s H vs Q E hr h=>?_)
  · obtain ⟨o,t,b,c,st,N,d,rfl,_⟩:=h
    rfl
  · obtain ⟨o,t,b,c,st,N,d,rfl,hc,I,hN,hd,hdc,q⟩:=h
    have Hd:=hr
    have zP:=hr
    refine ⟨_,(aL (psx (bA (i:=3) jo.nd rfl (Or.inl rfl) By))
  (aL (psx (bA (i:=4) jo.nd rfl (Or.inl rfl) By))
  (aL (OD ⟨rfl,rfl⟩ (bq (eM (nk (pv 2))
  (bq (IZ (i:=4) jo.nd rfl (Or.inl rfl) (n8 Av zP rfl T.sH T.nq.kp T.sG (pax (aa (pv 0) (aa (pv 1) ah))))))
  (bq (IZ (i:=4) jo.nd rfl (Or.inl rfl) (n8 Kr Hd rfl T.A8 T.vg.kp T.A7 (pax (aa (pv 0) (aa (pv 1) ah))))))))
  (RQ (i:=5) jo.nd rfl rfl rfl T.gM (fun _=>(aj (bA (i:=3) jo.nd rfl (Or.inl rfl) (pv 5)))) (OC ⟨rfl,rfl⟩)))
  (bq (psx (aG (cQ (aa (pv 4) (aa (pv 3) ah))))))))),?_⟩
    have fin : ∀ (c1 : Col) (H1 : Hp) (p : Addr) (v : V),Step (hU i) c c1 H H1 → eZ A i c1 H1 o (fg st d).2 → fM A c1 H1 (fg st d).1 v → H1 p = none → Q (.ref p) (upd H1 p (.tup [Pe (fg st d).1,v])):=fun c1 H1 p v s1 hc1 hv hp =>
      q (aW c1 p none) _ p v (s1.trans (Step.new a6 hp)) (hc1.free (W:=fun _=>False) (fun _=>id) (Step.new id hp)) ⟨bD,ae,hv.step (W:=fun _=>False) (Step.new id hp)⟩
    clear q
    refine ⟨_,rfl,b,rfl,?_⟩
    cases b with
    | true =>
      refine jO ⟨_,rfl,_,rfl,o,t,c,st,N,d,rfl,hc,I,hN,hd,hdc,?_⟩
      generalize fg st d = rs at fin ⊢
      obtain ⟨r,st'⟩:=rs
      cases r with
      | num n=>exact fun c1 H1 s1 hc1=>⟨_,rfl,_,rfl,(by show 2 ≤ sizeLine; decide),fun p hp=>fin c1 H1 p .non s1 hc1 rfl hp⟩
      | txt z=>exact fun c1 H1 s1 hc1=>⟨_,rfl,_,rfl,(by show 2 ≤ sizeLine; decide),fun p hp=>fin c1 H1 p .non s1 hc1 rfl hp⟩
      | exc x =>
        refine fun c1 H1 C e s1 hc1 hat he=>⟨true,Xc.mat T hat,jO fun ea hea=>⟨_,rfl,_,rfl,_,rfl,(by show 2 ≤ sizeLine; decide),fun p hp=>?_⟩⟩
        have s2 : Step (fun _=>False) c1 (aW c1 ea none) H1 (upd H1 ea (xo ea C e)):=Step.new id hea
        have hx:=hat.step s2 he
        exact fin (aW c1 ea none) _ p (.ref ea) (s1.trans (Step.new a6 hea)) (hc1.free (W:=fun _=>False) (fun _=>id) s2) ⟨ea,C,e,rfl,bD,ae,hx.1,hx.2⟩ hp
    | false =>
      refine eD ⟨_,rfl,_,rfl,o,t,c,st,N,d,rfl,hc,I,hN,hd,hdc,?_⟩
      generalize fg st d = rs at fin ⊢
      obtain ⟨r,st'⟩:=rs
      cases r with
      | num n=>exact fun c1 H1 s1 hc1=>⟨_,rfl,_,rfl,(by show 2 ≤ sizeLine; decide),fun p hp=>fin c1 H1 p .non s1 hc1 rfl hp⟩
      | txt z=>exact fun c1 H1 s1 hc1=>⟨_,rfl,_,rfl,(by show 2 ≤ sizeLine; decide),fun p hp=>fin c1 H1 p .non s1 hc1 rfl hp⟩
      | exc x =>
        refine fun c1 H1 C e s1 hc1 hat he=>⟨true,Xc.mat T hat,jO fun ea hea=>⟨_,rfl,_,rfl,_,rfl,(by show 2 ≤ sizeLine; decide),fun p hp=>?_⟩⟩
        have s2 : Step (fun _=>False) c1 (aW c1 ea none) H1 (upd H1 ea (xo ea C e)):=Step.new id hea
        have hx:=hat.step s2 he
        exact fin (aW c1 ea none) _ p (.ref ea) (s1.trans (Step.new a6 hea)) (hc1.free (W:=fun _=>False) (fun _=>id) s2) ⟨ea,C,e,rfl,bD,ae,hx.1,hx.2⟩ hp
theorem Ks (T : Txt w.params K mg A) : aw P w K mg base CX0 9 A.y8 A.ou ["_law_chamber","_law_deed_here","_law_by_method_here"] (fun vs H Q E=>∃ i,zO A i vs H Q E) :=
  Nc fun i=>(Hc T).calm fun _ _ _ _ h=>h
end
end My
set_option maxHeartbeats 1000000
namespace My
open PySem L2
seal PySem.wpAny
def uI (H H' : Hp) : R.dz → Addr → Prop
  | .mat cs,t=>∃ L,H t = none ∧ H L = none ∧ H' t = some (.tup [.str (Str.ofString "matter"),.ref L]) ∧ H' L = some (.lst ((cs.map (Str.join R.bl1)).map V.str))
  | .ed m k j ws,t=>∃ e,H t = none ∧ H e = none ∧ H' t = some (.tup [.str (R.kEd m),.ref e]) ∧ H' e = some (.tup (R.edR k j (Str.join R.bl1 ws)))
  | .pt ws,t=>H t = none ∧ H' t = some (.tup [.str (Str.ofString "point"),.str (Str.join R.bl1 ws)])
  | .nums kd ns,t=>H t = none ∧ H' t = some (.tup (.str kd :: ns.map V.int))
theorem uI.c {i : Nat} {c : Col} {H H' : Hp} {t : Addr} : ∀ {d : R.dz},uI H H' d t → mn i (hX c H) H' d t
  | .mat _,⟨L,h1,h2,h3,h4⟩=>⟨L,⟨by rw [dY h1]; exact a6,h3⟩,by rw [dY h2]; exact a6,h4⟩
  | .ed _ _ _ _,⟨e,h1,h2,h3,h4⟩=>⟨e,⟨by rw [dY h1]; exact a6,h3⟩,dY h2,.inl h4⟩
  | .pt _,⟨h1,h2⟩=>⟨by rw [dY h1]; exact a6,h2⟩
  | .nums _ _,⟨h1,h2⟩=>⟨by rw [dY h1]; exact a6,h2⟩
theorem uI.pre {H0 H H' : Hp} (s : bQ H0 H) {t : Addr} : ∀ {d : R.dz},uI H H' d t → uI H0 H' d t
  | .mat _,⟨L,h1,h2,h3,h4⟩=>⟨L,same_none s h1,same_none s h2,h3,h4⟩
  | .ed _ _ _ _,⟨e,h1,h2,h3,h4⟩=>⟨e,same_none s h1,same_none s h2,h3,h4⟩
  | .pt _,⟨h1,h2⟩=>⟨same_none s h1,h2⟩
  | .nums _ _,⟨h1,h2⟩=>⟨same_none s h1,h2⟩
abbrev nc : List Str:=[Str.ofString "a",Str.ofString "b",Str.ofString "-",Str.ofString "//",Str.ofString "put",Str.ofString "0",Str.ofString "x/y",Str.ofString "Z"]
theorem pO : ∀ x ∈ nc,R.ny x:=by
  intro x hx
  simp only [List.mem_cons,List.not_mem_nil,or_false] at hx
  rcases hx with rfl | rfl | rfl | rfl | rfl | rfl | rfl | rfl <;> exact R.DC (by decide +kernel)
theorem SJ (xs : List V) (k : Nat) : iR xs none (some (k : Int)) = xs.take k:=by
  unfold iR
  rw [HT.tZ,HT.C0,List.drop_zero,Nat.sub_zero,← List.take_eq_take_min]
theorem JE {xs : List V} {lo hi : Option Int} {x : V} (h : x ∈ iR xs lo hi) : x ∈ xs:=by
  unfold iR at h
  exact List.mem_of_mem_drop (List.mem_of_mem_take h)
def DW (K : PySem.W.Frag) : Sp:=fun vs H Q _=>∃ (a : Addr) (ns : List Int) (k : Int),vs = [.ref a,.int k] ∧ SqL K H a (ns.map V.int) ∧ 0 ≤ k ∧ ∀ z : Int,Q (.int z) H
def vM : Sp:=fun vs H Q _=>∃ d : Int,vs = [.int d] ∧ ∀ (ws : List Str) (H' : Hp),R.qg 3 ws → bQ H H' → Q (.str (Str.join R.bl1 ws)) H'
def DX : Sp:=fun vs H Q _=>∃ (m : Bool) (d e : Int),vs = [.str (R.kEd m),.int d,.int e] ∧ ∀ (k : Nat) (j : Int) (ws : List Str) (t : Addr) (H' : Hp),DR (.ed m k j ws) → bQ H H' → uI H H' (.ed m k j ws) t → Q (.ref t) H'
def DY (K : PySem.W.Frag) : Sp:=fun vs H Q _=>∃ (L : Addr) (z0 z1 z2 n : Int),vs = [.ref L,.int n] ∧ SqL K H L [.int z0,.int z1,.int z2] ∧ (0 ≤ z0 ∧ 0 ≤ z1 ∧ 0 ≤ z2) ∧ 1 ≤ n ∧ n ≤ 1000000000 ∧
  ∀ (d : R.dz) (t : Addr) (H' : Hp),tH d → bQ H H' → uI H H' d t → Q (.ref t) H'
theorem qg.up {n m : Nat} {ws : List Str} (h : R.qg n ws) (l : n ≤ m) : R.qg m ws:=⟨Nat.le_trans h.len l,h.wd⟩
section
variable {P : Program} {w : World} {K : PySem.W.Frag} {mg : Str → Option Value} {base : Heap} {A : Adr}
theorem DZ (T : Txt w.params K mg A) : aw P w K mg base CX0 1 A.uh A.mW ["_law_cell","_law_many"] R.DE:=by
  refine T.sW.ok jR (fun vs H Q E h=>?_) (fun cdv A' outer s H vs Q E hr h=>?_)
  · obtain ⟨c,n,rfl,_⟩:=h
    rfl
  · obtain ⟨c,n,rfl,h0,h1,k⟩:=h
    refine ⟨_,(ao (bA (i:=2) jR.nd rfl (Or.inl rfl) (eB ah))
  (ao (bA (i:=3) jR.nd rfl (Or.inl rfl) (cg hZ (cg gk (pv 0) ak) ak))
  (ao (Ge PassesOwn.never rfl (AF rfl T.Cb (aa (cg hZ (pv 1) ak) ah)) (BA (i:=4) jR.nd rfl (Or.inl rfl))
  (ao (bA (i:=3) jR.nd rfl (Or.inl rfl) (cg gk (cg hZ (cg hZ (cg Gf (pv 3) (pv 3)) (cg Gf ak (pv 3))) (pv 4)) ak))
  (aj (cI (lH PySem.F.plainAttrs_list PySem.F.slot_list_append PySem.F.type_list_append gR (pv 2) (aa (pv 3) ah))))))
  (aj (aG (qw yh (pv 2) (rN ak) yg)))))),?_⟩
    have sz : sizeLine = 16777216:=by decide
    refine ⟨Nat.zero_le _,fun F hF=>?_⟩
    refine ⟨_,rfl,_,_,rfl,rfl,(by show (0 : Int) < 4294967311; decide),_,_,rfl,rfl,?_⟩
    refine ⟨_,rfl,_,_,rfl,rfl,_,rfl,by omega,by omega,?_⟩
    refine JS (lo:=0) (n:=(n + 1).toNat) (fun i σ H2=>∃ (zs : List Int) (m : Int) (kv : Option V),σ = [some (.int c),some (.int n),some (.ref F),some (.int m),kv] ∧ H2 F = some (.lst (zs.map V.int)) ∧ zs.length = i ∧ (∀ z ∈ zs,0 ≤ z ∧ z < 4294967311) ∧ 0 ≤ m ∧ m < 4295015582 ∧ bQ H H2)
      ⟨[],_,_,rfl,ae,rfl,(fun z hz=>nomatch hz),by omega,by omega,aH hF⟩ ?_ ?_
    · rintro i σ H2 hi ⟨zs,m,kv,rfl,h2,hl,hz,m0,m1,s2⟩
      refine ⟨_,rfl,_,rfl,_,_,rfl,rfl,.inl ⟨by omega,by omega⟩,_,rfl,_,_,rfl,rfl,.inl ⟨by decide,by decide⟩,_,_,rfl,rfl,_,rfl,_,_,rfl,rfl,_,_,rfl,rfl,(by show (0 : Int) < 4294967311; decide),?_⟩
      refine ⟨_,rfl,.inl ⟨rfl,_,SqL.of h2⟩,_,rfl,F,_,_,rfl,rfl,h2,(by rw [List.length_map]; omega),?_⟩
      have q0 : 0 ≤ (m * m + 69621 * m + (0 + (i : Int))) % 4294967311:=Int.emod_nonneg _ (by decide)
      have q1 : (m * m + 69621 * m + (0 + (i : Int))) % 4294967311 < 4294967311:=Int.emod_lt_of_pos _ (by decide)
      refine ⟨zs ++ [(m * m + 69621 * m + (0 + (i : Int))) % 4294967311],_,_,rfl,?_,?_,fun z h=>?_,q0,by omega,s2.own hF⟩
      · rw [ae,List.map_append]; rfl
      · rw [List.length_append,hl]; rfl
      · rcases List.mem_append.mp h with h | h
        · exact hz z h
        · rw [List.mem_singleton.mp h]; exact ⟨q0,q1⟩
    · rintro σ H2 ⟨zs,m,kv,rfl,h2,hl,hz,m0,m1,s2⟩
      refine ⟨_,rfl,_,rfl,F,_,rfl,SqL.of h2,fun p hp=>?_⟩
      have e : iR (zs.map V.int) (some 1) none = (zs.drop 1).map V.int:=by
        rw [show (1 : Int) = ((1 : Nat) : Int) from rfl,C6,List.map_drop]
      rw [e]
      refine k (zs.drop 1) p _ (by rw [List.length_drop]; omega) (fun z h=>hz z (List.mem_of_mem_drop h)) (s2.new hp) (s2.free hp) ae
theorem CO (T : Txt w.params K mg A) : aw P w K mg base CX0 1 A.rV A.kX ["_law_script","_law_k"] (DW K):=by
  refine T.qM.ok B6 (fun vs H Q E h=>?_) (fun cdv A' outer s H vs Q E hr h=>?_)
  · obtain ⟨a,ns,k,rfl,_⟩:=h
    rfl
  · obtain ⟨a,ns,k,rfl,hS,h0,q⟩:=h
    refine ⟨_,(ao (bU (aI yy (pv 1) (cG t6 (by rfl) T.Jb Gu (aa (pv 0) ah)) (aT _))
  (aj (aG (aS cq (pv 0) (pv 1) (fun _ _=>rfl))))
  aJ)
  (aj (aG ak))),?_⟩
    refine ⟨_,rfl,_,rfl,a,_,rfl,.inl hS,_,_,rfl,rfl,_,rfl,n5 (fun e=>?_) (fun _=>q 0)⟩
    have e' : k < ((ns.map V.int).length : Int):=of_decide_eq_true e
    rw [List.length_map] at e'
    obtain ⟨c,hc,hm⟩:=LL (xs:=ns.map V.int) (i:=k) (n:=ns.length) (List.length_map _) h0 e'
    obtain ⟨z,_,rfl⟩:=List.mem_map.mp hm
    exact ⟨_,rfl,_,rfl,a,_,_,_,rfl,rfl,hS,hc,q z⟩
theorem wH (T : Txt w.params K mg A) : aw P w K mg base CX0 1 A.qG A.jT ["_law_draw"] vM:=by
  refine T.lU.ok qF (fun vs H Q E h=>?_) (fun cdv A' outer s H vs Q E hr h=>?_)
  · obtain ⟨d,rfl,_⟩:=h
    rfl
  · obtain ⟨d,rfl,q⟩:=h
    refine ⟨_,(ao (bA (i:=1) qF.nd rfl (Or.inl rfl) (eB (aa au (aa au (aa au (aa au (aa au (aa au (aa au (aa au ah))))))))))
  (ao (bA (i:=2) qF.nd rfl (Or.inl rfl) (eB (aa (aS cq (pv 1) (cg gk (cg rM (pv 0) ak) ak) (fun _ _=>rfl)) (aa (aS cq (pv 1) (cg gk (cg rM (pv 0) ak) ak) (fun _ _=>rfl)) (aa (aS cq (pv 1) (cg gk (cg rM (pv 0) ak) ak) (fun _ _=>rfl)) ah)))))
  (aj (aG (lH PySem.F.plainAttrs_str PySem.F.slot_str_join PySem.F.type_str_join IU au (aa (qw yh (pv 2) yg (rN (cg gk (pv 0) ak))) ah)))))),?_⟩
    have sz : sizeLine = 16777216:=by decide
    refine ⟨(by show 8 ≤ sizeLine; decide),fun p hp=>?_⟩
    have hP : SqL K (upd H p (.lst (nc.map V.str))) p (nc.map V.str):=SqL.of ae
    have s1 : bQ H (upd H p (.lst (nc.map V.str))):=aH hp
    have pick : ∀ i : Int,∃ x,atI (nc.map V.str) (i % 8) = some (.str x) ∧ R.ny x:=fun i=>by
      obtain ⟨v,hv,hm⟩:=LL (xs:=nc.map V.str) (i:=i % 8) (n:=8) rfl (by omega) (by omega)
      obtain ⟨x,hx,rfl⟩:=List.mem_map.mp hm
      exact ⟨x,hv,pO x hx⟩
    obtain ⟨x1,e1,w1⟩:=pick (d / 4)
    obtain ⟨x2,e2,w2⟩:=pick (d / 32)
    obtain ⟨x3,e3,w3⟩:=pick (d / 256)
    refine ⟨_,rfl,_,rfl,_,_,rfl,rfl,⟨by decide,by decide⟩,_,_,rfl,rfl,(by show (0 : Int) < 8; decide),p,_,_,_,rfl,rfl,hP,e1,?_⟩
    refine ⟨_,rfl,_,rfl,_,_,rfl,rfl,⟨by decide,by decide⟩,_,_,rfl,rfl,(by show (0 : Int) < 8; decide),p,_,_,_,rfl,rfl,hP,e2,?_⟩
    refine ⟨_,rfl,_,rfl,_,_,rfl,rfl,⟨by decide,by decide⟩,_,_,rfl,rfl,(by show (0 : Int) < 8; decide),p,_,_,_,rfl,rfl,hP,e3,?_⟩
    refine ⟨(by show 3 ≤ sizeLine; decide),fun p2 hp2=>?_⟩
    obtain ⟨k,hk⟩ : ∃ k : Nat,d % 4 = (k : Int):=⟨(d % 4).toNat,by omega⟩
    have hk4 : k < 4:=by omega
    refine ⟨rfl,_,rfl,_,rfl,_,_,rfl,rfl,(by show (0 : Int) < 4; decide),_,rfl,p2,_,rfl,SqL.of ae,fun p3 hp3=>?_⟩
    rw [hk,SJ]
    have hw : ∀ w ∈ ([x1,x2,x3] : List Str).take k,R.ny w:=fun w hw=>by
      have:=List.mem_of_mem_take hw
      simp only [List.mem_cons,List.not_mem_nil,or_false] at this
      rcases this with rfl | rfl | rfl <;> assumption
    have hl : (([x1,x2,x3] : List Str).take k).length ≤ 3:=List.length_take_le' _ _
    have em : ([V.str x1,V.str x2,V.str x3] : List V).take k = (([x1,x2,x3] : List Str).take k).map V.str:=by rw [List.map_take]; rfl
    rw [em]
    generalize ([x1,x2,x3] : List Str).take k = zs at hw hl ⊢
    have h20:=R.DD hw
    have hb : (R.bl1 : Str).length = 1:=by decide +kernel
    refine ⟨_,p3,zs,rfl,rfl,SqL.of ae,?_,?_⟩
    · show (zs.map (·.length)).sum + zs.length * (Str.ofString " ").length ≤ _
      rw [show (Str.ofString " ").length = 1 from hb]
      omega
    · exact q zs _ ⟨hl,hw⟩ ((s1.new hp2).new hp3)
theorem Kt (T : Txt w.params K mg A) : aw P w K mg base CX0 2 A.B7 A.rW ["_law_kind","_law_draw","_law_more"] DX:=by
  have pP : aw P w K mg base CX0 1 A.qG A.jT ["_law_draw"] vM:=wH T
  refine T.zd.ok oj (fun vs H Q E h=>?_) (fun cdv A' outer s H vs Q E hr h=>?_)
  · obtain ⟨m,d,e,rfl,_⟩:=h
    rfl
  · obtain ⟨m,d,e,rfl,q⟩:=h
    have ng:=hr
    refine ⟨_,(ao (bA (i:=3) oj.nd rfl (Or.inl rfl) (aS cq (eB (aa au (aa au (aa au ah)))) (cg gk (pv 1) ak) (fun _ _=>rfl)))
  (ao (bA (i:=4) oj.nd rfl (Or.inl rfl) (cg gk (cg rM (pv 1) ak) ak))
  (ao (bU (aI cf (pv 3) au (aT _))
  (aj (aG (cQ (aa (pv 0) (aa (cQ (aa au (aa (pv 4) ah))) ah)))))
  aJ)
  (ao (bA (i:=5) oj.nd rfl (Or.inl rfl) (bK pP ng rfl T.pw T.lU.kp T.pq .nil bh (aa (pv 2) ah)))
  (ao (bU (aI cf (pv 0) au (aT _))
  (aj (bA (i:=5) oj.nd rfl (Or.inl rfl) (aS cq (eB (aa au (aa au (aa au (aa au (aa au (aa au (aa au (aa au ah))))))))) (cg gk (pv 2) ak) (fun _ _=>rfl))))
  aJ)
  (aj (aG (cQ (aa (pv 0) (aa (cQ (aa (pv 3) (aa (pv 4) (aa (pv 5) ah)))) ah)))))))))),?_⟩
    refine ⟨(by show 3 ≤ sizeLine; decide),fun p hp=>?_⟩
    have s1:=aH (o:=.lst [V.str (Str.ofString "put"),.str (Str.ofString "cut"),.str (Str.ofString "turn")]) hp
    obtain ⟨k,hk3,hk⟩ : ∃ k : Nat,(k = 0 ∨ k = 1 ∨ k = 2) ∧ atI [V.str (Str.ofString "put"),.str (Str.ofString "cut"),.str (Str.ofString "turn")] (d % 3) = some (.str (kn k)):=by
      have h3 : d % 3 = 0 ∨ d % 3 = 1 ∨ d % 3 = 2:=by omega
      rcases h3 with h | h | h
      · exact ⟨0,.inl rfl,by rw [h]; rfl⟩
      · exact ⟨1,.inr (.inl rfl),by rw [h]; rfl⟩
      · exact ⟨2,.inr (.inr rfl),by rw [h]; rfl⟩
    refine ⟨_,rfl,_,_,rfl,rfl,(by show (0 : Int) < 3; decide),p,_,_,_,rfl,rfl,SqL.of ae,hk,?_⟩
    refine ⟨_,rfl,_,_,rfl,rfl,⟨by decide,by decide⟩,_,_,rfl,rfl,(by show (0 : Int) < 4; decide),?_⟩
    have j0 : 0 ≤ d / 3 % 4:=by omega
    have j1 : d / 3 % 4 < 4:=by omega
    dsimp only [qu]
    generalize d / 3 % 4 = j at j0 j1 ⊢
    have wa : R.ny (Str.ofString "a"):=pO _ List.mem_cons_self
    refine ⟨_,rfl,rfl,_,rfl,?_⟩
    rw [Jq k]
    by_cases h1 : k = 1
    · subst h1
      refine dj (decide_eq_true rfl) ⟨_,rfl,_,rfl,(by show 2 ≤ sizeLine; decide),fun te hte=>⟨(by show 2 ≤ sizeLine; decide),fun t ht=>?_⟩⟩
      have nte : t ≠ te:=fun z=>by rw [z,ae] at ht; cases ht
      refine q 1 j [Str.ofString "a"] t _ ⟨.inr (.inl rfl),⟨by omega,by omega⟩,⟨by decide,fun w hw=>by rw [List.mem_singleton] at hw; rw [hw]; exact wa⟩,fun _=>rfl⟩ ((s1.new hte).new ht) ⟨te,same_none (s1.new hte) ht,same_none s1 hte,ae,(aq (Ne.symm nte)).trans ae⟩
    · refine aN (decide_eq_false h1) ⟨_,rfl,e,rfl,fun ws H2 hw s2=>?_⟩
      have s12:=s1.trans s2
      have fin : ∀ (zs : List Str) (H3 : Hp) (te : Addr) (t : Addr),R.qg 3 zs → (m = true → zs.length = 1) → bQ H H3 → H3 te = none → (upd H3 te (.tup [V.str (kn k),.int j,.str (Str.join R.bl1 zs)])) t = none →
          Q (.ref t) (upd (upd H3 te (.tup [V.str (kn k),.int j,.str (Str.join R.bl1 zs)])) t (.tup [V.str (R.kEd m),.ref te])):=fun zs H3 te t hz hm s3 hte ht=>by
        have nte : t ≠ te:=fun z=>by rw [z,ae] at ht; cases ht
        have er : R.edR k j (Str.join R.bl1 zs) = [V.str (kn k),.int j,.str (Str.join R.bl1 zs)]:=by
          rcases hk3 with rfl | rfl | rfl
          · rfl
          · exact absurd rfl h1
          · rfl
        exact q k j zs t _ ⟨hk3,⟨by omega,by omega⟩,qg.up hz (by decide),hm⟩ ((s3.new hte).new ht) ⟨te,same_none (s3.new hte) ht,same_none s3 hte,ae,by rw [er]; exact (aq (Ne.symm nte)).trans ae⟩
      dsimp only [qu]
      refine ⟨_,rfl,rfl,_,rfl,?_⟩
      cases m with
      | false =>
        refine aN (by decide +kernel) ⟨_,rfl,_,rfl,_,rfl,_,rfl,(by show 3 ≤ sizeLine; decide),fun te hte=>⟨(by show 2 ≤ sizeLine; decide),fun t ht=>?_⟩⟩
        exact fin ws H2 te t hw (fun z=>nomatch z) s12 hte ht
      | true =>
        refine dj (by decide +kernel) ⟨(by show 8 ≤ sizeLine; decide),fun p3 hp3=>?_⟩
        obtain ⟨v,hv,hm⟩:=LL (xs:=nc.map V.str) (i:=e % 8) (n:=8) rfl (by omega) (by omega)
        obtain ⟨x,hx,rfl⟩:=List.mem_map.mp hm
        refine ⟨_,rfl,_,_,rfl,rfl,(by show (0 : Int) < 8; decide),p3,nc.map V.str,_,_,rfl,rfl,SqL.of ae,hv,?_⟩
        refine ⟨_,rfl,_,rfl,_,rfl,_,rfl,(by show 3 ≤ sizeLine; decide),fun te hte=>⟨(by show 2 ≤ sizeLine; decide),fun t ht=>?_⟩⟩
        exact fin [x] _ te t ⟨by show 1 ≤ 3; decide,fun w hw=>by rw [List.mem_singleton] at hw; rw [hw]; exact pO x hx⟩ (fun _=>rfl) (s12.new hp3) hte ht
end
end My
set_option maxHeartbeats 1000000
namespace My
open PySem L2
seal PySem.wpAny
section
variable {P : Program} {w : World} {K : PySem.W.Frag} {mg : Str → Option Value} {base : Heap} {A : Adr}
theorem Ku (T : Txt w.params K mg A) : aw P w K mg base CX0 3 A.B8 A.rX ["_law_draws","_law_seats"] (DY K):=by
  have pP : aw P w K mg base CX0 1 A.qG A.jT ["_law_draw"] vM:=wH T
  have Nn : aw P w K mg base CX0 2 A.B7 A.rW ["_law_kind","_law_draw","_law_more"] DX:=Kt T
  refine T.ze.ok ve (fun vs H Q E h=>?_) (fun cdv A' outer s H vs Q E hr h=>?_)
  · obtain ⟨L,z0,z1,z2,n,rfl,_⟩:=h
    rfl
  · obtain ⟨L,z0,z1,z2,n,rfl,hL,⟨p0,p1,p2⟩,n0,n1,q⟩:=h
    have ng : Room 1 _:=hr.mono (by decide)
    have Kv : Room 2 _:=hr
    refine ⟨_,(ao (bA (i:=2) ve.nd rfl (Or.inl rfl) (cg gk (aS cq (pv 0) ak (fun _ _=>rfl)) ak))
  (ao (bU (aI yy (pv 2) ak (aT _))
  (aj (aG (cQ (aa au (aa (t8 (scope:=uf) Dn rfl (rL (qw yh (eB (aa ak (aa ak (aa ak ah)))) yg (rN (cg gk (aS cq (pv 0) ak (fun _ _=>rfl)) ak)))) (fun _ _ _ _ _=>(bK pP ng rfl T.pw T.lU.kp T.pq .nil bh (aa (cg rM (aS (L5 (K:=K) rfl) (pv 1) ak (fun _ _=>rfl)) (pv 0)) ah)))) ah)))))
  aJ)
  (ao (bU (aI yy (pv 2) ak (aT _))
  (aj (aG (bK Nn Kv rfl T.Dt T.zd.kp T.Ds .nil bh (aa (aS cq (eB (aa au (aa au ah))) (cg gk (pv 2) ak) (fun _ _=>rfl)) (aa (aS cq (pv 0) ak (fun _ _=>rfl)) (aa (aS cq (pv 0) ak (fun _ _=>rfl)) ah))))))
  aJ)
  (ao (bU (aI cf (pv 2) ak (aT _))
  (aj (aG (cQ (aa au (aa (cg hZ ak (cg gk (aS cq (pv 0) ak (fun _ _=>rfl)) ak)) ah)))))
  aJ)
  (ao (bU (aI yy (pv 2) ak (aT _))
  (aj (aG (cQ (aa (aS cq (eB (aa au (aa au (aa au ah)))) (cg Lr (pv 2) ak) (fun _ _=>rfl)) ah))))
  aJ)
  (ao (bU (aI cf (pv 2) ak (aT _))
  (aj (aG (cQ (aa au (aa (bK pP ng rfl T.pw T.lU.kp T.pq .nil bh (aa (aS cq (pv 0) ak (fun _ _=>rfl)) ah)) ah)))))
  aJ)
  (ao (bU (aI yy (pv 2) ak (aT _))
  (ao (bA (i:=3) ve.nd rfl (Or.inl rfl) (cg gk (aS cq (pv 0) ak (fun _ _=>rfl)) (cg hZ (pv 1) ak)))
  (aj (aG (cQ (aa au (aa (pv 3) (aa (cg gk (aS cq (pv 0) ak (fun _ _=>rfl)) (cg hZ (cg Lr (pv 1) (pv 3)) ak)) ah)))))))
  aJ)
  (ao (bU (aI cf (pv 2) ak (aT _))
  (aj (aG (cQ (aa au ah))))
  aJ)
  (aj (aG (cQ (aa au (aa (cg hZ ak (cg gk (aS cq (pv 0) ak (fun _ _=>rfl)) ak)) ah))))))))))))),?_⟩
    have sz : sizeLine = 16777216:=by decide
    have a0 : atI [V.int z0,V.int z1,V.int z2] 0 = some (.int z0):=rfl
    have a1 : atI [V.int z0,V.int z1,V.int z2] 1 = some (.int z1):=rfl
    have a2 : atI [V.int z0,V.int z1,V.int z2] 2 = some (.int z2):=rfl
    have e10 : (10 : Int) ^ 10 = 10000000000:=by decide
    refine ⟨_,rfl,L,_,_,_,rfl,rfl,hL,a0,_,_,rfl,rfl,(by show (0 : Int) < 16; decide),?_⟩
    have w0 : 0 ≤ z0 % 16:=by omega
    have w1 : z0 % 16 < 16:=by omega
    dsimp only [qu]
    generalize z0 % 16 = wy at w0 w1 ⊢
    refine ⟨_,rfl,_,_,rfl,rfl,_,rfl,n5 (fun h=>?_) (fun h=>?_)⟩
    ·
      refine ⟨(by show 3 ≤ sizeLine; decide),fun l0 hl0=>?_⟩
      have s0:=aH (o:=.lst [V.int 1,V.int 3,V.int 7]) hl0
      refine ⟨_,rfl,L,_,_,_,rfl,rfl,s0.seq hL,a2,_,_,rfl,rfl,(by show (0 : Int) < 4; decide),_,rfl,l0,_,rfl,SqL.of ae,fun l1 hl1=>?_⟩
      have s1:=s0.new (o:=.lst (iR [V.int 1,V.int 3,V.int 7] none (some (z2 % 4)))) hl1
      have hcl:=qy [V.int 1,V.int 3,V.int 7] none (some (z2 % 4))
      have hci : ∀ x ∈ iR [V.int 1,V.int 3,V.int 7] none (some (z2 % 4)),∃ k : Int,x = .int k ∧ 0 < k ∧ k ≤ 7:=fun x hx=>by
        have:=JE hx
        simp only [List.mem_cons,List.not_mem_nil,or_false] at this
        rcases this with rfl | rfl | rfl
        · exact ⟨1,rfl,by decide,by decide⟩
        · exact ⟨3,rfl,by decide,by decide⟩
        · exact ⟨7,rfl,by decide,by decide⟩
      have hB : SqL K (upd (upd H l0 (.lst [V.int 1,V.int 3,V.int 7])) l1 (.lst (iR [V.int 1,V.int 3,V.int 7] none (some (z2 % 4))))) l1 (iR [V.int 1,V.int 3,V.int 7] none (some (z2 % 4))):=SqL.of ae
      generalize upd (upd H l0 (.lst [V.int 1,V.int 3,V.int 7])) l1 (.lst (iR [V.int 1,V.int 3,V.int 7] none (some (z2 % 4)))) = H1 at s1 hB ⊢
      generalize iR [V.int 1,V.int 3,V.int 7] none (some (z2 % 4)) = cs at hcl hci hB ⊢
      have ad2 : cs.length ≤ 3:=hcl
      refine ⟨l1,rfl,⟨_,hB⟩,fun Rr hR=>?_⟩
      refine rP (K:=K) (a:=l1) (xs:=cs) (fun j ys H2=>bQ H1 H2 ∧ H2 Rr = some (.lst ys) ∧ ∃ wss : List (List Str),ys = (wss.map (Str.join R.bl1)).map V.str ∧ wss.length = j ∧ ∀ ws ∈ wss,R.qg 3 ws) ⟨aH hR,ae,[],rfl,rfl,fun _ h=>nomatch h⟩ (by omega) ?_ ?_ ?_
      · rintro j ys H2 hj ⟨s2,hR2,wss,rfl,hwl,hws⟩
        refine ⟨s2.seq hB,hR2,?_⟩
        rw [List.length_map,List.length_map]; omega
      · rintro j y ys H2 hy ⟨s2,hR2,wss,rfl,hwl,hws⟩
        obtain ⟨k,rfl,k0,k7⟩:=hci y (List.mem_of_getElem? hy)
        refine ⟨_,rfl,L,_,_,_,rfl,rfl,(s1.trans s2).seq hL,a1,_,rfl,_,_,rfl,rfl,⟨k0,by omega⟩,_,rfl,fun ws H3 hw s3=>?_⟩
        refine gz.mk (List.getElem?_eq_some_iff.mp hy).1 (s3 _ _ hR2) ⟨(s2.trans s3).own hR,ae,wss ++ [ws],?_,?_,?_⟩
        · rw [List.map_append,List.map_append]; rfl
        · rw [List.length_append,hwl]; rfl
        · intro u hu
          rcases List.mem_append.mp hu with hu | hu
          · exact hws u hu
          · rw [List.mem_singleton] at hu; rw [hu]; exact hw
      · rintro ys H2 ⟨s2,hR2,wss,rfl,hwl,hws⟩
        refine ⟨(by show 2 ≤ sizeLine; decide),fun t ht=>?_⟩
        have hR0 : H Rr = none:=same_none s1 hR
        have nt : t ≠ Rr:=fun z=>by rw [z,hR2] at ht; cases ht
        have ht0 : H t = none:=same_none (s1.trans s2) ht
        exact q (.mat wss) t _ (.move ⟨by omega,fun ws hw=>qg.up (hws ws hw) (by decide)⟩) ((s1.trans s2).new ht) ⟨Rr,ht0,hR0,ae,(aq (Ne.symm nt)).trans hR2⟩
    · refine ⟨_,rfl,_,_,rfl,rfl,_,rfl,n5 (fun h=>?_) (fun g2=>?_)⟩
      ·
        refine ⟨(by show 2 ≤ sizeLine; decide),fun l0 hl0=>?_⟩
        have s0:=aH (o:=.lst [V.str (Str.ofString "change"),.str (Str.ofString "mend")]) hl0
        obtain ⟨m,hm⟩ : ∃ m : Bool,atI [V.str (Str.ofString "change"),.str (Str.ofString "mend")] (wy % 2) = some (.str (R.kEd m)):=by
          have h2 : wy % 2 = 0 ∨ wy % 2 = 1:=by omega
          rcases h2 with h | h
          · exact ⟨false,by rw [h]; rfl⟩
          · exact ⟨true,by rw [h]; rfl⟩
        refine ⟨_,rfl,_,_,rfl,rfl,(by show (0 : Int) < 2; decide),l0,_,_,_,rfl,rfl,SqL.of ae,hm,_,rfl,L,_,_,_,rfl,rfl,s0.seq hL,a1,_,rfl,L,_,_,_,rfl,rfl,s0.seq hL,a2,m,z1,z2,rfl,fun k j ws t H2 hmv s2 hdn=>?_⟩
        exact q _ t H2 (.move hmv) (s0.trans s2) (hdn.pre s0)
      · refine ⟨_,rfl,rfl,_,rfl,n5 (fun h=>?_) (fun g3=>?_)⟩
        · refine ⟨_,rfl,L,_,_,_,rfl,rfl,hL,a1,_,_,rfl,rfl,(by show (0 : Int) < 5; decide),_,_,rfl,rfl,(by show 2 ≤ sizeLine; decide),fun t ht=>?_⟩
          exact q (.nums (Str.ofString "put off") [1 + z1 % 5]) t _ (.move ⟨by show (Str.ofString "put off",1) ∈ uG; decide +kernel,fun i hi=>by rw [List.mem_singleton] at hi; rw [hi]; omega⟩) (aH ht) ⟨ht,ae⟩
        · refine ⟨_,rfl,_,_,rfl,rfl,_,rfl,n5 (fun h2=>?_) (fun h2=>?_)⟩
          · refine ⟨(by show 3 ≤ sizeLine; decide),fun l0 hl0=>?_⟩
            have s0:=aH (o:=.lst [V.str (Str.ofString "close"),.str (Str.ofString "lay"),.str (Str.ofString "rest")]) hl0
            obtain ⟨kd,hkd,hk⟩ : ∃ kd : Str,(kd,0) ∈ uG ∧ atI [V.str (Str.ofString "close"),.str (Str.ofString "lay"),.str (Str.ofString "rest")] (wy - 7) = some (.str kd):=by
              have e1 : ¬ wy < 6:=fun z=>g2 (decide_eq_true z)
              have e2 : ¬ wy = 6:=fun z=>g3 (decide_eq_true (by rw [z]))
              have e3 : wy < 10:=of_decide_eq_true h2
              have h3 : wy - 7 = 0 ∨ wy - 7 = 1 ∨ wy - 7 = 2:=by omega
              rcases h3 with e | e | e
              · exact ⟨Str.ofString "close",by decide +kernel,by rw [e]; rfl⟩
              · exact ⟨Str.ofString "lay",by decide +kernel,by rw [e]; rfl⟩
              · exact ⟨Str.ofString "rest",by decide +kernel,by rw [e]; rfl⟩
            refine ⟨_,rfl,_,_,rfl,rfl,l0,_,_,_,rfl,rfl,SqL.of ae,hk,(by show 1 ≤ sizeLine; decide),fun t ht=>?_⟩
            exact q (.nums kd []) t _ (.move ⟨hkd,fun _ h=>nomatch h⟩) (s0.new ht) ⟨same_none s0 ht,ae⟩
          · refine ⟨_,rfl,rfl,_,rfl,n5 (fun h=>?_) (fun h=>?_)⟩
            · refine ⟨_,rfl,L,_,_,_,rfl,rfl,hL,a1,z1,rfl,fun ws H2 hw s2=>⟨(by show 2 ≤ sizeLine; decide),fun t ht=>?_⟩⟩
              exact q (.pt ws) t _ (.move (qg.up hw (by decide))) (s2.new ht) ⟨same_none s2 ht,ae⟩
            · refine ⟨_,rfl,_,_,rfl,rfl,_,rfl,n5 (fun h=>?_) (fun h=>?_)⟩
              · refine ⟨_,rfl,L,_,_,_,rfl,rfl,hL,a1,_,rfl,_,_,rfl,rfl,_,_,rfl,rfl,(by show (0 : Int) < n + 1; omega),?_⟩
                have y0 : 0 ≤ z1 % (n + 1):=Int.emod_nonneg _ (by omega)
                have y1 : z1 % (n + 1) < n + 1:=Int.emod_lt_of_pos _ (by omega)
                dsimp only [qu]
                generalize z1 % (n + 1) = ay at y0 y1 ⊢
                refine ⟨_,rfl,_,rfl,L,_,_,_,rfl,rfl,hL,a2,_,rfl,_,rfl,_,_,rfl,rfl,_,_,rfl,rfl,_,_,rfl,rfl,(by show (0 : Int) < n - ay + 2; omega),(by show 3 ≤ sizeLine; decide),fun t ht=>?_⟩
                have x0 : 0 ≤ z2 % (n - ay + 2):=Int.emod_nonneg _ (by omega)
                have x1 : z2 % (n - ay + 2) < n - ay + 2:=Int.emod_lt_of_pos _ (by omega)
                exact q (.nums (Str.ofString "vote") [ay,z2 % (n - ay + 2)]) t _ (.CN ⟨y0,by omega⟩ ⟨x0,by omega⟩) (aH ht) ⟨ht,ae⟩
              · refine ⟨_,rfl,rfl,_,rfl,n5 (fun h=>?_) (fun h=>?_)⟩
                · exact ⟨(by show 1 ≤ sizeLine; decide),fun t ht=>q (.nums (Str.ofString "drop") []) t _ .drop (aH ht) ⟨ht,ae⟩⟩
                · refine ⟨_,rfl,L,_,_,_,rfl,rfl,hL,a1,_,_,rfl,rfl,(by show (0 : Int) < 9; decide),_,_,rfl,rfl,(by show 2 ≤ sizeLine; decide),fun t ht=>?_⟩
                  obtain ⟨k,hk⟩ : ∃ k : Nat,1 + z1 % 9 = (k : Int):=⟨(1 + z1 % 9).toNat,by omega⟩
                  have ad3 : (10 : Nat) ^ 10 = 10000000000:=by decide
                  have:=q (.nums (Str.ofString "take") [(k : Int)]) t _ (.take (by omega)) (aH ht) ⟨ht,ae⟩
                  rw [← hk] at this
                  exact this
end
def gP : Rs → List Bool
  | .exc (.jv _)=>[true,false,false,false,false,false,false,false,false]
  | .exc .mi=>[false,true,false,false,false,false,false,false,false]
  | .exc .noChange=>[false,false,true,false,false,false,false,false,false]
  | .exc .noFit=>[false,false,false,true,false,false,false,false,false]
  | .exc (.fL _)=>[false,false,false,false,true,false,false,false,false]
  | .exc .nothing=>[false,false,false,false,false,true,false,false,false]
  | .exc .tooMany=>[false,false,false,false,false,false,true,false,false]
  | .exc .pH=>[false,false,false,false,false,false,false,true,false]
  | .exc (.mj _)=>[false,false,false,false,false,false,false,false,true]
  | .exc .oF=>[false,false,false,false,false,false,false,false,false]
  | _=>[false,false,false,false,false,false,false,false,false]
def D0 : Rs → PyData
  | .exc (.jv b)=>.int b
  | .exc (.fL n)=>.int n
  | .exc (.mj n)=>.int n
  | _=>.none
def SK : Rs → V
  | .exc (.jv b)=>.int b
  | .exc (.fL n)=>.int n
  | .exc (.mj n)=>.int n
  | _=>.non
theorem dW {K : PySem.W.Frag} {H : Hp} {D : Addr} {b : Bool} (h : PySem.W.kitOne K (.type "NoneType") (.ref D) = some b) : IsB K H .non D b:=.inl ⟨_,.non,h⟩
theorem bL {K : PySem.W.Frag} {H : Hp} {ea C D : Addr} {b : Bool} (hx : H ea = some (xo ea (.ref C) none)) (ty : jb K C) (h : PySem.W.kitOne K (.ref C) (.ref D) = some b) : IsB K H (.ref ea) D b:=.inr (.inl ⟨ea,C,rfl,hx,ty,h⟩)
theorem eX {K : PySem.W.Frag} {H : Hp} {ea C D d : Addr} {fs : List (Str × V)} {b : Bool} (hx : H ea = some (xo ea (.ref C) (some d))) (hd : H d = some (.xd fs)) (ty : jb K C) (h : PySem.W.kitOne K (.ref C) (.ref D) = some b) : IsB K H (.ref ea) D b:=.inr (.inr ⟨ea,C,d,fs,rfl,hx,hd,ty,h⟩)
section
variable {P : Program} {w : World} {K : PySem.W.Frag} {mg : Str → Option Value} {base : Heap} {A : Adr}
theorem Pf (T : Txt w.params K mg A) {c : Col} {H : Hp} {v : V} : ∀ {r : Rs},fM A c H r v → IsB K H v A.bE (gP r)[0]! ∧ IsB K H v A.br (gP r)[1]! ∧ IsB K H v A.bt (gP r)[2]! ∧ IsB K H v A.cj (gP r)[3]! ∧ IsB K H v A.a8 (gP r)[4]! ∧ IsB K H v A.bF (gP r)[5]! ∧ IsB K H v A.bI (gP r)[6]! ∧ IsB K H v A.bJ (gP r)[7]! ∧ IsB K H v A.bH (gP r)[8]!
  | .num _,h=>by
    have h' : v = .non:=h
    subst h'
    exact ⟨dW T.jq2T,dW T.jq2p,dW T.jq2q,dW T.jq3m,dW T.jq2r,dW T.jq2G,dW T.jq2H,dW T.jq2I,dW T.jq2U⟩
  | .txt _,h=>by
    have h' : v = .non:=h
    subst h'
    exact ⟨dW T.jq2T,dW T.jq2p,dW T.jq2q,dW T.jq3m,dW T.jq2r,dW T.jq2G,dW T.jq2H,dW T.jq2I,dW T.jq2U⟩
  | .exc (.jv _),⟨ea,C,d,ev,_,hx,⟨eC,a,ed,ha⟩,_⟩=>by
    subst ev; subst eC; subst ed
    exact ⟨eX hx ha T.gi T.jq1R,eX hx ha T.gi T.jq1d,eX hx ha T.gi T.jq1e,eX hx ha T.gi T.jq22,eX hx ha T.gi T.jq1f,eX hx ha T.gi T.jq1D,eX hx ha T.gi T.jq1E,eX hx ha T.gi T.jq1F,eX hx ha T.gi T.jq1S⟩
  | .exc .mi,⟨ea,C,d,ev,_,hx,⟨eC,ed⟩,_⟩=>by
    subst ev; subst eC; subst ed
    exact ⟨bL hx T.dG T.jqY,bL hx T.dG T.jqp,bL hx T.dG T.jqq,bL hx T.dG T.jq1u,bL hx T.dG T.jqr,bL hx T.dG T.jqC,bL hx T.dG T.jqD,bL hx T.dG T.jqE,bL hx T.dG T.jqZ⟩
  | .exc .noChange,⟨ea,C,d,ev,_,hx,⟨eC,ed⟩,_⟩=>by
    subst ev; subst eC; subst ed
    exact ⟨bL hx T.dH T.jq10,bL hx T.dH T.jqs,bL hx T.dH T.jqt,bL hx T.dH T.jq1v,bL hx T.dH T.jqu,bL hx T.dH T.jqF,bL hx T.dH T.jqG,bL hx T.dH T.jqH,bL hx T.dH T.jq11⟩
  | .exc .noFit,⟨ea,C,d,ev,_,hx,⟨eC,ed⟩,_⟩=>by
    subst ev; subst eC; subst ed
    exact ⟨bL hx T.ij T.jq20,bL hx T.ij T.jq1r,bL hx T.ij T.jq1s,bL hx T.ij T.jq2c,bL hx T.ij T.jq1t,bL hx T.ij T.jq1L,bL hx T.ij T.jq1M,bL hx T.ij T.jq1N,bL hx T.ij T.jq21⟩
  | .exc (.fL _),⟨ea,C,d,ev,_,hx,⟨eC,a,ed,ha⟩,_⟩=>by
    subst ev; subst eC; subst ed
    exact ⟨eX hx ha T.dJ T.jq1g,eX hx ha T.dJ T.jqy,eX hx ha T.dJ T.jqz,eX hx ha T.dJ T.jq1G,eX hx ha T.dJ T.jqA,eX hx ha T.dJ T.jqU,eX hx ha T.dJ T.jqV,eX hx ha T.dJ T.jqW,eX hx ha T.dJ T.jq1h⟩
  | .exc .nothing,⟨ea,C,d,ev,_,hx,⟨eC,ed⟩,_⟩=>by
    subst ev; subst eC; subst ed
    exact ⟨bL hx T.eE T.jq1w,bL hx T.eE T.jqI,bL hx T.eE T.jqJ,bL hx T.eE T.jq1O,bL hx T.eE T.jqK,bL hx T.eE T.jq12,bL hx T.eE T.jq13,bL hx T.eE T.jq14,bL hx T.eE T.jq1x⟩
  | .exc .tooMany,⟨ea,C,d,ev,_,hx,⟨eC,ed⟩,_⟩=>by
    subst ev; subst eC; subst ed
    exact ⟨bL hx T.eF T.jq1y,bL hx T.eF T.jqL,bL hx T.eF T.jqM,bL hx T.eF T.jq1P,bL hx T.eF T.jqN,bL hx T.eF T.jq15,bL hx T.eF T.jq16,bL hx T.eF T.jq17,bL hx T.eF T.jq1z⟩
  | .exc .pH,⟨ea,C,d,ev,_,hx,⟨eC,ed⟩,_⟩=>by
    subst ev; subst eC; subst ed
    exact ⟨bL hx T.eG T.jq1A,bL hx T.eG T.jqO,bL hx T.eG T.jqP,bL hx T.eG T.jq1Q,bL hx T.eG T.jqQ,bL hx T.eG T.jq18,bL hx T.eG T.jq19,bL hx T.eG T.jq1a,bL hx T.eG T.jq1B⟩
  | .exc (.mj _),⟨ea,C,d,ev,_,hx,⟨eC,a,ed,ha⟩,_⟩=>by
    subst ev; subst eC; subst ed
    exact ⟨eX hx ha T.gj T.jq1T,eX hx ha T.gj T.jq1i,eX hx ha T.gj T.jq1j,eX hx ha T.gj T.jq23,eX hx ha T.gj T.jq1k,eX hx ha T.gj T.jq1H,eX hx ha T.gj T.jq1I,eX hx ha T.gj T.jq1J,eX hx ha T.gj T.jq1U⟩
  | .exc .oF,⟨ea,C,d,ev,_,hx,⟨eC,ed⟩,_⟩=>by
    subst ev; subst eC; subst ed
    exact ⟨bL hx T.dI T.jq1b,bL hx T.dI T.jqv,bL hx T.dI T.jqw,bL hx T.dI T.jq1C,bL hx T.dI T.jqx,bL hx T.dI T.jqR,bL hx T.dI T.jqS,bL hx T.dI T.jqT,bL hx T.dI T.jq1c⟩
def JF (A : Adr) : Sp:=fun vs H Q _=>∃ (c : Col) (r : Rs) (v : V),vs = [v] ∧ fM A c H r v ∧ ∀ p H',bQ H H' → H' p = some (.lst ((gP r).map V.bl)) → Q (.ref p) H'
def JG (A : Adr) : Sp:=fun vs H Q _=>∃ (c : Col) (r : Rs) (v : V),vs = [v] ∧ fM A c H r v ∧ Ni r ∧ Q (SK r) H
theorem Np : ∀ r : Rs,(gP r).map V.bl = [V.bl (gP r)[0]!,V.bl (gP r)[1]!,V.bl (gP r)[2]!] ++ [V.bl (gP r)[3]!,V.bl (gP r)[4]!,V.bl (gP r)[5]!] ++ [V.bl (gP r)[6]!,V.bl (gP r)[7]!,V.bl (gP r)[8]!]
  | .num _=>rfl
  | .txt _=>rfl
  | .exc (.jv _)=>rfl
  | .exc .mi=>rfl
  | .exc .noChange=>rfl
  | .exc .noFit=>rfl
  | .exc (.fL _)=>rfl
  | .exc .nothing=>rfl
  | .exc .tooMany=>rfl
  | .exc .pH=>rfl
  | .exc (.mj _)=>rfl
  | .exc .oF=>rfl
theorem He (T : Txt w.params K mg A) : aw P w K mg base CX0 1 A.yp A.pb ["_law_caught"] (JF A):=by
  refine T.rZ.ok sV (fun vs H Q E h=>?_) (fun cdv A' outer s H vs Q E hr h=>?_)
  · obtain ⟨c,r,v,rfl,_⟩:=h
    rfl
  · obtain ⟨c,r,v,rfl,hv,q⟩:=h
    refine ⟨_,(ao (bA (i:=1) sV.nd rfl (Or.inl rfl) (eB (aa (cG d0 (by rfl) T.bY bV (aa (pv 0) (aa (fh (v:=V.ref A.bE) rfl T.qN rfl) ah))) (aa (cG d0 (by rfl) T.bY bV (aa (pv 0) (aa (fh (v:=V.ref A.br) rfl T.sX rfl) ah))) (aa (cG d0 (by rfl) T.bY bV (aa (pv 0) (aa (fh (v:=V.ref A.bt) rfl T.sY rfl) ah))) ah)))))
  (ao (bA (i:=1) sV.nd rfl (Or.inl rfl) (cg BK (pv 1) (eB (aa (cG d0 (by rfl) T.bY bV (aa (pv 0) (aa (fh (v:=V.ref A.cj) rfl T.Cj rfl) ah))) (aa (cG d0 (by rfl) T.bY bV (aa (pv 0) (aa (fh (v:=V.ref A.a8) rfl T.pB rfl) ah))) (aa (cG d0 (by rfl) T.bY bV (aa (pv 0) (aa (fh (v:=V.ref A.bF) rfl T.vp rfl) ah))) ah))))))
  (aj (aG (cg BK (pv 1) (eB (aa (cG d0 (by rfl) T.bY bV (aa (pv 0) (aa (fh (v:=V.ref A.bI) rfl T.vq rfl) ah))) (aa (cG d0 (by rfl) T.bY bV (aa (pv 0) (aa (fh (v:=V.ref A.bJ) rfl T.vr rfl) ah))) (aa (cG d0 (by rfl) T.bY bV (aa (pv 0) (aa (fh (v:=V.ref A.bH) rfl T.uv rfl) ah))) ah))))))))),?_⟩
    obtain ⟨b0,b1,b2,_,_,_,_,_,_⟩:=Pf T hv
    refine ⟨_,rfl,v,_,_,rfl,b0,_,rfl,v,_,_,rfl,b1,_,rfl,v,_,_,rfl,b2,(by show 3 ≤ sizeLine; decide),fun l1 hl1=>?_⟩
    have s1:=aH (o:=.lst [V.bl (gP r)[0]!,V.bl (gP r)[1]!,V.bl (gP r)[2]!]) hl1
    have hv1:=hv.same s1
    obtain ⟨_,_,_,b3,b4,b5,_,_,_⟩:=Pf T hv1
    refine ⟨_,rfl,_,rfl,v,_,_,rfl,b3,_,rfl,v,_,_,rfl,b4,_,rfl,v,_,_,rfl,b5,(by show 3 ≤ sizeLine; decide),fun l2 hl2=>?_⟩
    have n21 : l1 ≠ l2:=aV ae hl2
    have s2:=aH (o:=.lst [V.bl (gP r)[3]!,V.bl (gP r)[4]!,V.bl (gP r)[5]!]) hl2
    refine ⟨l1,l2,_,_,rfl,rfl,(aq n21).trans ae,ae,(by show 6 ≤ sizeLine; decide),fun l3 hl3=>?_⟩
    have s3:=aH (o:=.lst ([V.bl (gP r)[0]!,V.bl (gP r)[1]!,V.bl (gP r)[2]!] ++ [V.bl (gP r)[3]!,V.bl (gP r)[4]!,V.bl (gP r)[5]!])) hl3
    have hv3:=(hv1.same s2).same s3
    obtain ⟨_,_,_,_,_,_,b6,b7,b8⟩:=Pf T hv3
    refine ⟨_,rfl,_,rfl,v,_,_,rfl,b6,_,rfl,v,_,_,rfl,b7,_,rfl,v,_,_,rfl,b8,(by show 3 ≤ sizeLine; decide),fun l4 hl4=>?_⟩
    have n34 : l3 ≠ l4:=aV ae hl4
    have s4:=aH (o:=.lst [V.bl (gP r)[6]!,V.bl (gP r)[7]!,V.bl (gP r)[8]!]) hl4
    refine ⟨l3,l4,_,_,rfl,rfl,(aq n34).trans ae,ae,(by show 9 ≤ sizeLine; decide),fun l5 hl5=>?_⟩
    refine q l5 _ ((((s1.trans s2).trans s3).trans s4).new hl5) ?_
    rw [ae,Np]
theorem Hf (T : Txt w.params K mg A) : aw P w K mg base CX0 1 A.yq A.pd ["_law_caught"] (JG A):=by
  refine T.r6.ok GH (fun vs H Q E h=>?_) (fun cdv A' outer s H vs Q E hr h=>?_)
  · obtain ⟨c,r,v,rfl,_⟩:=h
    rfl
  · obtain ⟨c,r,v,rfl,hv,hok,q⟩:=h
    refine ⟨_,(ao (bU (nk (cG d0 (by rfl) T.bY bV (aa (pv 0) (aa (fh (v:=V.ref A.bE) rfl T.qN rfl) ah))))
  (aj (aG (I9 (pv 0) rfl)))
  aJ)
  (ao (bU (PW.pt (pw_or (nk (cG d0 (by rfl) T.bY bV (aa (pv 0) (aa (fh (v:=V.ref A.a8) rfl T.pB rfl) ah)))) (pw_or1 (nk (cG d0 (by rfl) T.bY bV (aa (pv 0) (aa (fh (v:=V.ref A.bH) rfl T.uv rfl) ah)))))))
  (aj (aG (I9 (pv 0) rfl)))
  aJ)
  (aj (aG By)))),?_⟩
    obtain ⟨b0,_,_,_,b4,_,_,_,b8⟩:=Pf T hv
    refine ⟨_,rfl,v,_,_,rfl,b0,_,rfl,?_⟩
    have lkb : ∀ b : Int,([(Str.ofString "bar",V.int b)] : List (Str × V)).lookup (Str.ofString "bar") = some (V.int b):=fun b=>by rw [List.lookup_cons]; rfl
    have lks : ∀ b : Int,([(Str.ofString "sitting",V.int b)] : List (Str × V)).lookup (Str.ofString "sitting") = some (V.int b):=fun b=>by rw [List.lookup_cons]; rfl
    cases r with
    | num n=>exact eD ⟨_,rfl,v,_,_,rfl,b4,_,rfl,eD ⟨_,rfl,v,_,_,rfl,b8,_,rfl,eD q⟩⟩
    | txt z=>exact eD ⟨_,rfl,v,_,_,rfl,b4,_,rfl,eD ⟨_,rfl,v,_,_,rfl,b8,_,rfl,eD q⟩⟩
    | exc x =>
      cases x with
      | jv b =>
        obtain ⟨ea,C,d,ev,_,hx,⟨eC,a,ed,ha⟩,_⟩:=hv
        subst ev; subst eC; subst ed
        exact jO ⟨_,rfl,ea,A.bE,a,_,.int b,rfl,hx,ha,T.Bb,lkb b,⟨_,.int (lE hok.1 hok.2)⟩,q⟩
      | fL b =>
        obtain ⟨ea,C,d,ev,_,hx,⟨eC,a,ed,ha⟩,_⟩:=hv
        subst ev; subst eC; subst ed
        exact eD ⟨_,rfl,_,_,_,rfl,b4,_,rfl,jO (jO ⟨_,rfl,ea,A.a8,a,_,.int b,rfl,hx,ha,T.wA,lks b,⟨_,.int (lE hok.1 hok.2)⟩,q⟩)⟩
      | mj b =>
        obtain ⟨ea,C,d,ev,_,hx,⟨eC,a,ed,ha⟩,_⟩:=hv
        subst ev; subst eC; subst ed
        exact eD ⟨_,rfl,_,_,_,rfl,b4,_,rfl,eD ⟨_,rfl,_,_,_,rfl,b8,_,rfl,jO ⟨_,rfl,ea,A.bH,a,_,.int b,rfl,hx,ha,T.Bc,lks b,⟨_,.int (lE hok.1 hok.2)⟩,q⟩⟩⟩
      | _=>exact eD ⟨_,rfl,v,_,_,rfl,b4,_,rfl,eD ⟨_,rfl,v,_,_,rfl,b8,_,rfl,eD q⟩⟩
def rsD : Rs → PyData
  | .num n=>.int (n : Int)
  | .txt z=>.str z
  | .exc _=>.none
theorem Qk {H : Hp} : ∀ r : Rs,DV K H (rsD r) (Pe r)
  | .num _=>by unfold rsD DV; rfl
  | .txt _=>by unfold rsD DV; rfl
  | .exc _=>by unfold rsD DV; rfl
theorem SM : ∀ {r : Rs},Ni r → (rsD r).canLay0 = true
  | .num _,_=>by simp [rsD,PyData.canLay0]
  | .txt _,h=>by have h' : PyData.strOk _ = true:=h; simp [rsD,PyData.canLay0,h']
  | .exc _,_=>by simp [rsD,PyData.canLay0]
theorem Ql : ∀ {r : Rs},Ni r → SeqAt.shaped (rsD r) = true
  | .num _,_=>by rfl
  | .txt _,h=>by
    have h' : PyData.strOk _ = true:=h
    simp [rsD,SeqAt.shaped,PyData.canLay0,PyData.depth,h']
  | .exc _,_=>by rfl
theorem D1 {H : Hp} : ∀ r : Rs,DV K H (D0 r) (SK r):=by
  intro r
  unfold D0 SK
  split <;> (unfold DV; rfl)
theorem Pg : ∀ r : Rs,(D0 r).canLay0 = true:=by
  intro r
  unfold D0
  split <;> simp [PyData.canLay0]
theorem Nq : ∀ r : Rs,SeqAt.shaped (D0 r) = true:=by
  intro r
  unfold D0
  split <;> rfl
def tyS : Rs → Value
  | .num _=>.type "int"
  | .txt _=>.type "str"
  | .exc _=>.type "NoneType"
def isS : Rs → Bool
  | .txt _=>true
  | _=>false
theorem JH (K : PySem.W.Frag) : ∀ r : Rs,PySem.W.kitOne K (tyS r) (.type "str") = some (isS r)
  | .num _=>by show PySem.W.kitOne K (.type "int") (.type "str") = some false; kernel_rfl
  | .txt _=>by show PySem.W.kitOne K (.type "str") (.type "str") = some true; kernel_rfl
  | .exc _=>by show PySem.W.kitOne K (.type "NoneType") (.type "str") = some false; kernel_rfl
theorem ty_str {H : Hp} : ∀ r : Rs,sS K H (Pe r) (tyS r)
  | .num _=>.int _
  | .txt _=>.str _
  | .exc _=>.non
def JI (A : Adr) : Sp:=fun vs H Q _=>∃ (c : Col) (r : Rs) (p1 p2 : Addr) (v1 v2 : V),vs = [.ref p1,.ref p2] ∧ vL A c H r p1 v1 ∧ vL A c H r p2 v2 ∧ Ni r ∧ ∀ H',bQ H H' → Q (.bl true) H'
theorem Hg (T : Txt w.params K mg A) : aw P w K mg base CX0 2 A.yr A.pe ["_law_one","_law_other"] (JI A):=by
  have Bm : aw P w K mg base CX0 1 A.yp A.pb ["_law_caught"] (JF A):=He T
  have Bn : aw P w K mg base CX0 1 A.yq A.pd ["_law_caught"] (JG A):=Hf T
  refine T.vm.ok GI (fun vs H Q E h=>?_) (fun cdv A' outer s H vs Q E hr h=>?_)
  · obtain ⟨c,r,p1,p2,v1,v2,rfl,_⟩:=h
    rfl
  · obtain ⟨c,r,p1,p2,v1,v2,rfl,⟨_,h1,hv1⟩,⟨_,h2,hv2⟩,hok,q⟩:=h
    have zQ:=hr
    have zR:=hr
    have Cr:=hr.units
    refine ⟨_,(ao (bU (PW.pt (pw_or (aI (Gw Cr) (aS aY (pv 0) ak (fun _ _=>rfl)) (aS aY (pv 1) ak (fun _ _=>rfl)) (aT _)) (pw_or1 (aI Lu (cG yE (by rfl) T.bY bV (aa (aS aY (pv 0) ak (fun _ _=>rfl)) (aa (IH (v:=V.ty "str") rfl T.Dw BJ rfl) ah))) (cG yE (by rfl) T.bY bV (aa (aS aY (pv 1) ak (fun _ _=>rfl)) (aa (IH (v:=V.ty "str") rfl T.Dw BJ rfl) ah))) (aT _)))))
  (aj (aG qt))
  aJ)
  (aj (aG (Ln (mR (Gv Cr) (bK Bm zQ rfl T.vi T.rZ.kp T.vh .nil bh (aa (aS aY (pv 0) ak (fun _ _=>rfl)) ah)) (bK Bm zQ rfl T.vi T.rZ.kp T.vh .nil bh (aa (aS aY (pv 1) ak (fun _ _=>rfl)) ah)) (aT _)) (Ga (mR (Gv Cr) (bK Bn zR rfl T.vk T.r6.kp T.vj .nil bh (aa (aS aY (pv 0) ak (fun _ _=>rfl)) ah)) (bK Bn zR rfl T.vk T.r6.kp T.vj .nil bh (aa (aS aY (pv 1) ak (fun _ _=>rfl)) ah)) (aT _))))))),?_⟩
    refine ⟨_,rfl,p1,_,_,_,rfl,rfl,SqT.of h1,rfl,_,rfl,p2,_,_,_,rfl,rfl,SqT.of h2,rfl,rsD r,rsD r,Qk r,Qk r,Ql hok,Ql hok,_,rfl,?_⟩
    rw [eqv_refl _ (SM hok)]
    refine eD ⟨_,rfl,p1,_,_,_,rfl,rfl,SqT.of h1,rfl,_,.ty "str",_,_,rfl,rfl,ty_str r,JH K r,_,rfl,p2,_,_,_,rfl,rfl,SqT.of h2,rfl,_,.ty "str",_,_,rfl,rfl,ty_str r,JH K r,rfl,_,rfl,aN (by simp) ?_⟩
    refine ⟨_,rfl,p1,_,_,_,rfl,rfl,SqT.of h1,rfl,c,r,v1,rfl,hv1,fun l1 H1 s1 hl1=>?_⟩
    refine ⟨_,rfl,p2,_,_,_,rfl,rfl,SqT.of (s1 _ _ h2),rfl,c,r,v2,rfl,hv2.same s1,fun l2 H2 s2 hl2=>?_⟩
    refine ⟨_,_,LR (SqL.of (s2 _ _ hl1)),LR (SqL.of hl2),yH _,yH _,_,rfl,?_⟩
    rw [Ov]
    have s12:=s1.trans s2
    refine jO ⟨_,rfl,p1,_,_,_,rfl,rfl,SqT.of (s12 _ _ h1),rfl,c,r,v1,rfl,hv1.same s12,hok,?_⟩
    refine ⟨_,rfl,p2,_,_,_,rfl,rfl,SqT.of (s12 _ _ h2),rfl,c,r,v2,rfl,hv2.same s12,hok,D0 r,D0 r,D1 r,D1 r,Nq r,Nq r,?_⟩
    rw [eqv_refl _ (Pg r)]
    exact q H2 s12
end
end My
set_option maxHeartbeats 1000000
namespace My
open PySem L2
seal PySem.wpAny
mutual
theorem DV.same {K : PySem.W.Frag} {H H' : Hp} (s : bQ H H') : ∀ (d : PyData) {x : V},DV K H d x → DV K H' d x
  | .none,_,h=>by unfold DV at h ⊢; exact h
  | .bool _,_,h=>by unfold DV at h ⊢; exact h
  | .int _,_,h=>by unfold DV at h ⊢; exact h
  | .str _,_,h=>by unfold DV at h ⊢; exact h
  | .list ds,_,h=>by
    unfold DV at h ⊢
    obtain ⟨a,xs,e,h1,h2⟩:=h
    exact ⟨a,xs,e,s.seq h1,DVs.same s ds h2⟩
  | .tuple ds,_,h=>by
    unfold DV at h ⊢
    obtain ⟨a,xs,e,h1,h2⟩:=h
    exact ⟨a,xs,e,d8 s h1,DVs.same s ds h2⟩
  | .dict _,_,h=>by unfold DV at h; exact h.elim
theorem DVs.same {K : PySem.W.Frag} {H H' : Hp} (s : bQ H H') : ∀ (ds : List PyData) {xs : List V},DVs K H ds xs → DVs K H' ds xs
  | [],_,h=>by unfold DVs at h ⊢; exact h
  | d :: ds,_,h=>by
    unfold DVs at h ⊢
    obtain ⟨x,r,e,h1,h2⟩:=h
    exact ⟨x,r,e,DV.same s d h1,DVs.same s ds h2⟩
end
theorem lF {d : PyData} (h1 : d.canLay0 = true) (h2 : d.depth ≤ 64) : SeqAt.shaped d = true:=by
  show (d.canLay0 && decide (d.depth ≤ 64)) = true
  rw [h1,decide_eq_true h2]; rfl
theorem oI {α : Type} {f : α → PyData} {k : Nat} (h : ∀ x,PyData.depth (f x) ≤ k) : ∀ xs : List α,PyData.depthAll (xs.map f) ≤ k
  | []=>by simp only [List.map_nil,PyData.depthAll]; omega
  | x :: xs=>by
    have h1:=h x
    have h2:=oI h xs
    simp only [List.map_cons,PyData.depthAll]
    omega
theorem uJ {α : Type} {f : α → PyData} : ∀ {xs : List α},(∀ x ∈ xs,(f x).canLay0 = true) → PyData.canLayAll0 (xs.map f) = true
  | [],_=>by simp only [List.map_nil,PyData.canLayAll0]
  | x :: xs,h=>by
    simp only [List.map_cons,PyData.canLayAll0,h x List.mem_cons_self,uJ fun y hy=>h y (List.mem_cons_of_mem _ hy),Bool.and_self]
theorem D2 (ns : List Nat) : (wG ns).canLay0 = true:=by
  unfold wG
  simp only [PyData.canLay0]
  exact uJ fun n _=>by simp only [PyData.canLay0]
theorem D3 (ns : List Nat) : (wG ns).depth ≤ 2:=by
  unfold wG
  have:=oI (f:=fun n : Nat=>PyData.int (n : Int)) (k:=0) (fun n=>by simp only [PyData.depth]; omega) ns
  simp only [PyData.depth]
  omega
theorem SN (x : Nat × Int × List Nat) : (asD x).canLay0 = true:=by
  unfold asD
  simp only [PyData.canLay0,PyData.canLayAll0,D2,Bool.and_self]
theorem SO (x : Nat × Int × List Nat) : (asD x).depth ≤ 10:=by
  have:=D3 x.2.2
  unfold asD
  simp only [PyData.depth,PyData.depthAll]
  omega
theorem SQ (x : Nat × Str) : (dcD x).depth ≤ 10:=by
  unfold dcD
  simp only [PyData.depth,PyData.depthAll]
  omega
theorem Hh {N : Nat} {st : Ch} (I : Inv N st) (ns : List Int) : (stD st ns).canLay0 = true:=by
  have h1 : PyData.canLayAll0 (ns.map fun n=>asD (DT st n)) = true:=uJ fun n _=>SN _
  have h2 : PyData.canLayAll0 (st.decided.map dcD) = true:=uJ fun x hx=>by
    unfold dcD
    simp only [PyData.canLay0,PyData.canLayAll0,I.dw x hx,Bool.and_self]
  unfold stD
  simp only [PyData.canLay0,PyData.canLayAll0,D2,h1,h2,Bool.and_self]
theorem Nr (st : Ch) (ns : List Int) : (stD st ns).depth ≤ 64:=by
  have h0:=D3 st.aC
  have h1:=oI (f:=fun n=>asD (DT st n)) (k:=10) (fun n=>SO _) ns
  have h2:=oI (f:=dcD) (k:=10) SQ st.decided
  unfold stD
  simp only [PyData.depth,PyData.depthAll]
  omega
theorem Nt : ∀ k,PyData.strOk (kn k) = true
  | 0=>by decide +kernel
  | 1=>by decide +kernel
  | _ + 2=>by show PyData.strOk (Str.ofString "turn") = true; decide +kernel
theorem Hi {e : Ed} (h : PyData.strOk e.th = true) : (edD e).canLay0 = true:=by
  have h0:=Nt 0
  have h1:=Nt 1
  have h2:=Nt 2
  unfold edD
  split <;> simp only [PyData.canLay0,PyData.canLayAll0,h,h0,h1,h2,Bool.and_self]
theorem Hk (e : Ed) : (edD e).depth ≤ 10:=by
  unfold edD
  split <;> simp only [PyData.depth,PyData.depthAll] <;> omega
theorem D4 {tx : List Str} (h : ∀ x ∈ tx,PyData.strOk x = true) : (PyData.list (tx.map PyData.str)).canLay0 = true:=by
  simp only [PyData.canLay0]
  exact wg tx h
theorem D5 (tx : List Str) : (PyData.list (tx.map PyData.str)).depth ≤ 10:=by
  have:=yC tx
  simp only [PyData.depth]
  omega
theorem Hl {N : Nat} : ∀ {m : Mn},MOk N m → (mnD m).canLay0 = true
  | .mat tx,h=>by
    have h0:=wB 0 (by decide)
    have h1:=D4 h.2
    unfold mnD
    simp only [PyData.canLay0,PyData.canLayAll0] at h1 ⊢
    simp only [h0,h1,Bool.and_self]
  | .chg e,h=>by
    have h0:=wB 1 (by decide)
    have h1:=Hi (EdB.str h)
    unfold mnD
    simp only [PyData.canLay0,PyData.canLayAll0,h0,h1,Bool.and_self]
  | .mnd e,h=>by
    have h0:=wB 2 (by decide)
    have h1:=Hi (EdB.str h.1)
    unfold mnD
    simp only [PyData.canLay0,PyData.canLayAll0,h0,h1,Bool.and_self]
  | .off u,_=>by
    have h0:=wB 3 (by decide)
    unfold mnD
    simp only [PyData.canLay0,PyData.canLayAll0,h0,Bool.and_self]
  | .cls,_=>by
    have h0:=wB 4 (by decide)
    unfold mnD
    simp only [PyData.canLay0,PyData.canLayAll0,h0,Bool.and_self]
  | .lay,_=>by
    have h0:=wB 5 (by decide)
    unfold mnD
    simp only [PyData.canLay0,PyData.canLayAll0,h0,Bool.and_self]
  | .rst,_=>by
    have h0:=wB 6 (by decide)
    unfold mnD
    simp only [PyData.canLay0,PyData.canLayAll0,h0,Bool.and_self]
  | .pnt z,h=>by
    have h0:=wB 7 (by decide)
    have h1 : PyData.strOk z = true:=h
    unfold mnD
    simp only [PyData.canLay0,PyData.canLayAll0,h0,h1,Bool.and_self]
theorem Nu (m : Mn) : (mnD m).depth ≤ 64:=by
  cases m with
  | mat tx =>
    have:=D5 tx
    unfold mnD
    simp only [PyData.depth,PyData.depthAll] at this ⊢
    omega
  | chg e =>
    have:=Hk e
    unfold mnD
    simp only [PyData.depth,PyData.depthAll]
    omega
  | mnd e =>
    have:=Hk e
    unfold mnD
    simp only [PyData.depth,PyData.depthAll]
    omega
  | _=>unfold mnD; simp only [PyData.depth,PyData.depthAll]; omega
def j4 : R.dz → PyData
  | .mat cs=>.tuple [.str (Str.ofString "matter"),.list ((cs.map (Str.join R.bl1)).map PyData.str)]
  | .ed m k j ws=>.tuple [.str (R.kEd m),edD ⟨k,j,Str.join R.bl1 ws⟩]
  | .pt ws=>.tuple [.str (Str.ofString "point"),.str (Str.join R.bl1 ws)]
  | .nums kd ns=>.tuple (.str kd :: ns.map PyData.int)
def vN (c : Col) (H : Hp) (t : Addr) (xs : List V) : Prop:=c t = none ∧ H t = some (.tup xs)
def p7 (c : Col) (H : Hp) : R.dz → Addr → Prop
  | .mat cs,t=>∃ L,vN c H t [.str (Str.ofString "matter"),.ref L] ∧ c L = none ∧ H L = some (.lst ((cs.map (Str.join R.bl1)).map V.str))
  | .ed m k j ws,t=>∃ e,vN c H t [.str (R.kEd m),.ref e] ∧ TupAt c H e (R.edR k j (Str.join R.bl1 ws))
  | .pt ws,t=>vN c H t [.str (Str.ofString "point"),.str (Str.join R.bl1 ws)]
  | .nums kd ns,t=>vN c H t (.str kd :: ns.map V.int)
theorem vN.c {i : Nat} {c : Col} {H : Hp} {t : Addr} {xs : List V} (h : vN c H t xs) : vF i c H t xs:=⟨by rw [h.1]; exact a6,h.2⟩
theorem vN.step {W : Option (Nat × Rl) → Prop} {c c' : Col} {H H' : Hp} {t : Addr} {xs : List V} (s : Step W c c' H H') (h : vN c H t xs) : vN c' H' t xs:=i9 s h.1 h.2
theorem p7.step {W : Option (Nat × Rl) → Prop} {c c' : Col} {H H' : Hp} {t : Addr} (s : Step W c c' H H') : ∀ {d : R.dz},p7 c H d t → p7 c' H' d t
  | .mat _,⟨L,a,b1,b2⟩=>⟨L,a.step s,i9 s b1 b2⟩
  | .ed _ _ _ _,⟨e,a,b⟩=>⟨e,a.step s,b.step s⟩
  | .pt _,h=>vN.step s h
  | .nums _ _,h=>vN.step s h
theorem p7.c {i : Nat} {c : Col} {H : Hp} {t : Addr} : ∀ {d : R.dz},p7 c H d t → mn i c H d t
  | .mat _,⟨L,a,b1,b2⟩=>⟨L,a.c,by rw [b1]; exact a6,b2⟩
  | .ed _ _ _ _,⟨e,a,b⟩=>⟨e,a.c,b⟩
  | .pt _,h=>vN.c h
  | .nums _ _,h=>vN.c h
theorem uI.z {c : Col} {H H' : Hp} {t : Addr} : ∀ {d : R.dz},uI H H' d t → p7 (hX c H) H' d t
  | .mat _,⟨L,h1,h2,h3,h4⟩=>⟨L,⟨dY h1,h3⟩,dY h2,h4⟩
  | .ed _ _ _ _,⟨e,h1,h2,h3,h4⟩=>⟨e,⟨dY h1,h3⟩,dY h2,.inl h4⟩
  | .pt _,⟨h1,h2⟩=>⟨dY h1,h2⟩
  | .nums _ _,⟨h1,h2⟩=>⟨dY h1,h2⟩
theorem p7.kind {c : Col} {H : Hp} {t : Addr} : ∀ {d : R.dz},p7 c H d t → ∃ xs,H t = some (.tup (.str (R.m8 d) :: xs))
  | .mat _,⟨_,a,_⟩=>⟨_,a.2⟩
  | .ed _ _ _ _,⟨_,a,_⟩=>⟨_,a.2⟩
  | .pt _,h=>⟨_,h.2⟩
  | .nums _ _,h=>⟨_,h.2⟩
theorem D6 (K : PySem.W.Frag) (H : Hp) : ∀ ns : List Int,DVs K H (ns.map PyData.int) (ns.map V.int)
  | []=>by unfold DVs; rfl
  | n :: ns=>by
    rw [List.map_cons,List.map_cons]
    unfold DVs
    exact ⟨_,_,rfl,by unfold DV; rfl,D6 K H ns⟩
theorem JJ {K : PySem.W.Frag} {i : Nat} {c : Col} {H : Hp} {t : Addr} {d : R.dz} (hd : tH d) (h : mn i c H d t) : DV K H (j4 d) (.ref t):=by
  cases d with
  | mat cs =>
    obtain ⟨L,a,b⟩:=h
    unfold j4 DV
    refine ⟨t,_,rfl,SqT.of a.2,?_⟩
    unfold DVs
    refine ⟨_,_,rfl,by unfold DV; rfl,?_⟩
    unfold DVs
    exact ⟨_,_,rfl,IT (SqL.of b.2),by unfold DVs; rfl⟩
  | ed m k j ws =>
    obtain ⟨e,a,b⟩:=h
    cases hd with
    | move hm =>
      unfold j4 DV
      refine ⟨t,_,rfl,SqT.of a.2,?_⟩
      unfold DVs
      refine ⟨_,_,rfl,by unfold DV; rfl,?_⟩
      unfold DVs
      exact ⟨_,_,rfl,Cp _ (by rw [← GZ hm.1]; exact b.sq),by unfold DVs; rfl⟩
  | pt ws =>
    unfold j4 DV
    refine ⟨t,_,rfl,SqT.of h.2,?_⟩
    unfold DVs
    refine ⟨_,_,rfl,by unfold DV; rfl,?_⟩
    unfold DVs
    exact ⟨_,_,rfl,by unfold DV; rfl,by unfold DVs; rfl⟩
  | nums kd ns =>
    unfold j4 DV
    refine ⟨t,_,rfl,SqT.of h.2,?_⟩
    unfold DVs
    exact ⟨_,_,rfl,by unfold DV; rfl,D6 K H ns⟩
theorem XB {d : R.dz} (h : tH d) : PyData.strOk (R.m8 d) = true:=by
  cases h with
  | CN=>show PyData.strOk (Str.ofString "vote") = true; decide +kernel
  | drop=>decide +kernel
  | take=>show PyData.strOk (Str.ofString "take") = true; decide +kernel
  | move h =>
    cases d with
    | mat cs=>show PyData.strOk (Str.ofString "matter") = true; decide +kernel
    | ed m k j ws=>cases m <;> (show PyData.strOk (R.kEd _) = true; decide +kernel)
    | pt ws=>show PyData.strOk (Str.ofString "point") = true; decide +kernel
    | nums kd ns =>
      rcases m9 h.1 with ⟨u,rfl,rfl⟩ | ⟨rfl,rfl⟩ | ⟨rfl,rfl⟩ | ⟨rfl,rfl⟩
      · show PyData.strOk (Str.ofString "put off") = true; decide +kernel
      · show PyData.strOk (Str.ofString "close") = true; decide +kernel
      · show PyData.strOk (Str.ofString "lay") = true; decide +kernel
      · show PyData.strOk (Str.ofString "rest") = true; decide +kernel
theorem zS {d : R.dz} (h : tH d) : (j4 d).canLay0 = true:=by
  have hk:=XB h
  cases d with
  | mat cs =>
    cases h with
    | move h =>
      have h1:=D4 (tx:=cs.map (Str.join R.bl1)) (fun x hx=>by
        obtain ⟨ws,hw,rfl⟩:=List.mem_map.mp hx
        exact rg (h.2 ws hw))
      have hk' : PyData.strOk (Str.ofString "matter") = true:=hk
      unfold j4
      simp only [PyData.canLay0,PyData.canLayAll0] at h1 ⊢
      simp only [hk',h1,Bool.and_self]
  | ed m k j ws =>
    cases h with
    | move h =>
      have h1:=Hi (e:=⟨k,j,Str.join R.bl1 ws⟩) (rg h.2.2.1)
      have hk' : PyData.strOk (R.kEd m) = true:=hk
      unfold j4
      simp only [PyData.canLay0,PyData.canLayAll0,hk',h1,Bool.and_self]
  | pt ws =>
    cases h with
    | move h =>
      have h1 : PyData.strOk (Str.join R.bl1 ws) = true:=rg h
      have hk' : PyData.strOk (Str.ofString "point") = true:=hk
      unfold j4
      simp only [PyData.canLay0,PyData.canLayAll0,hk',h1,Bool.and_self]
  | nums kd ns =>
    have h1 : PyData.canLayAll0 (ns.map PyData.int) = true:=uJ fun n _=>by simp only [PyData.canLay0]
    have hk' : PyData.strOk kd = true:=hk
    unfold j4
    simp only [PyData.canLay0,PyData.canLayAll0,hk',h1,Bool.and_self]
theorem D7 (d : R.dz) : (j4 d).depth ≤ 64:=by
  cases d with
  | mat cs =>
    have:=D5 (cs.map (Str.join R.bl1))
    unfold j4
    simp only [PyData.depth,PyData.depthAll] at this ⊢
    omega
  | ed m k j ws =>
    have:=Hk ⟨k,j,Str.join R.bl1 ws⟩
    unfold j4
    simp only [PyData.depth,PyData.depthAll]
    omega
  | pt ws=>unfold j4; simp only [PyData.depth,PyData.depthAll]; omega
  | nums kd ns =>
    have:=oI (f:=PyData.int) (k:=0) (fun n=>by simp only [PyData.depth]; omega) ns
    unfold j4
    simp only [PyData.depth,PyData.depthAll]
    omega
def isM : R.dz → Bool
  | .mat _=>true
  | _=>false
def CP : R.dz → Bool
  | .nums kd _=>!(decide (kd = Str.ofString "vote") || decide (kd = Str.ofString "drop") || decide (kd = Str.ofString "take"))
  | _=>true
def isX : Rs → Bool
  | .exc _=>true
  | _=>false
theorem D8 {d : R.dz} (h : tH d) : decide (V.str (R.m8 d) = V.str (Str.ofString "matter")) = isM d:=by
  cases h with
  | CN=>show decide (V.str (Str.ofString "vote") = _) = false; decide +kernel
  | drop=>decide +kernel
  | take=>show decide (V.str (Str.ofString "take") = _) = false; decide +kernel
  | move h =>
    cases d with
    | mat cs=>show decide (V.str (Str.ofString "matter") = _) = true; decide +kernel
    | ed m k j ws=>cases m <;> (show decide (V.str (R.kEd _) = _) = false; decide +kernel)
    | pt ws=>show decide (V.str (Str.ofString "point") = _) = false; decide +kernel
    | nums kd ns =>
      rcases m9 h.1 with ⟨u,rfl,rfl⟩ | ⟨rfl,rfl⟩ | ⟨rfl,rfl⟩ | ⟨rfl,rfl⟩
      · show decide (V.str (Str.ofString "put off") = _) = false; decide +kernel
      · show decide (V.str (Str.ofString "close") = _) = false; decide +kernel
      · show decide (V.str (Str.ofString "lay") = _) = false; decide +kernel
      · show decide (V.str (Str.ofString "rest") = _) = false; decide +kernel
theorem Ph {d : R.dz} (h : tH d) : (!inV (V.str (R.m8 d)) [V.str (Str.ofString "vote"),V.str (Str.ofString "drop"),V.str (Str.ofString "take")]) = CP d:=by
  cases h with
  | CN=>show (!inV (V.str (Str.ofString "vote")) _) = CP (.nums (Str.ofString "vote") [_,_]); rw [show CP (.nums (Str.ofString "vote") [_,_]) = !(decide (Str.ofString "vote" = Str.ofString "vote") || decide (Str.ofString "vote" = Str.ofString "drop") || decide (Str.ofString "vote" = Str.ofString "take")) from rfl]; decide +kernel
  | drop=>decide +kernel
  | take=>show (!inV (V.str (Str.ofString "take")) _) = !(decide (Str.ofString "take" = Str.ofString "vote") || decide (Str.ofString "take" = Str.ofString "drop") || decide (Str.ofString "take" = Str.ofString "take")); decide +kernel
  | move h =>
    cases d with
    | mat cs=>show (!inV (V.str (Str.ofString "matter")) _) = true; decide +kernel
    | ed m k j ws=>cases m <;> (show (!inV (V.str (R.kEd _)) _) = true; decide +kernel)
    | pt ws=>show (!inV (V.str (Str.ofString "point")) _) = true; decide +kernel
    | nums kd ns =>
      rcases m9 h.1 with ⟨u,rfl,rfl⟩ | ⟨rfl,rfl⟩ | ⟨rfl,rfl⟩ | ⟨rfl,rfl⟩
      · show (!inV (V.str (Str.ofString "put off")) _) = !(decide (Str.ofString "put off" = Str.ofString "vote") || decide (Str.ofString "put off" = Str.ofString "drop") || decide (Str.ofString "put off" = Str.ofString "take")); decide +kernel
      · decide +kernel
      · decide +kernel
      · decide +kernel
theorem Nv {st : Ch} {d : R.dz} (h : tH d) : ((fg st d).2.made.length : Int) = (st.made.length : Int) + (if isX (fg st d).1 = false ∧ CP d = true then 1 else 0):=by
  cases h with
  | CN=>rw [mq,Km,if_neg (fun z=>by have:=z.2; rw [CP] at this; simp at this)]; omega
  | drop=>rw [mr,Kn,if_neg (fun z=>absurd z.2 (by decide +kernel))]; omega
  | take=>rw [mw,Ko,if_neg (fun z=>by have:=z.2; rw [CP] at this; simp at this)]; omega
  | move h =>
    have hmv : CP d = true:=by
      cases d with
      | nums kd ns =>
        rcases m9 h.1 with ⟨u,rfl,rfl⟩ | ⟨rfl,rfl⟩ | ⟨rfl,rfl⟩ | ⟨rfl,rfl⟩
        · show (!(decide (Str.ofString "put off" = Str.ofString "vote") || decide (Str.ofString "put off" = Str.ofString "drop") || decide (Str.ofString "put off" = Str.ofString "take"))) = true; decide +kernel
        · decide +kernel
        · decide +kernel
        · decide +kernel
      | _=>rfl
    rw [mx h]
    unfold q9
    split
    · rw [if_neg (fun z=>absurd z.1 (by simp [isX]))]; show (st.made.length : Int) = _; omega
    · rw [if_pos ⟨rfl,hmv⟩]
      show ((st.made ++ [iE d]).length : Int) = _
      rw [List.length_append,List.length_singleton]; omega
theorem Hm {A : Adr} {c : Col} {H : Hp} {v : V} : ∀ {r : Rs},fM A c H r v → decide (v = .non) = !isX r
  | .exc x,⟨ea,C,d,e,_⟩=>by rw [e]; exact decide_eq_false (fun z=>nomatch z)
  | .num _,h=>decide_eq_true h
  | .txt _,h=>decide_eq_true h
theorem wI : ∀ {xs ys : List Int},List.Perm xs ys → xs.Pairwise (· ≤ ·) → ys.Pairwise (· ≤ ·) → xs = ys
  | [],ys,p,_,_=>(List.Perm.nil_eq p)
  | x :: xs,[],p,_,_=>absurd p.length_eq (by simp)
  | x :: xs,y :: ys,p,hx,hy=>by
    obtain ⟨x1,x2⟩:=List.pairwise_cons.mp hx
    obtain ⟨y1,y2⟩:=List.pairwise_cons.mp hy
    have e : x = y:=by
      have a : x ∈ y :: ys:=p.mem_iff.mp List.mem_cons_self
      have b : y ∈ x :: xs:=p.mem_iff.mpr List.mem_cons_self
      rcases List.mem_cons.mp a with a | a
      · exact a
      · rcases List.mem_cons.mp b with b | b
        · exact b.symm
        · exact Int.le_antisymm (x1 y b) (y1 x a)
    subst e
    rw [wI (List.perm_cons x |>.mp p) x2 y2]
theorem Bo {W : Option (Nat × Rl) → Prop} (n : ¬ W none) {c c' : Col} {H1 H2 : Hp} {x dx : Addr} {o : HO} (hx : H1 x = none) (hdx : H1 dx = none) (hk : ∀ a v,(upd (upd H1 dx (.own x)) x o) a = some v → a ≠ x → H2 a = some v ∧ c' a = c a) : Step W c c' H1 H2:=by
  have old : ∀ a v,H1 a = some v → H2 a = some v ∧ c' a = c a:=fun a v h =>
    hk a v ((aq (aV h hx)).trans ((aq (aV h hdx)).trans h)) (aV h hx)
  exact ⟨n,fun a v h _=>(old a v h).1,fun a v h=>⟨v,(old a v h).1⟩,fun a v h _=>(old a v h).2⟩
structure Base (A : Adr) (l o1 o2 : Addr) (cs : List V) (c : Col) (H : Hp) (st : Ch) : Prop where
  cl : c l = none
  hl : H l = some (.lst cs)
  one : eZ A 1 c H o1 st
  two : eZ A 2 c H o2 st
theorem Base.free {A : Adr} {l o1 o2 : Addr} {cs : List V} {c c' : Col} {H H' : Hp} {st : Ch} {W : Option (Nat × Rl) → Prop} (h1 : ∀ r,¬ W (some (1,r))) (h2 : ∀ r,¬ W (some (2,r))) (s : Step W c c' H H') (b : Base A l o1 o2 cs c H st) : Base A l o1 o2 cs c' H' st :=
  ⟨(i9 s b.cl b.hl).1,(i9 s b.cl b.hl).2,b.one.free h1 s,b.two.free h2 s⟩
def LoopAt (A : Adr) (l o1 o2 : Addr) (cs : List V) (j : Nat) (many : Int) (H : Hp) : Prop:=∃ (c : Col) (st : Ch),Base A l o1 o2 cs c H st ∧ Inv (3 * j) st ∧ many = (st.made.length : Int)
def vO (c : Col) (H : Hp) (d : R.dz) (t t2 : Addr) : Prop:=(isM d = false ∧ t2 = t) ∨ ∃ cs L,d = .mat cs ∧ c t2 = none ∧ H t2 = some (.tup [.str (Str.ofString "matter"),.ref L]) ∧ c L = some (0,.rows) ∧ H L = some (.lst ((cs.map (Str.join R.bl1)).map V.str))
theorem vO.XC {i : Nat} (hi : i ≠ 0) {c : Col} {H : Hp} {d : R.dz} {t t2 : Addr} (hz : p7 c H d t) (h : vO c H d t t2) : mn i c H d t2:=by
  rcases h with ⟨_,rfl⟩ | ⟨cs,L,rfl,h1,h2,h3,h4⟩
  · exact hz.c
  · exact ⟨L,⟨by rw [h1]; exact a6,h2⟩,by rw [h3]; exact tw (Ne.symm hi) _,h4⟩
theorem vO.step {i : Nat} (hi : i ≠ 0) {c c' : Col} {H H' : Hp} {d : R.dz} {t t2 : Addr} (s : Step (hU i) c c' H H') (h : vO c H d t t2) : vO c' H' d t t2:=by
  rcases h with ⟨e,rfl⟩ | ⟨cs,L,rfl,h1,h2,h3,h4⟩
  · exact .inl ⟨e,rfl⟩
  · have hn : ¬ hU i (c L):=by rw [h3]; exact tw (Ne.symm hi) _
    exact .inr ⟨cs,L,rfl,(i9 s h1 h2).1,(i9 s h1 h2).2,by rw [s.col L _ h4 hn]; exact h3,s.keep _ _ h4 hn⟩
def JK (K : PySem.W.Frag) : Sp:=fun vs H Q _=>∃ (a : Addr) (ns : List Int),vs = [.ref a] ∧ SqL K H a (ns.map V.int) ∧ ns.length ≤ 63 ∧ ∀ H',Q (.bl true) H'
end My
set_option maxHeartbeats 1000000
namespace My
open PySem L2
seal PySem.wpAny
theorem Pj (n : Int) : Inv 0 (Ng n) :=
  ⟨Nat.le_refl 0,Nat.le_refl 0,Nat.le_refl 0,Nat.le_refl 0,(fun _ h=>nomatch h),⟨by show (1 : Int) ≤ 1; decide,by show (1 : Int) ≤ _; decide⟩,(fun _ h=>nomatch h),(fun _ h=>nomatch h),List.nodup_nil,.nil,(fun _ h=>nomatch h),rfl,rfl,(fun _ h=>nomatch h)⟩
theorem Pk (xs : List V) : (iR xs (some 1) (some 61)).length ≤ 60:=by
  unfold iR
  rw [show (1 : Int) = ((1 : Nat) : Int) from rfl,show (61 : Int) = ((61 : Nat) : Int) from rfl,HT.tZ,HT.tZ,List.length_take,List.length_drop]
  omega
section
variable {P : Program} {w : World} {K : PySem.W.Frag} {mg : Str → Option Value} {base : Heap} {A : Adr}
set_option maxHeartbeats 20000000 in
theorem SR {f : Addr} {fd : FuncData} (F : Fun K "law" "law" sF f fd) (T : Txt w.params K mg A) : aw P w K mg base CX0 20 f fd ["_law_script"] (JK K):=by
  have D9 : aw P w K mg base CX0 1 A.rV A.kX ["_law_script","_law_k"] (DW K):=CO T
  have Hn : aw P w K mg base CX0 1 A.uh A.mW ["_law_cell","_law_many"] R.DE:=DZ T
  have Nw : aw P w K mg base CX0 3 A.B8 A.rX ["_law_draws","_law_seats"] (DY K):=Ku T
  have Ea : aw P w K mg base CX0 9 A.y8 A.ou ["_law_chamber","_law_deed_here","_law_by_method_here"] (fun vs H Q E=>∃ i,zO A i vs H Q E):=Ks T
  have Kw : aw P w K mg base CX0 2 A.yr A.pe ["_law_one","_law_other"] (JI A):=Hg T
  have Bp : aw P w K mg base CX0 2 A.cH A.ix ["self","seats"] (Qj A):=SH T
  have p8 : aw P w K mg base CX0 2 A.cz A.hJ ["self"] (fun vs H Q E=>∃ i,JB A K i vs H Q E):=Nc fun i=>Nh T
  have oJ : aw P w K mg base (CXX P w) 3 A.cc A.gv ["self","number"] (fun vs H Q E=>∃ i,DU A K i vs H Q E):=Nc fun i=>Kq T
  refine F.ok kh (fun vs H Q E h=>?_) (fun cdv A' outer s H vs Q E hr h=>?_)
  · obtain ⟨a,ns,rfl,_⟩:=h
    rfl
  · obtain ⟨a,ns,rfl,hS,hlen,q⟩:=h
    have CQ : Room 1 _:=hr.mono (by decide)
    have Eb : Room 1 _:=hr.mono (by decide)
    have Kx : Room 3 _:=hr.mono (by decide)
    have Bq : Room 9 _:=hr.mono (by decide)
    have Ho : Room 2 _:=hr.mono (by decide)
    have zT : Room 3 _:=hr.mono (by decide)
    have oK : Room 2 _:=hr.mono (by decide)
    have nh : Room 3 _:=hr.mono (by decide)
    have Cr:=hr.units
    refine ⟨_,(ao (bA (i:=1) kh.nd rfl (Or.inl rfl) (bK D9 CQ rfl T.wq T.qM.kp T.wo .nil bh (aa (pv 0) (aa ak ah))))
  (ao (bA (i:=2) kh.nd rfl (Or.inl rfl) (cg hZ ak (cg gk (cg rM (pv 1) ak) (aS cq (eB (aa ak (aa (cg Rn ak ak) ah))) (cg gk (pv 1) ak) (fun _ _=>rfl)))))
  (ao (bA (i:=3) kh.nd rfl (Or.inr rfl) (gs T.vo Bp zT rfl T.vn T.gC .nil bh (aa (pv 2) ah)))
  (ao (bA (i:=4) kh.nd rfl (Or.inr rfl) (gs T.vo Bp zT rfl T.vn T.gC .nil bh (aa (pv 2) ah)))
  (ao (bA (i:=5) kh.nd rfl (Or.inl rfl) ak)
  (ao (Ge PassesOwn.never rfl (rL (qw yh (pv 0) (rN ak) (rN ak))) (BA (i:=6) kh.nd rfl (Or.inl rfl))
  (ao (bA (i:=7) kh.nd rfl (Or.inl rfl) (bK Nw Kx rfl T.Dv T.ze.kp T.Du .nil bh (aa (bK Hn Eb rfl T.zc T.sW.kp T.zb .nil bh (aa (pv 6) (aa ak ah))) (aa (pv 2) ah))))
  (ao (bA (i:=8) kh.nd rfl (Or.inl rfl) (pv 7))
  (ao (bU (aI cf (aS aY (pv 7) ak (fun _ _=>rfl)) au (aT _))
  (aj (bA (i:=8) kh.nd rfl (Or.inl rfl) (cQ (aa au (aa (fN d7 (by rfl) T.pA mS (aa (aS aY (pv 7) ak (fun _ _=>rfl)) ah)) ah)))))
  aJ)
  (ao (bA (i:=9) kh.nd rfl (Or.inl rfl) (bK Ea Bq rfl T.zg T.uk.kp T.zf .nil bh (aa (pv 3) (aa (pv 8) (aa qt ah)))))
  (ao (bU (aI (Gw Cr) (pv 8) (pv 7) (aT _))
  (aj (aG qt))
  aJ)
  (ao (bU (aI cf (aS aY (pv 7) ak (fun _ _=>rfl)) au (aT _))
  (aj (cI (LC PySem.F.plainAttrs_list PySem.F.slot_list_clear PySem.F.type_list_clear LH (aS aY (pv 8) ak (fun _ _=>rfl)))))
  aJ)
  (ao (bU (PW.pt (pw_or (u0 (nk (bK Kw Ho rfl T.Ba T.vm.kp T.A9 .nil bh (aa (pv 9) (aa (bK Ea Bq rfl T.zg T.uk.kp T.zf .nil bh (aa (pv 4) (aa (pv 7) (aa qt ah)))) ah))))) (pw_or1 (aI (Gw Cr) (gx (pv 3) T.ai T.kD p8 oK T.fJ .nil bh) (gx (pv 4) T.ai T.kD p8 oK T.fJ .nil bh) (aT _)))))
  (aj (aG qt))
  aJ)
  (aj (bU (PW.pt (pw_and (aI Ro (aS aY (pv 9) ak (fun _ _=>rfl)) By (aT _)) (pw_and1 (aI BH (aS aY (pv 7) ak (fun _ _=>rfl)) (cQ (aa au (aa au (aa au ah)))) rfl))))
  (aj (bA (i:=5) kh.nd rfl (Or.inl rfl) (cg hZ (pv 5) ak)))
  aJ))))))))))
  (aj (aG (cG (LU rfl) (by rfl) T.P7 RK (aa (t8 (scope:=A2) Md rfl (AF rfl T.Cb (aa (pv 5) ah)) (fun _ _ _ _ _=>(mR (OG (K:=K) rfl Cr) (iu (pv 4) T.ai T.js oJ nh T.eT .nil BO (aa (cg hZ (pv 0) ak) ah)) (iu (pv 5) T.ai T.js oJ nh T.eT .nil BO (aa (cg hZ (pv 0) ak) ah)) (aT _)))) ah)))))))))),?_⟩
    have sz : sizeLine = 16777216:=by decide
    refine ⟨_,rfl,a,ns,0,rfl,hS,Int.le_refl _,fun fi=>?_⟩
    refine ⟨_,rfl,_,_,rfl,rfl,⟨by decide,by decide⟩,_,_,rfl,rfl,⟨by decide,by decide,by decide⟩,(by show 2 ≤ sizeLine; decide),fun p hp=>?_⟩
    obtain ⟨qq,hq,q0,q1⟩ : ∃ qq : Int,atI [V.int 9,V.int (10 ^ (9 : Int).toNat)] (fi % 2) = some (.int qq) ∧ 0 < qq ∧ qq ≤ 1000000000:=by
      have h01 : fi % 2 = 0 ∨ fi % 2 = 1:=by omega
      rcases h01 with e | e
      · exact ⟨9,by rw [e]; rfl,by decide,by decide⟩
      · exact ⟨10 ^ (9 : Int).toNat,by rw [e]; rfl,by decide +kernel,by decide +kernel⟩
    refine ⟨_,rfl,_,_,rfl,rfl,(by show (0 : Int) < 2; decide),p,_,_,_,rfl,rfl,SqL.of ae,hq,_,_,rfl,rfl,q0,_,_,rfl,rfl,?_⟩
    have y0 : 0 ≤ fi / 2 % qq:=Int.emod_nonneg _ (by omega)
    have y1 : fi / 2 % qq < qq:=Int.emod_lt_of_pos _ q0
    have sp : bQ H (upd H p (.lst [V.int 9,V.int (10 ^ (9 : Int).toNat)])):=aH hp
    have hS1:=sp.seq hS
    dsimp only [qu]
    generalize upd H p (.lst [V.int 9,V.int (10 ^ (9 : Int).toNat)]) = H1 at hS1 sp ⊢
    obtain ⟨dh,es⟩ : ∃ dh : Int,1 + fi / 2 % qq = dh:=⟨_,rfl⟩
    have t0 : 1 ≤ dh:=by omega
    have t1 : dh ≤ 1000000000:=by omega
    rw [es]
    clear es y0 y1 hq q0 q1 hp sp
    refine ⟨_,rfl,fun o1 d1 ho1 hd1 ne1=>⟨o1,d1,dh,rfl,ae,fun H2 h2=>⟨rfl,?_⟩⟩⟩
    obtain ⟨c1,k1,ch1⟩:=h2 1 (fun _=>none)
    have st1 : Step (fun _=>False) (fun _=>none) c1 H1 H2:=Bo id ho1 hd1 k1
    have sm1 : bQ H1 H2:=fun a v h=>st1.keep a v h id
    have hS2:=sm1.seq hS1
    clear k1 ho1 hd1 ne1 h2 hS1
    refine ⟨_,rfl,fun o2 d2 ho2 hd2 ne2=>⟨o2,d2,dh,rfl,ae,fun H3 h3=>⟨rfl,?_⟩⟩⟩
    obtain ⟨c2,k2,ch2⟩:=h3 2 c1
    have st2 : Step (fun _=>False) c1 c2 H2 H3:=Bo id ho2 hd2 k2
    have sm2 : bQ H2 H3:=fun a v h=>st2.keep a v h id
    have hS3:=sm2.seq hS2
    have XD:=ch1.free (fun _=>id) st2
    clear k2 ho2 hd2 ne2 h3 hS2 st1 st2 sm1 sm2 ch1 H1 H2
    refine ⟨_,rfl,_,rfl,_,rfl,a,_,rfl,hS3,fun l hl=>⟨l,rfl,⟨_,SqL.of ae⟩,?_⟩⟩
    have hcl:=Pk (ns.map V.int)
    have isI : ∀ x ∈ iR (ns.map V.int) (some 1) (some 61),∃ z,x = V.int z:=fun x hx=>by
      obtain ⟨z,_,e⟩:=List.mem_map.mp (JE hx)
      exact ⟨z,e.symm⟩
    have st3 : Step (fun _=>False) c2 (aW c2 l none) H3 (upd H3 l (.lst (iR (ns.map V.int) (some 1) (some 61)))):=Step.new id hl
    have b0 : Base A l o1 o2 (iR (ns.map V.int) (some 1) (some 61)) (aW c2 l none) (upd H3 l (.lst (iR (ns.map V.int) (some 1) (some 61)))) (Ng dh) :=
      ⟨bD,ae,XD.free (fun _=>id) st3,ch2.free (fun _=>id) st3⟩
    have lp0 : LoopAt A l o1 o2 (iR (ns.map V.int) (some 1) (some 61)) 0 0 (upd H3 l (.lst (iR (ns.map V.int) (some 1) (some 61)))):=⟨_,_,b0,Pj dh,rfl⟩
    generalize upd H3 l (.lst (iR (ns.map V.int) (some 1) (some 61))) = H4 at lp0 ⊢
    clear b0 st3 XD ch2 hS3 hl
    generalize iR (ns.map V.int) (some 1) (some 61) = cs at lp0 hcl isI ⊢
    refine CW (K:=K) (a:=l) (xs:=cs) (fun j σ Hj=>∃ (many : Int) (v6 v7 v8 v9 : Option V),σ = [some (.ref a),some (.int fi),some (.int dh),some (.ref o1),some (.ref o2),some (.int many),v6,v7,v8,v9] ∧ LoopAt A l o1 o2 cs j many Hj)
      ⟨0,_,_,_,_,rfl,lp0⟩ (fun j σ Hj _ ⟨_,_,_,_,_,_,_,_,b,_⟩=>SqL.of b.hl) ?_ ?_
    · rintro j y σ Hj hy ⟨many,v6,v7,v8,v9,rfl,c,st,b,I,em⟩
      obtain ⟨z,rfl⟩:=isI _ (List.mem_of_getElem? hy)
      have jl : j < cs.length:=(List.getElem?_eq_some_iff.mp hy).1
      have hN : 3 * j ≤ 800:=by omega
      refine ⟨_,rfl,z,3,rfl,by decide,by decide,fun zs pz H5 zl hz s5 npz hpz=>?_⟩
      obtain ⟨z0,z1,z2,rfl⟩ : ∃ z0 z1 z2,zs = [z0,z1,z2]:=by
        match zs,zl with
        | [z0,z1,z2],_=>exact ⟨z0,z1,z2,rfl⟩
        | [],h=>exact absurd h (by decide)
        | [_],h=>exact absurd h (by simp)
        | [_,_],h=>exact absurd h (by simp)
        | _ :: _ :: _ :: _ :: _,h=>simp at h; omega
      have p0:=(hz z0 (by simp)).1
      have p1:=(hz z1 (by simp)).1
      have p2:=(hz z2 (by simp)).1
      refine ⟨_,rfl,pz,z0,z1,z2,dh,rfl,SqL.of hpz,⟨p0,p1,p2⟩,t0,t1,fun d t H6 hd s6 hdn=>?_⟩
      have s56:=s5.trans s6
      have hz6 : p7 (hX c Hj) H6 d t:=(hdn.pre s5).z
      have b6:=b.free (fun _=>id) (fun _=>id) (Step.cl (W:=fun _=>False) id s56)
      generalize hX c Hj = c6 at hz6 b6
      clear s56 s5 s6 hdn hpz npz hz zl
      refine ⟨_,rfl,?_⟩
      obtain ⟨xs6,hk6⟩:=hz6.kind
      have at0 : ∀ xs : List V,atI (V.str (R.m8 d) :: xs) 0 = some (.str (R.m8 d)):=fun xs=>oY (j:=0) rfl
      dsimp only [qu]
      refine CF (fun σ' H'=>∃ (c7 : Col) (t2 : Addr),σ' = [some (.ref a),some (.int fi),some (.int dh),some (.ref o1),some (.ref o2),some (.int many),some (.int z),some (.ref t),some (.ref t2),v9] ∧ Base A l o1 o2 cs c7 H' st ∧ p7 c7 H' d t ∧ vO c7 H' d t t2) ?r1 (fun N nN=>?f1)
      case f1 =>
        refine ⟨_,rfl,t,_,_,_,rfl,rfl,SqT.of hk6,at0 _,rfl,_,rfl,?_⟩
        rw [D8 hd]
        cases hm : isM d with
        | false=>exact eD (nN _ _ ⟨c6,t,rfl,b6,hz6,.inl ⟨hm,rfl⟩⟩)
        | true =>
          obtain ⟨cs',rfl⟩ : ∃ cs',d = .mat cs':=by cases d <;> first | exact ⟨_,rfl⟩ | cases hm
          obtain ⟨L,ht,hLc,hL⟩:=hz6
          refine jO ⟨_,rfl,t,_,_,_,rfl,rfl,SqT.of ht.2,rfl,L,_,rfl,.inl (SqL.of hL),fun L2 hL2=>⟨(by show 2 ≤ sizeLine; decide),fun t2 ht2=>?_⟩⟩
          have n2 : L2 ≠ t2:=aV ae ht2
          have st7 : Step (fun _=>False) c6 (aW (aW c6 L2 (some (0,.rows))) t2 none) H6 _:=(Step.new (x:=some (0,.rows)) id hL2).trans (Step.new (o:=.tup [V.str (Str.ofString "matter"),.ref L2]) id ht2)
          exact nN _ _ ⟨_,t2,rfl,b6.free (fun _=>id) (fun _=>id) st7,p7.step st7 (d:=.mat cs') ⟨L,ht,hLc,hL⟩,.inr ⟨cs',L2,rfl,bD,ae,by rw [av n2,bD],(aq n2).trans ae⟩⟩
      case r1 =>
        rintro σ7 H7 ⟨c7,t2,rfl,b7,hz7,hh7⟩
        refine ⟨_,rfl,_,rfl,1,o1,t2,false,c7,st,3 * j,d,rfl,b7.one,I,hN,hd,hh7.XC (by decide) hz7,fun c8 H8 p v s8 XE ht8=>?_⟩
        have XF:=b7.two.other (by decide) s8
        have kl8:=i9 s8 b7.cl b7.hl
        have hz8:=hz7.step s8
        have hh8:=hh7.step (by decide) s8
        have I8:=I.fg hN hd
        have rok:=Nj I hN hd
        have ls:=Nv (st:=st) hd
        clear hz6 hk6 b6 b7 hz7 hh7 s8
        refine ⟨_,rfl,_,rfl,j4 d,j4 d,JJ hd (hh8.XC (i:=1) (by decide) hz8),JJ hd (hz8.c (i:=1)),lF (zS hd) (D7 d),lF (zS hd) (D7 d),_,rfl,?_⟩
        rw [eqv_refl _ (zS hd)]
        refine eD ?_
        obtain ⟨xs8,hk8⟩:=hz8.kind
        dsimp only [qu,PR]
        refine CF (fun σ' H'=>σ' = [some (.ref a),some (.int fi),some (.int dh),some (.ref o1),some (.ref o2),some (.int many),some (.int z),some (.ref t),some (.ref t2),some (.ref p)] ∧ Step (hU 0) c8 c8 H8 H') ?r2 (fun N nN=>?f2)
        case f2 =>
          refine ⟨_,rfl,t,_,_,_,rfl,rfl,SqT.of hk8,at0 _,rfl,_,rfl,?_⟩
          rw [D8 hd]
          cases hm : isM d with
          | false=>exact eD (nN _ _ ⟨rfl,Step.refl a6⟩)
          | true =>
            rcases hh8 with ⟨e,_⟩ | ⟨cs',L2,_,h1,h2,h3,h4⟩
            · rw [hm] at e; cases e
            · refine jO ⟨_,rfl,t2,_,_,_,rfl,rfl,SqT.of h2,rfl,.inl ⟨rfl,_,SqL.of h4⟩,L2,_,rfl,rfl,h4,?_⟩
              exact nN _ _ ⟨rfl,Step.upd a6 ⟨.rows,h3⟩⟩
        case r2 =>
          rintro σ9 H9 ⟨rfl,s9⟩
          have XG:=XE.other (by decide) s9
          have XH:=XF.other (by decide) s9
          have kl9:=i9 s9 kl8.1 kl8.2
          have hz9:=hz8.step s9
          have ht9:=ht8.step s9
          clear hz8 hk8 hh8 XE XF kl8 ht8 s9
          refine ⟨_,rfl,_,rfl,_,rfl,2,o2,t,true,c8,st,3 * j,d,rfl,XH,I,hN,hd,hz9.c,fun c10 H10 p2 v2 s10 Qm XI=>?_⟩
          have Qn:=XG.other (by decide) s10
          have SS:=i9 s10 kl9.1 kl9.2
          have XJ:=hz9.step s10
          have Nx:=ht9.step s10
          clear XG XH kl9 hz9 ht9 s10
          refine ⟨c10,(fg st d).1,p,p2,v,v2,rfl,Nx,XI,rok,fun H11 s11=>⟨_,rfl,eD ?_⟩⟩
          have al:=I8.Na
          have l3:=I8.lm
          have pl:=I8.pil.Kj
          rw [List.length_map] at pl
          have dl:=I8.ld
          obtain ⟨dx1,aM1,aP1,aA1,aD1,aF1,aE1,aR1,ms1,ds1,ws1,fs1,es1,X1⟩:=Qn.ex
          obtain ⟨dx2,aM2,aP2,aA2,aD2,aF2,aE2,aR2,ms2,ds2,ws2,fs2,es2,X2⟩:=Qm.ex
          refine ⟨_,rfl,o1,dx1,_,rfl,s11 _ _ X1.ob,cU (by decide +kernel),1,o1,c10,_,rfl,(X1.same s11).at,by omega,by omega,by omega,fun ns1 u1 H12 pm1 so1 s12 dv1=>?_⟩
          have Pl:=s11.trans s12
          refine ⟨_,rfl,o2,dx2,_,rfl,Pl _ _ X2.ob,cU (by decide +kernel),2,o2,c10,_,rfl,(X2.same Pl).at,by omega,by omega,by omega,fun ns2 u2 H13 pm2 so2 s13 dv2=>?_⟩
          have e12 : ns1 = ns2:=wI (pm1.trans pm2.symm) so1 so2
          subst e12
          refine ⟨stD _ ns1,stD _ ns1,DV.same s13 _ dv1,dv2,lF (Hh I8 ns1) (Nr _ ns1),lF (Hh I8 ns1) (Nr _ ns1),_,rfl,?_⟩
          rw [eqv_refl _ (Hh I8 ns1)]
          refine eD ?_
          have Br:=Pl.trans s13
          have b13 : Base A l o1 o2 cs c10 H13 (fg st d).2:=⟨SS.1,Br _ _ SS.2,(X1.same Br).at,(X2.same Br).at⟩
          obtain ⟨ad4,acb⟩:=(XJ.step (Step.same (W:=fun _=>False) id Br)).kind
          have XM:=Nx.step (Step.same (W:=fun _=>False) id Br)
          clear dv1 dv2 s13 Pl s12 s11 Br X1 X2 Qn Qm XJ XI Nx SS
          refine ⟨_,rfl,p,_,_,_,rfl,rfl,SqT.of XM.2.1,rfl,rfl,_,rfl,?_⟩
          rw [Hm XM.2.2]
          cases hx : isX (fg st d).1 with
          | true =>
            rw [if_neg (fun y=>by rw [hx] at y; exact absurd y.1 (by decide))] at ls
            exact eD (eD ⟨many,_,_,_,_,rfl,c10,_,b13,I8,by omega⟩)
          | false =>
            refine jO ⟨_,rfl,t,_,_,_,rfl,rfl,SqT.of acb,at0 _,(by show 3 ≤ sizeLine; decide),fun u hu=>⟨u,_,rfl,.inr (SqT.of ae),rfl,rfl,_,rfl,?_⟩⟩
            have ein : (if true = true then !inV (V.str (R.m8 d)) [V.str (Str.ofString "vote"),V.str (Str.ofString "drop"),V.str (Str.ofString "take")] else inV (V.str (R.m8 d)) [V.str (Str.ofString "vote"),V.str (Str.ofString "drop"),V.str (Str.ofString "take")]) = CP d:=(if_pos rfl).trans (Ph hd)
            rw [ein]
            have b14 : Base A l o1 o2 cs c10 (upd H13 u (.tup [V.str (Str.ofString "vote"),V.str (Str.ofString "drop"),V.str (Str.ofString "take")])) (fg st d).2:=b13.free (fun _=>id) (fun _=>id) (Step.same (W:=fun _=>False) id (aH hu))
            cases hmv : CP d with
            | true =>
              rw [if_pos ⟨hx,hmv⟩] at ls
              exact jO ⟨_,rfl,_,_,rfl,rfl,many + 1,_,_,_,_,rfl,c10,_,b14,I8,by omega⟩
            | false =>
              rw [if_neg (fun y=>by rw [hmv] at y; exact absurd y.2 (by decide))] at ls
              exact eD ⟨many,_,_,_,_,rfl,c10,_,b14,I8,by omega⟩
    · rintro σ Hj ⟨many,v6,v7,v8,v9,rfl,c,st,b,I,em⟩
      subst em
      have lm:=I.lm
      have jl : cs.length ≤ 60:=hcl
      refine ⟨_,rfl,_,rfl,by omega,by omega,fun Rr hR=>?_⟩
      obtain ⟨dx1,aM1,aP1,aA1,aD1,aF1,aE1,aR1,ms1,ds1,ws1,fs1,es1,X1⟩:=b.one.ex
      obtain ⟨dx2,aM2,aP2,aA2,aD2,aF2,aE2,aR2,ms2,ds2,ws2,fs2,es2,X2⟩:=b.two.ex
      refine Gz (lo:=0) (n:=st.made.length) (fun k ys H2=>bQ Hj H2 ∧ H2 Rr = some (.lst ys) ∧ ys = (List.replicate k true).map V.bl) ⟨aH hR,ae,rfl⟩ (by omega) ?_ ?_ ?_
      · rintro k ys H2 hk ⟨s2,hR2,rfl⟩
        exact ⟨hR2,by rw [List.length_map,List.length_replicate]⟩
      · rintro k ys H2 hk ⟨s2,hR2,rfl⟩
        have ek : 0 + (k : Int) + 1 = ((k + 1 : Nat) : Int):=by omega
        have hn : gO st (k + 1):=⟨by omega,by omega⟩
        have e10 : (10 : Nat) ^ 10 = 10000000000:=by decide
        have hmo:=I.DO hn
        refine ⟨_,rfl,o1,dx1,_,rfl,s2 _ _ X1.ob,cU (by decide +kernel),_,rfl,_,_,rfl,rfl,1,o1,k + 1,c,st,by unfold nV; rw [← ek]; rfl,(X1.same s2).at,by omega,fun _ u1 H3 s3 dv1=>?_,fun z=>absurd hn z⟩
        have s23:=s2.trans s3
        refine ⟨_,rfl,o2,dx2,_,rfl,s23 _ _ X2.ob,cU (by decide +kernel),_,rfl,_,_,rfl,rfl,2,o2,k + 1,c,st,by unfold nV; rw [← ek]; rfl,(X2.same s23).at,by omega,fun _ u2 H4 s4 dv2=>?_,fun z=>absurd hn z⟩
        refine ⟨mnD _,mnD _,DV.same s4 _ dv1,dv2,lF (Hl hmo) (Nu _),lF (Hl hmo) (Nu _),?_⟩
        rw [eqv_refl _ (Hl hmo)]
        refine gz.mk hk ((s3.trans s4) _ _ hR2) ⟨(s23.trans s4).own hR,ae,?_⟩
        rw [List.replicate_succ',List.map_append]; rfl
      · rintro ys H2 ⟨s2,hR2,rfl⟩
        refine ⟨Rr,List.replicate st.made.length true,rfl,SqL.of hR2,?_⟩
        rw [show (List.replicate st.made.length true).all id = true by simp]
        exact q H2
end
end My
set_option maxHeartbeats 1000000
namespace My
open PySem L2
seal PySem.wpAny
set_option maxHeartbeats 0 in
theorem all_mk {l : PySem.W.OpenLaw} {w : World} {K : PySem.W.Frag} {h : Heap} {mg : Str → Option Value} {P : Params} {fa f_1 f_2 f_3 f_4 f_5 f_6 f_7 f_8 f_9 Pm Pn Po Pp Pq Pr Pt Pu Pw Px Py Pz PB PD PF PH PK PL SU c0 c1 c2 c3 c4 c5 c6 c7 cm tb Ec Ee Ef Eg Eh Ei Ej Ek xa zU El Hq Em En Eo Ep Er Es Et Eu Ew Ex bc cH cu cv cw cx cz cc bP bG aQ aZ bR bf bN bj bp bO aK b9 bB a9 bb aX bu bw bx bC bT mD ja mE : Addr} (X : K.In h) (G : h.Ns mainGlobals mg) (hfa : mg "law" = some (.ref fa)) (hP : w.params = P)
    {acd ace acf acg ach aci acj ack acn aco acp acq acr acs acu acv acw acx XN XO XQ XR XS XT XU XW XX XY XZ X0 X9 Ya Yb Yc Yd Ye Yf Yg Yh Yi Yj Yk Yl Ym Yn Yo Yp Yq Yr Ys Yt Yu Yv Yw Yx Qo SV SW SX SY S0 S1 S2 S3 S4 S5 S6 S7 S8 S9 Ta Tb Yy Yz YA YB Tc Td YC YD Te Tf Tg Th Ti Tj Tn To Tp Tq Tr Ts Tt Tu Tv Tw Tx Tz TB TC xb xc xg xh xj xl xm xn xp xq vP vQ uK uL tI tJ qi qj jz jA mF mG uM uN oM oN rj rm nC nD nF nG rn rp Ey Ez Aw Ax EA EB : Option Addr} {acy acz acA acB acC acD acE acF acG YE YF YG YH YI YJ YK YL YM YN YO YQ YR YS YT YU YV YW YX TF TH TK TL TM TN TQ TR YY YZ TU Y0 TV TX TY TZ T2 T3 T4 T5 T6 T7 xr xt xu xw xx vR uO tK qk jB mH uP oO rq nH nI rz EC Ay ED : Array (Option Value)} {acH acI acJ acK Y1 acL acM acN acO acP Y2 acQ acR acS acT acU Y3 acV acW acX acY acZ Y4 ac8 ac9 ada adb ade Y5 adf adg adh adi adj Y6 adk adl adn ado adp Y7 adq ads adt adu adv Y8 adw adx ady adz adA Y9 adB Za Zb Zc Zd Qp Ze Zf Zg Zh Zi Qq Zj Zk Zl Zm Zn Qr Zo Zp Zq Zr Zs Qs Zt Zu Zv Zw Zx Qt Zy Zz ZA ZC ZD Qu ZE ZF ZG ZH ZI Qv ZJ ZK ZL ZM ZN Qw ZO ZP ZQ ZR ZS Qx ZT ZU ZV ZW ZX Qy ZY ZZ Z0 Z1 Z2 Qz Z3 Z4 Z5 Z6 Z7 QA Z8 Z9 aaa aab aac QB aad aae aaf aag aah QC aai aaj aak aal aam QD aan aao aap aaq aar QE aas aat aau aav aaw QF aax aay aaz aaA aaB QG aaC aaD QH QI QJ Ny QK T8 T9 Ua Ub Nz Uc Ud Ue Ug Uh NA Ui Uj Uk Ul Um NB Uo Up Uq Ur Us NC Ut Uu Uv Uw Ux ND Uy Uz UA UB UC NF UD UE UG UH UI NG UJ UK UL UM UN NH UO aaE aaF aaG aaH QL aaI aaJ aaK aaL aaM QM aaN UP UQ UR US NI UT aaO aaP aaQ aaR QN aaS UU UW UX UY NJ UZ U0 U4 U5 U6 NK U7 U8 U9 Va Vb NL Vc Vd Ve Vf Vg NM Vh Vi Vj Vk Vl NN Vm Vn Vo Vp Vq NO Vr Vs Vt Vu Vv NP Vw Vx Vy Vz VA NQ VB VC VD VE VF NR VG VH VI VJ VL NS VM xy xA xB xC p9 xD xE xF xG xH qa xI xJ xK xM xN qb xO xP xQ xR xS qc xT xU xV xW xX qd xY vS vT vU vV oQ vW uQ uR uS uT ni uU tL tM tN tO mI tP ql qm qo qp je qr jC jD jE jF eY jG mJ mK mL mM gQ mO uV uW uX uY nj uZ oR oS oU oV iQ oW rA rB rC rD j5 rE nJ nK nL nM iq nO nP nQ nR nS ir nU rF rG rH rJ j6 rK EE EF EG EH wJ EI Az AA AB AD sO AE EJ EK EL EM wK EN : Value} {jK tr0 tr1 tr2 tr3 tr4 tr5 tr6 tr7 : Tok} {est : Array DictEntry} {nt : Nat} {CS : Addr} {NT : Value} {NU : Option Addr} {EO : Array DictEntry} {NV : Nat} {NW : Array (Option Value)} {mP : Addr} {xZ : Value} {ya : Option Addr} {qe : Array DictEntry} {yb : Nat} {yc : Array (Option Value)} {tQ : Addr} {ER : Value} {ES : Option Addr} {wL : Array DictEntry} {ET : Nat} {EU : Array (Option Value)} {tR : Addr} {EV : Value} {EW : Option Addr} {wM : Array DictEntry} {EX : Nat} {EY : Array (Option Value)} {vX : Addr} {Hr : Value} {Hs : Option Addr} {zV : Array DictEntry} {Ht : Nat} {Hu : Array (Option Value)} {vY : Addr} {Hv : Value} {Hw : Option Addr} {zW : Array DictEntry} {Hx : Nat} {Hy : Array (Option Value)} {vZ : Addr} {Hz : Value} {HA : Option Addr} {zX : Array DictEntry} {HB : Nat} {HC : Array (Option Value)} {tS : Addr} {EZ : Value} {E1 : Option Addr} {wN : Array DictEntry} {E2 : Nat} {E3 : Array (Option Value)} {zY : Addr} {Ky : Value} {Kz : Option Addr} {Bs : Array DictEntry} {KA : Nat} {KC : Array (Option Value)} {tT : Addr} {E4 : Value} {E5 : Option Addr} {wO : Array DictEntry} {E6 : Nat} {E7 : Array (Option Value)} {zZ : Addr} {KD : Value} {KG : Option Addr} {Bt : Array DictEntry} {KH : Nat} {KI : Array (Option Value)} {NX PM : Str} {NY : List Value} {NZ : List Str} {N0 : List Value} {N1 : Bool} {N2 : Option Bool} {N3 : Option Addr} {N4 N5 N6 N7 N8 : Option Value} {N9 : Bool}{Oa : ClassData} {E8 HD : Str} {E9 : List Value} {Fb : List Str} {Fc : List Value} {Fd : Bool} {Fe : Option Bool} {Ff : Option Addr} {Fg Fh Fi Fj Fl : Option Value} {Fm : Bool}{Fn : ClassData} {Fo HE : Str} {Fp : List Value} {Fq : List Str} {Fs : List Value} {Ft : Bool} {Fu : Option Bool} {Fv : Option Addr} {Fw Fx Fy Fz FA : Option Value} {FC : Bool}{FD : ClassData} {HF KJ : Str} {HG : List Value} {HI : List Str} {HJ : List Value} {HK : Bool} {HL : Option Bool} {HM : Option Addr} {HN HP HQ HR HS : Option Value} {HU : Bool}{HV : ClassData} {HW KL : Str} {HX : List Value} {HY : List Str} {HZ : List Value} {Ia : Bool} {Ib : Option Bool} {Ic : Option Addr} {Ie Ig Ih Ii Ij : Option Value} {Ik : Bool}{Il : ClassData} {Im KN : Str} {Io : List Value} {Ip : List Str} {Iq : List Value} {Ir : Bool} {Iu : Option Bool} {Iv : Option Addr} {Iw Iy Iz IA IB : Option Value} {IC : Bool}{ID : ClassData} {FE IE : Str} {FF : List Value} {FG : List Str} {FH : List Value} {FI : Bool} {FJ : Option Bool} {FK : Option Addr} {FL FN FO FP FQ : Option Value} {FR : Bool}{FT : ClassData} {KO Ob : Str} {KP : List Value} {KQ : List Str} {KR : List Value} {KS : Bool} {KU : Option Bool} {KW : Option Addr} {KY KZ K0 K1 K2 : Option Value} {K4 : ClassData} {FU IF : Str} {FV : List Value} {FW : List Str} {FX : List Value} {FY : Bool} {FZ : Option Bool} {F0 : Option Addr} {F2 F3 F4 F5 F6 : Option Value} {F7 : ClassData} {K5 Oc : Str} {K6 : List Value} {K7 : List Str} {K8 : List Value} {K9 : Bool} {La : Option Bool} {Lb : Option Addr} {Lc Ld Le Lf Lg : Option Value} {Lh : ClassData} {Aa : Value} {yd : Option Addr} {qf : ClassData} {ye : Array (Option Value)}
    (a_1 : PySem.W.nsIn K mainGlobals "fits" = some (some (.ref f_1)))
    (l_1 : K.lookup f_1 = some ⟨acH,acd,.func (PySem.W.fnOf "fits" "fits" (az vc) (ax vc) (af vc) .none acI acJ acK ace Y1 acL),acy⟩)
    (cc_1 : PySem.W.codeIn K Y1 "fits" = true)
    (kp_1 : PySem.W.keepIn K (.ref f_1) = true)
    (a_2 : PySem.W.nsIn K mainGlobals "require_fit" = some (some (.ref f_2)))
    (l_2 : K.lookup f_2 = some ⟨acM,acf,.func (PySem.W.fnOf "require_fit" "require_fit" (az gf) (ax gf) (af gf) .none acN acO acP acg Y2 acQ),acz⟩)
    (cc_2 : PySem.W.codeIn K Y2 "require_fit" = true)
    (kp_2 : PySem.W.keepIn K (.ref f_2) = true)
    (a_3 : PySem.W.nsIn K mainGlobals "laid" = some (some (.ref f_3)))
    (l_3 : K.lookup f_3 = some ⟨acR,ach,.func (PySem.W.fnOf "laid" "laid" (az vd) (ax vd) (af vd) .none acS acT acU aci Y3 acV),acA⟩)
    (cc_3 : PySem.W.codeIn K Y3 "laid" = true)
    (kp_3 : PySem.W.keepIn K (.ref f_3) = true)
    (a_4 : PySem.W.nsIn K mainGlobals "words_of" = some (some (.ref f_4)))
    (l_4 : K.lookup f_4 = some ⟨acW,acj,.func (PySem.W.fnOf "words_of" "words_of" (az jj) (ax jj) (af jj) .none acX acY acZ ack Y4 ac8),acB⟩)
    (cc_4 : PySem.W.codeIn K Y4 "words_of" = true)
    (kp_4 : PySem.W.keepIn K (.ref f_4) = true)
    (a_5 : PySem.W.nsIn K mainGlobals "clause_of" = some (some (.ref f_5)))
    (l_5 : K.lookup f_5 = some ⟨ac9,acn,.func (PySem.W.fnOf "clause_of" "clause_of" (az iJ) (ax iJ) (af iJ) .none ada adb ade aco Y5 adf),acC⟩)
    (cc_5 : PySem.W.codeIn K Y5 "clause_of" = true)
    (kp_5 : PySem.W.keepIn K (.ref f_5) = true)
    (a_6 : PySem.W.nsIn K mainGlobals "motion_of" = some (some (.ref f_6)))
    (l_6 : K.lookup f_6 = some ⟨adg,acp,.func (PySem.W.fnOf "motion_of" "motion_of" (az iK) (ax iK) (af iK) .none adh adi adj acq Y6 adk),acD⟩)
    (cc_6 : PySem.W.codeIn K Y6 "motion_of" = true)
    (kp_6 : PySem.W.keepIn K (.ref f_6) = true)
    (a_7 : PySem.W.nsIn K mainGlobals "bar_of" = some (some (.ref f_7)))
    (l_7 : K.lookup f_7 = some ⟨adl,acr,.func (PySem.W.fnOf "bar_of" "bar_of" (az oa) (ax oa) (af oa) .none adn ado adp acs Y7 adq),acE⟩)
    (cc_7 : PySem.W.codeIn K Y7 "bar_of" = true)
    (kp_7 : PySem.W.keepIn K (.ref f_7) = true)
    (a_8 : PySem.W.nsIn K mainGlobals "has_matter" = some (some (.ref f_8)))
    (l_8 : K.lookup f_8 = some ⟨ads,acu,.func (PySem.W.fnOf "has_matter" "has_matter" (az fj) (ax fj) (af fj) .none adt adu adv acv Y8 adw),acF⟩)
    (cc_8 : PySem.W.codeIn K Y8 "has_matter" = true)
    (kp_8 : PySem.W.keepIn K (.ref f_8) = true)
    (a_9 : PySem.W.nsIn K mainGlobals "can_be_mended" = some (some (.ref f_9)))
    (l_9 : K.lookup f_9 = some ⟨adx,acw,.func (PySem.W.fnOf "can_be_mended" "can_be_mended" (az d4) (ax d4) (af d4) .none ady adz adA acx Y9 adB),acG⟩)
    (cc_9 : PySem.W.codeIn K Y9 "can_be_mended" = true)
    (kp_9 : PySem.W.keepIn K (.ref f_9) = true)
    (a_10 : PySem.W.nsIn K mainGlobals "has_what_it_needs" = some (some (.ref Pm)))
    (l_10 : K.lookup Pm = some ⟨Za,XN,.func (PySem.W.fnOf "has_what_it_needs" "has_what_it_needs" (az cX) (ax cX) (af cX) .none Zb Zc Zd XO Qp Ze),YE⟩)
    (jq7j : PySem.W.codeIn K Qp "has_what_it_needs" = true)
    (jq7k : PySem.W.keepIn K (.ref Pm) = true)
    (a_11 : PySem.W.nsIn K mainGlobals "require_in_order" = some (some (.ref Pn)))
    (l_11 : K.lookup Pn = some ⟨Zf,XQ,.func (PySem.W.fnOf "require_in_order" "require_in_order" (az cZ) (ax cZ) (af cZ) .none Zg Zh Zi XR Qq Zj),YF⟩)
    (jq7l : PySem.W.codeIn K Qq "require_in_order" = true)
    (jq7m : PySem.W.keepIn K (.ref Pn) = true)
    (a_12 : PySem.W.nsIn K mainGlobals "words_of_text" = some (some (.ref Po)))
    (l_12 : K.lookup Po = some ⟨Zk,XS,.func (PySem.W.fnOf "words_of_text" "words_of_text" (az d5) (ax d5) (af d5) .none Zl Zm Zn XT Qr Zo),YG⟩)
    (jq7n : PySem.W.codeIn K Qr "words_of_text" = true)
    (jq7o : PySem.W.keepIn K (.ref Po) = true)
    (a_13 : PySem.W.nsIn K mainGlobals "words_of_edit" = some (some (.ref Pp)))
    (l_13 : K.lookup Pp = some ⟨Zp,XU,.func (PySem.W.fnOf "words_of_edit" "words_of_edit" (az d6) (ax d6) (af d6) .none Zq Zr Zs XW Qs Zt),YH⟩)
    (jq7p : PySem.W.codeIn K Qs "words_of_edit" = true)
    (jq7q : PySem.W.keepIn K (.ref Pp) = true)
    (a_14 : PySem.W.nsIn K mainGlobals "words_behind" = some (some (.ref Pq)))
    (l_14 : K.lookup Pq = some ⟨Zu,XX,.func (PySem.W.fnOf "words_behind" "words_behind" (az dP) (ax dP) (af dP) .none Zv Zw Zx XY Qt Zy),YI⟩)
    (jq7r : PySem.W.codeIn K Qt "words_behind" = true)
    (jq7s : PySem.W.keepIn K (.ref Pq) = true)
    (a_15 : PySem.W.nsIn K mainGlobals "show_deed" = some (some (.ref Pr)))
    (l_15 : K.lookup Pr = some ⟨Zz,XZ,.func (PySem.W.fnOf "show_deed" "show_deed" (az iL) (ax iL) (af iL) .none ZA ZC ZD X0 Qu ZE),YJ⟩)
    (jq7t : PySem.W.codeIn K Qu "show_deed" = true)
    (jq7u : PySem.W.keepIn K (.ref Pr) = true)
    (a_16 : PySem.W.nsIn K mainGlobals "is_kept" = some (some (.ref Pt)))
    (l_16 : K.lookup Pt = some ⟨ZF,X9,.func (PySem.W.fnOf "is_kept" "is_kept" (az lq) (ax lq) (af lq) .none ZG ZH ZI Ya Qv ZJ),YK⟩)
    (jq7v : PySem.W.codeIn K Qv "is_kept" = true)
    (jq7w : PySem.W.keepIn K (.ref Pt) = true)
    (a_17 : PySem.W.nsIn K mainGlobals "do_deed" = some (some (.ref Pu)))
    (l_17 : K.lookup Pu = some ⟨ZK,Yb,.func (PySem.W.fnOf "do_deed" "do_deed" (az lu) (ax lu) (af lu) .none ZL ZM ZN Yc Qw ZO),YL⟩)
    (jq7x : PySem.W.codeIn K Qw "do_deed" = true)
    (jq7y : PySem.W.keepIn K (.ref Pu) = true)
    (a_18 : PySem.W.nsIn K mainGlobals "_law_cell_at" = some (some (.ref Pw)))
    (l_18 : K.lookup Pw = some ⟨ZP,Yd,.func (PySem.W.fnOf "_law_cell_at" "_law_cell_at" (az iM) (ax iM) (af iM) .none ZQ ZR ZS Ye Qx ZT),YM⟩)
    (jq7z : PySem.W.codeIn K Qx "_law_cell_at" = true)
    (jq7A : PySem.W.keepIn K (.ref Pw) = true)
    (a_19 : PySem.W.nsIn K mainGlobals "_law_stream" = some (some (.ref Px)))
    (l_19 : K.lookup Px = some ⟨ZU,Yf,.func (PySem.W.fnOf "_law_stream" "_law_stream" (az jm) (ax jm) (af jm) .none ZV ZW ZX Yg Qy ZY),YN⟩)
    (jq7B : PySem.W.codeIn K Qy "_law_stream" = true)
    (jq7C : PySem.W.keepIn K (.ref Px) = true)
    (a_20 : PySem.W.nsIn K mainGlobals "_law_clause" = some (some (.ref Py)))
    (l_20 : K.lookup Py = some ⟨ZZ,Yh,.func (PySem.W.fnOf "_law_clause" "_law_clause" (az jn) (ax jn) (af jn) .none Z0 Z1 Z2 Yi Qz Z3),YO⟩)
    (jq7D : PySem.W.codeIn K Qz "_law_clause" = true)
    (jq7E : PySem.W.keepIn K (.ref Py) = true)
    (a_21 : PySem.W.nsIn K mainGlobals "_law_edit" = some (some (.ref Pz)))
    (l_21 : K.lookup Pz = some ⟨Z4,Yj,.func (PySem.W.fnOf "_law_edit" "_law_edit" (az oi) (ax oi) (af oi) .none Z5 Z6 Z7 Yk QA Z8),YQ⟩)
    (jq7F : PySem.W.codeIn K QA "_law_edit" = true)
    (jq7G : PySem.W.keepIn K (.ref Pz) = true)
    (a_22 : PySem.W.nsIn K mainGlobals "_law_deed" = some (some (.ref PB)))
    (l_22 : K.lookup PB = some ⟨Z9,Yl,.func (PySem.W.fnOf "_law_deed" "_law_deed" (az lP) (ax lP) (af lP) .none aaa aab aac Ym QB aad),YR⟩)
    (jq7H : PySem.W.codeIn K QB "_law_deed" = true)
    (jq7I : PySem.W.keepIn K (.ref PB) = true)
    (a_23 : PySem.W.nsIn K mainGlobals "_law_by_method" = some (some (.ref PD)))
    (l_23 : K.lookup PD = some ⟨aae,Yn,.func (PySem.W.fnOf "_law_by_method" "_law_by_method" (az gh) (ax gh) (af gh) .none aaf aag aah Yo QC aai),YS⟩)
    (jq7J : PySem.W.codeIn K QC "_law_by_method" = true)
    (jq7K : PySem.W.keepIn K (.ref PD) = true)
    (a_24 : PySem.W.nsIn K mainGlobals "_law_told" = some (some (.ref PF)))
    (l_24 : K.lookup PF = some ⟨aaj,Yp,.func (PySem.W.fnOf "_law_told" "_law_told" (az oo) (ax oo) (af oo) .none aak aal aam Yq QD aan),YT⟩)
    (jq7L : PySem.W.codeIn K QD "_law_told" = true)
    (jq7M : PySem.W.keepIn K (.ref PF) = true)
    (a_25 : PySem.W.nsIn K mainGlobals "_law_class" = some (some (.ref PH)))
    (l_25 : K.lookup PH = some ⟨aao,Yr,.func (PySem.W.fnOf "_law_class" "_law_class" (az lx) (ax lx) (af lx) .none aap aaq aar Ys QE aas),YU⟩)
    (jq7N : PySem.W.codeIn K QE "_law_class" = true)
    (jq7O : PySem.W.keepIn K (.ref PH) = true)
    (a_26 : PySem.W.nsIn K mainGlobals "_law_value" = some (some (.ref PK)))
    (l_26 : K.lookup PK = some ⟨aat,Yt,.func (PySem.W.fnOf "_law_value" "_law_value" (az ly) (ax ly) (af ly) .none aau aav aaw Yu QF aax),YV⟩)
    (jq7P : PySem.W.codeIn K QF "_law_value" = true)
    (jq7Q : PySem.W.keepIn K (.ref PK) = true)
    (a_27 : PySem.W.nsIn K mainGlobals "_law_alike" = some (some (.ref PL)))
    (l_27 : K.lookup PL = some ⟨aay,Yv,.func (PySem.W.fnOf "_law_alike" "_law_alike" (az lz) (ax lz) (af lz) .none aaz aaA aaB Yw QG aaC),YW⟩)
    (jq7R : PySem.W.codeIn K QG "_law_alike" = true)
    (jq7S : PySem.W.keepIn K (.ref PL) = true)
    (a_28 : PySem.W.nsIn K mainGlobals "law" = some (some (.ref SU)))
    (l_28 : K.lookup SU = some ⟨aaD,Yx,.func (PySem.W.fnOf "law" "law" (az sF) (ax sF) (af sF) .none QH QI QJ Qo Ny QK),YX⟩)
    (jq7T : PySem.W.codeIn K Ny "law" = true)
    (jq7U : PySem.W.keepIn K (.ref SU) = true)
    (z1 : PySem.W.nsIn K mainGlobals "range" = some none)
    (z2 : PySem.W.nsIn K mainGlobals "list" = some none)
    (z3 : PySem.W.nsIn K mainGlobals "isinstance" = some none)
    (z4 : PySem.W.nsIn K mainGlobals "len" = some none)
    (z5 : PySem.W.nsIn K mainGlobals "max" = some none)
    (z6 : PySem.W.nsIn K mainGlobals "any" = some none)
    (z7 : PySem.W.nsIn K mainGlobals "all" = some none)
    (z8 : PySem.W.nsIn K mainGlobals "str" = some none)
    (z9 : PySem.W.nsIn K mainGlobals "sorted" = some none)
    (z10 : PySem.W.nsIn K mainGlobals "ValueError" = some none)
    (jq3v : PySem.W.nsIn K mainGlobals "CLOSED_BAR" = some (some (.int 4 jK)))
    (ac0 : PySem.W.nsIn K mainGlobals "Matter" = some (some (.ref c0)))
    (ac1 : PySem.W.nsIn K mainGlobals "Change" = some (some (.ref c1)))
    (ac2 : PySem.W.nsIn K mainGlobals "Mend" = some (some (.ref c2)))
    (ac3 : PySem.W.nsIn K mainGlobals "PutOff" = some (some (.ref c3)))
    (ac4 : PySem.W.nsIn K mainGlobals "Close" = some (some (.ref c4)))
    (ac5 : PySem.W.nsIn K mainGlobals "Lay" = some (some (.ref c5)))
    (ac6 : PySem.W.nsIn K mainGlobals "Rest" = some (some (.ref c6)))
    (ac7 : PySem.W.nsIn K mainGlobals "Point" = some (some (.ref c7)))
    (acm : PySem.W.nsIn K mainGlobals "Motion" = some (some (.ref cm)))
    (atb : PySem.W.nsIn K mainGlobals "RANKS" = some (some (.ref tb)))
    (ltb : K.lookup tb = some ⟨.type "dict",none,.dict est nt,#[]⟩)
    (ktb : PySem.W.KeysLit P est.toList)
    (rk0 : PySem.W.nsIn K tb (Str.ofString "matter") = some (some (.int 0 tr0)))
    (rk1 : PySem.W.nsIn K tb (Str.ofString "change") = some (some (.int 1 tr1)))
    (rk2 : PySem.W.nsIn K tb (Str.ofString "mend") = some (some (.int 2 tr2)))
    (rk3 : PySem.W.nsIn K tb (Str.ofString "put off") = some (some (.int 3 tr3)))
    (rk4 : PySem.W.nsIn K tb (Str.ofString "close") = some (some (.int 4 tr4)))
    (rk5 : PySem.W.nsIn K tb (Str.ofString "lay") = some (some (.int 5 tr5)))
    (rk6 : PySem.W.nsIn K tb (Str.ofString "rest") = some (some (.int 6 tr6)))
    (rk7 : PySem.W.nsIn K tb (Str.ofString "point") = some (some (.int 7 tr7)))
    (pg0 : PySem.W.plainGet K c0 Str.empty = true)
    (hd0 : PySem.W.hasDictIn K c0 = true)
    (po0 : PySem.W.plainOver K c0 = true)
    (sa0 : PySem.W.findIn K (.ref c0) "__setattr__" = some (some (.builtin "object.__setattr__")))
    (mk0 : PySem.W.makesIn K c0 = true)
    (kc0 : PySem.W.keepIn K (.ref c0) = true)
    (pg1 : PySem.W.plainGet K c1 Str.empty = true)
    (hd1 : PySem.W.hasDictIn K c1 = true)
    (po1 : PySem.W.plainOver K c1 = true)
    (sa1 : PySem.W.findIn K (.ref c1) "__setattr__" = some (some (.builtin "object.__setattr__")))
    (mk1 : PySem.W.makesIn K c1 = true)
    (kc1 : PySem.W.keepIn K (.ref c1) = true)
    (pg2 : PySem.W.plainGet K c2 Str.empty = true)
    (hd2 : PySem.W.hasDictIn K c2 = true)
    (po2 : PySem.W.plainOver K c2 = true)
    (sa2 : PySem.W.findIn K (.ref c2) "__setattr__" = some (some (.builtin "object.__setattr__")))
    (mk2 : PySem.W.makesIn K c2 = true)
    (kc2 : PySem.W.keepIn K (.ref c2) = true)
    (pg3 : PySem.W.plainGet K c3 Str.empty = true)
    (hd3 : PySem.W.hasDictIn K c3 = true)
    (po3 : PySem.W.plainOver K c3 = true)
    (sa3 : PySem.W.findIn K (.ref c3) "__setattr__" = some (some (.builtin "object.__setattr__")))
    (mk3 : PySem.W.makesIn K c3 = true)
    (kc3 : PySem.W.keepIn K (.ref c3) = true)
    (pg4 : PySem.W.plainGet K c4 Str.empty = true)
    (hd4 : PySem.W.hasDictIn K c4 = true)
    (po4 : PySem.W.plainOver K c4 = true)
    (sa4 : PySem.W.findIn K (.ref c4) "__setattr__" = some (some (.builtin "object.__setattr__")))
    (mk4 : PySem.W.makesIn K c4 = true)
    (kc4 : PySem.W.keepIn K (.ref c4) = true)
    (pg5 : PySem.W.plainGet K c5 Str.empty = true)
    (hd5 : PySem.W.hasDictIn K c5 = true)
    (po5 : PySem.W.plainOver K c5 = true)
    (sa5 : PySem.W.findIn K (.ref c5) "__setattr__" = some (some (.builtin "object.__setattr__")))
    (mk5 : PySem.W.makesIn K c5 = true)
    (kc5 : PySem.W.keepIn K (.ref c5) = true)
    (pg6 : PySem.W.plainGet K c6 Str.empty = true)
    (hd6 : PySem.W.hasDictIn K c6 = true)
    (po6 : PySem.W.plainOver K c6 = true)
    (sa6 : PySem.W.findIn K (.ref c6) "__setattr__" = some (some (.builtin "object.__setattr__")))
    (mk6 : PySem.W.makesIn K c6 = true)
    (kc6 : PySem.W.keepIn K (.ref c6) = true)
    (pg7 : PySem.W.plainGet K c7 Str.empty = true)
    (hd7 : PySem.W.hasDictIn K c7 = true)
    (po7 : PySem.W.plainOver K c7 = true)
    (sa7 : PySem.W.findIn K (.ref c7) "__setattr__" = some (some (.builtin "object.__setattr__")))
    (mk7 : PySem.W.makesIn K c7 = true)
    (kc7 : PySem.W.keepIn K (.ref c7) = true)
    (jq5M : PySem.W.findIn K (.ref c0) "kind" = some (some (.ref Ec)))
    (jq7V : K.lookup Ec = some ⟨T8,SV,.func (PySem.W.fnOf "kind" "Matter.kind" (az fP) (ax fP) (af fP) .none T9 Ua Ub SW Nz Uc),TF⟩)
    (jq6k : PySem.W.codeIn K Nz "Matter.kind" = true)
    (jq5N : PySem.W.keepIn K (.ref Ec) = true)
    (jq6l : PySem.W.isFn K (.ref Ec) = true)
    (jq5O : PySem.W.findIn K (.ref c1) "kind" = some (some (.ref Ee)))
    (jq7W : K.lookup Ee = some ⟨Ud,SX,.func (PySem.W.fnOf "kind" "Change.kind" (az fQ) (ax fQ) (af fQ) .none Ue Ug Uh SY NA Ui),TH⟩)
    (jq6m : PySem.W.codeIn K NA "Change.kind" = true)
    (jq5P : PySem.W.keepIn K (.ref Ee) = true)
    (jq6n : PySem.W.isFn K (.ref Ee) = true)
    (jq5Q : PySem.W.findIn K (.ref c2) "kind" = some (some (.ref Ef)))
    (jq7X : K.lookup Ef = some ⟨Uj,S0,.func (PySem.W.fnOf "kind" "Mend.kind" (az iF) (ax iF) (af iF) .none Uk Ul Um S1 NB Uo),TK⟩)
    (jq6o : PySem.W.codeIn K NB "Mend.kind" = true)
    (jq5R : PySem.W.keepIn K (.ref Ef) = true)
    (jq6p : PySem.W.isFn K (.ref Ef) = true)
    (jq5S : PySem.W.findIn K (.ref c3) "kind" = some (some (.ref Eg)))
    (jq7Y : K.lookup Eg = some ⟨Up,S2,.func (PySem.W.fnOf "kind" "PutOff.kind" (az fR) (ax fR) (af fR) .none Uq Ur Us S3 NC Ut),TL⟩)
    (jq6q : PySem.W.codeIn K NC "PutOff.kind" = true)
    (jq5T : PySem.W.keepIn K (.ref Eg) = true)
    (jq6r : PySem.W.isFn K (.ref Eg) = true)
    (jq5U : PySem.W.findIn K (.ref c4) "kind" = some (some (.ref Eh)))
    (jq7Z : K.lookup Eh = some ⟨Uu,S4,.func (PySem.W.fnOf "kind" "Close.kind" (az gS) (ax gS) (af gS) .none Uv Uw Ux S5 ND Uy),TM⟩)
    (jq6s : PySem.W.codeIn K ND "Close.kind" = true)
    (jq5V : PySem.W.keepIn K (.ref Eh) = true)
    (jq6t : PySem.W.isFn K (.ref Eh) = true)
    (jq5W : PySem.W.findIn K (.ref c5) "kind" = some (some (.ref Ei)))
    (jq80 : K.lookup Ei = some ⟨Uz,S6,.func (PySem.W.fnOf "kind" "Lay.kind" (az ji) (ax ji) (af ji) .none UA UB UC S7 NF UD),TN⟩)
    (jq6u : PySem.W.codeIn K NF "Lay.kind" = true)
    (jq5X : PySem.W.keepIn K (.ref Ei) = true)
    (jq6v : PySem.W.isFn K (.ref Ei) = true)
    (jq5Y : PySem.W.findIn K (.ref c6) "kind" = some (some (.ref Ej)))
    (jq81 : K.lookup Ej = some ⟨UE,S8,.func (PySem.W.fnOf "kind" "Rest.kind" (az iG) (ax iG) (af iG) .none UG UH UI S9 NG UJ),TQ⟩)
    (jq6w : PySem.W.codeIn K NG "Rest.kind" = true)
    (jq5Z : PySem.W.keepIn K (.ref Ej) = true)
    (jq6x : PySem.W.isFn K (.ref Ej) = true)
    (jq60 : PySem.W.findIn K (.ref c7) "kind" = some (some (.ref Ek)))
    (jq82 : K.lookup Ek = some ⟨UK,Ta,.func (PySem.W.fnOf "kind" "Point.kind" (az gU) (ax gU) (af gU) .none UL UM UN Tb NH UO),TR⟩)
    (jq6y : PySem.W.codeIn K NH "Point.kind" = true)
    (jq61 : PySem.W.keepIn K (.ref Ek) = true)
    (jq6z : PySem.W.isFn K (.ref Ek) = true)
    (jq6A : PySem.W.findIn K (.ref c0) "rank" = some (some (.ref xa)))
    (jq6B : PySem.W.findIn K (.ref c1) "rank" = some (some (.ref xa)))
    (jq6C : PySem.W.findIn K (.ref c2) "rank" = some (some (.ref xa)))
    (jq6D : PySem.W.findIn K (.ref c3) "rank" = some (some (.ref xa)))
    (jq6E : PySem.W.findIn K (.ref c4) "rank" = some (some (.ref xa)))
    (jq6F : PySem.W.findIn K (.ref c5) "rank" = some (some (.ref xa)))
    (jq6G : PySem.W.findIn K (.ref c6) "rank" = some (some (.ref xa)))
    (jq6H : PySem.W.findIn K (.ref c7) "rank" = some (some (.ref xa)))
    (l_mr : K.lookup xa = some ⟨aaE,Yy,.func (PySem.W.fnOf "rank" "Motion.rank" (az fS) (ax fS) (af fS) .none aaF aaG aaH Yz QL aaI),YY⟩)
    (jq83 : PySem.W.codeIn K QL "Motion.rank" = true)
    (jq3E : PySem.W.keepIn K (.ref xa) = true)
    (jq4x : PySem.W.isFn K (.ref xa) = true)
    (jq6I : PySem.W.findIn K (.ref c0) "need" = some (some (.ref zU)))
    (jq6J : PySem.W.findIn K (.ref c1) "need" = some (some (.ref zU)))
    (jq6K : PySem.W.findIn K (.ref c2) "need" = some (some (.ref zU)))
    (jq6L : PySem.W.findIn K (.ref c3) "need" = some (some (.ref zU)))
    (jq6M : PySem.W.findIn K (.ref c5) "need" = some (some (.ref zU)))
    (jq6N : PySem.W.findIn K (.ref c6) "need" = some (some (.ref zU)))
    (jq6O : PySem.W.findIn K (.ref c7) "need" = some (some (.ref zU)))
    (l_mn : K.lookup zU = some ⟨aaJ,YA,.func (PySem.W.fnOf "need" "Motion.need" (az fU) (ax fU) (af fU) .none aaK aaL aaM YB QM aaN),YZ⟩)
    (jq84 : PySem.W.codeIn K QM "Motion.need" = true)
    (jq4y : PySem.W.keepIn K (.ref zU) = true)
    (jq5c : PySem.W.isFn K (.ref zU) = true)
    (jq62 : PySem.W.findIn K (.ref c4) "need" = some (some (.ref El)))
    (jq85 : K.lookup El = some ⟨UP,Tc,.func (PySem.W.fnOf "need" "Close.need" (az gW) (ax gW) (af gW) .none UQ UR US Td NI UT),TU⟩)
    (jq6P : PySem.W.codeIn K NI "Close.need" = true)
    (jq63 : PySem.W.keepIn K (.ref El) = true)
    (jq6Q : PySem.W.isFn K (.ref El) = true)
    (jq6R : PySem.W.findIn K (.ref c4) "told" = some (some (.ref Hq)))
    (jq6S : PySem.W.findIn K (.ref c5) "told" = some (some (.ref Hq)))
    (jq6T : PySem.W.findIn K (.ref c6) "told" = some (some (.ref Hq)))
    (l_mt : K.lookup Hq = some ⟨aaO,YC,.func (PySem.W.fnOf "told" "Motion.told" (az fV) (ax fV) (af fV) .none aaP aaQ aaR YD QN aaS),Y0⟩)
    (jq86 : PySem.W.codeIn K QN "Motion.told" = true)
    (jq5L : PySem.W.keepIn K (.ref Hq) = true)
    (jq6j : PySem.W.isFn K (.ref Hq) = true)
    (jq64 : PySem.W.findIn K (.ref c0) "told" = some (some (.ref Em)))
    (jq87 : K.lookup Em = some ⟨UU,Te,.func (PySem.W.fnOf "told" "Matter.told" (az fW) (ax fW) (af fW) .none UW UX UY Tf NJ UZ),TV⟩)
    (jq6U : PySem.W.codeIn K NJ "Matter.told" = true)
    (jq65 : PySem.W.keepIn K (.ref Em) = true)
    (jq6V : PySem.W.isFn K (.ref Em) = true)
    (jq66 : PySem.W.findIn K (.ref c1) "told" = some (some (.ref En)))
    (jq88 : K.lookup En = some ⟨U0,Tg,.func (PySem.W.fnOf "told" "Change.told" (az fX) (ax fX) (af fX) .none U4 U5 U6 Th NK U7),TX⟩)
    (jq6W : PySem.W.codeIn K NK "Change.told" = true)
    (jq67 : PySem.W.keepIn K (.ref En) = true)
    (jq6X : PySem.W.isFn K (.ref En) = true)
    (jq68 : PySem.W.findIn K (.ref c2) "told" = some (some (.ref Eo)))
    (jq89 : K.lookup Eo = some ⟨U8,Ti,.func (PySem.W.fnOf "told" "Mend.told" (az iH) (ax iH) (af iH) .none U9 Va Vb Tj NL Vc),TY⟩)
    (jq6Y : PySem.W.codeIn K NL "Mend.told" = true)
    (jq69 : PySem.W.keepIn K (.ref Eo) = true)
    (jq6Z : PySem.W.isFn K (.ref Eo) = true)
    (jq6a : PySem.W.findIn K (.ref c3) "told" = some (some (.ref Ep)))
    (jq8a : K.lookup Ep = some ⟨Vd,Tn,.func (PySem.W.fnOf "told" "PutOff.told" (az fY) (ax fY) (af fY) .none Ve Vf Vg To NM Vh),TZ⟩)
    (jq70 : PySem.W.codeIn K NM "PutOff.told" = true)
    (jq6b : PySem.W.keepIn K (.ref Ep) = true)
    (jq71 : PySem.W.isFn K (.ref Ep) = true)
    (jq6c : PySem.W.findIn K (.ref c7) "told" = some (some (.ref Er)))
    (jq8b : K.lookup Er = some ⟨Vi,Tp,.func (PySem.W.fnOf "told" "Point.told" (az gX) (ax gX) (af gX) .none Vj Vk Vl Tq NN Vm),T2⟩)
    (jq72 : PySem.W.codeIn K NN "Point.told" = true)
    (jq6d : PySem.W.keepIn K (.ref Er) = true)
    (jq73 : PySem.W.isFn K (.ref Er) = true)
    (jq6e : PySem.W.findIn K (.ref c0) "__init__" = some (some (.ref Es)))
    (jq8c : K.lookup Es = some ⟨Vn,Tr,.func (PySem.W.fnOf "__init__" "Matter.__init__" (az fZ) (ax fZ) (af fZ) .none Vo Vp Vq Ts NO Vr),T3⟩)
    (jq74 : PySem.W.codeIn K NO "Matter.__init__" = true)
    (jq75 : PySem.W.keepIn K (.ref Es) = true)
    (jq76 : PySem.W.isFn K (.ref Es) = true)
    (jq6f : PySem.W.findIn K (.ref c1) "__init__" = some (some (.ref Et)))
    (jq8d : K.lookup Et = some ⟨Vs,Tt,.func (PySem.W.fnOf "__init__" "Change.__init__" (az f6) (ax f6) (af f6) .none Vt Vu Vv Tu NP Vw),T4⟩)
    (jq77 : PySem.W.codeIn K NP "Change.__init__" = true)
    (jq78 : PySem.W.keepIn K (.ref Et) = true)
    (jq79 : PySem.W.isFn K (.ref Et) = true)
    (jq6g : PySem.W.findIn K (.ref c2) "__init__" = some (some (.ref Eu)))
    (jq8e : K.lookup Eu = some ⟨Vx,Tv,.func (PySem.W.fnOf "__init__" "Mend.__init__" (az iI) (ax iI) (af iI) .none Vy Vz VA Tw NQ VB),T5⟩)
    (jq7a : PySem.W.codeIn K NQ "Mend.__init__" = true)
    (jq7b : PySem.W.keepIn K (.ref Eu) = true)
    (jq7c : PySem.W.isFn K (.ref Eu) = true)
    (jq6h : PySem.W.findIn K (.ref c3) "__init__" = some (some (.ref Ew)))
    (jq8f : K.lookup Ew = some ⟨VC,Tx,.func (PySem.W.fnOf "__init__" "PutOff.__init__" (az f7) (ax f7) (af f7) .none VD VE VF Tz NR VG),T6⟩)
    (jq7d : PySem.W.codeIn K NR "PutOff.__init__" = true)
    (jq7e : PySem.W.keepIn K (.ref Ew) = true)
    (jq7f : PySem.W.isFn K (.ref Ew) = true)
    (jq6i : PySem.W.findIn K (.ref c7) "__init__" = some (some (.ref Ex)))
    (jq8g : K.lookup Ex = some ⟨VH,TB,.func (PySem.W.fnOf "__init__" "Point.__init__" (az gY) (ax gY) (af gY) .none VI VJ VL TC NS VM),T7⟩)
    (jq7g : PySem.W.codeIn K NS "Point.__init__" = true)
    (jq7h : PySem.W.keepIn K (.ref Ex) = true)
    (jq7i : PySem.W.isFn K (.ref Ex) = true)
    (na0 : PySem.W.findIn K (.ref c0) "text" = some none)
    (na1 : PySem.W.findIn K (.ref c1) "edit" = some none)
    (na2 : PySem.W.findIn K (.ref c2) "edit" = some none)
    (na3 : PySem.W.findIn K (.ref c3) "sitting" = some none)
    (na7 : PySem.W.findIn K (.ref c7) "clause" = some none)
    (ni4 : PySem.W.findIn K (.ref c4) "__init__" = some (some (.builtin "object.__init__")))
    (ni5 : PySem.W.findIn K (.ref c5) "__init__" = some (some (.builtin "object.__init__")))
    (ni6 : PySem.W.findIn K (.ref c6) "__init__" = some (some (.builtin "object.__init__")))
    (jq4z : PySem.W.nsIn K mainGlobals "Chamber" = some (some (.ref bc)))
    (jq4A : PySem.W.plainGet K bc Str.empty = true)
    (jq4B : PySem.W.hasDictIn K bc = true)
    (jq4C : PySem.W.plainOver K bc = true)
    (jq4D : PySem.W.findIn K (.ref bc) "__setattr__" = some (some (.builtin "object.__setattr__")))
    (jq4E : PySem.W.makesIn K bc = true)
    (jq4F : PySem.W.keepIn K (.ref bc) = true)
    (jq33 : PySem.W.findIn K (.ref bc) "__init__" = some (some (.ref cH)))
    (jq3n : K.lookup cH = some ⟨xy,xb,.func (PySem.W.fnOf "__init__" "Chamber.__init__" (az eN) (ax eN) (af eN) .none xA xB xC xc p9 xD),xr⟩)
    (jq34 : PySem.W.codeIn K p9 "Chamber.__init__" = true)
    (jq35 : PySem.W.keepIn K (.ref cH) = true)
    (jq36 : PySem.W.isFn K (.ref cH) = true)
    (jq37 : PySem.W.findIn K (.ref bc) "move" = some (some (.ref cu)))
    (jq3o : K.lookup cu = some ⟨xE,xg,.func (PySem.W.fnOf "move" "Chamber.move" (az eO) (ax eO) (af eO) .none xF xG xH xh qa xI),xt⟩)
    (jq38 : PySem.W.codeIn K qa "Chamber.move" = true)
    (jq2C : PySem.W.keepIn K (.ref cu) = true)
    (jq39 : PySem.W.isFn K (.ref cu) = true)
    (jq3a : PySem.W.findIn K (.ref bc) "vote" = some (some (.ref cv)))
    (jq3p : K.lookup cv = some ⟨xJ,xj,.func (PySem.W.fnOf "vote" "Chamber.vote" (az eP) (ax eP) (af eP) .none xK xM xN xl qb xO),xu⟩)
    (jq3b : PySem.W.codeIn K qb "Chamber.vote" = true)
    (jq2D : PySem.W.keepIn K (.ref cv) = true)
    (jq3c : PySem.W.isFn K (.ref cv) = true)
    (jq3d : PySem.W.findIn K (.ref bc) "drop" = some (some (.ref cw)))
    (jq3q : K.lookup cw = some ⟨xP,xm,.func (PySem.W.fnOf "drop" "Chamber.drop" (az eQ) (ax eQ) (af eQ) .none xQ xR xS xn qc xT),xw⟩)
    (jq3e : PySem.W.codeIn K qc "Chamber.drop" = true)
    (jq2E : PySem.W.keepIn K (.ref cw) = true)
    (jq3f : PySem.W.isFn K (.ref cw) = true)
    (jq3g : PySem.W.findIn K (.ref bc) "take" = some (some (.ref cx)))
    (jq3r : K.lookup cx = some ⟨xU,xp,.func (PySem.W.fnOf "take" "Chamber.take" (az eR) (ax eR) (af eR) .none xV xW xX xq qd xY),xx⟩)
    (jq3h : PySem.W.codeIn K qd "Chamber.take" = true)
    (jq2F : PySem.W.keepIn K (.ref cx) = true)
    (jq3i : PySem.W.isFn K (.ref cx) = true)
    (jq2V : PySem.W.findIn K (.ref bc) "state" = some (some (.ref cz)))
    (jq3j : K.lookup cz = some ⟨vS,vP,.func (PySem.W.fnOf "state" "Chamber.state" (az du) (ax du) (af du) .none vT vU vV vQ oQ vW),vR⟩)
    (jq2W : PySem.W.codeIn K oQ "Chamber.state" = true)
    (jq2z : PySem.W.keepIn K (.ref cz) = true)
    (jq2X : PySem.W.isFn K (.ref cz) = true)
    (jq2M : PySem.W.findIn K (.ref bc) "motion" = some (some (.ref cc)))
    (jq2Y : K.lookup cc = some ⟨uQ,uK,.func (PySem.W.fnOf "motion" "Chamber.motion" (az dN) (ax dN) (af dN) .none uR uS uT uL ni uU),uO⟩)
    (jq2N : PySem.W.codeIn K ni "Chamber.motion" = true)
    (jq2n : PySem.W.keepIn K (.ref cc) = true)
    (jq2O : PySem.W.isFn K (.ref cc) = true)
    (jq2J : PySem.W.findIn K (.ref bc) "pending" = some (some (.ref bP)))
    (jq2P : K.lookup bP = some ⟨tL,tI,.func (PySem.W.fnOf "pending" "Chamber.pending" (az cR) (ax cR) (af cR) .none tM tN tO tJ mI tP),tK⟩)
    (jq2K : PySem.W.codeIn K mI "Chamber.pending" = true)
    (jq2i : PySem.W.keepIn K (.ref bP) = true)
    (jq2L : PySem.W.isFn K (.ref bP) = true)
    (jq2k : PySem.W.findIn K (.ref bc) "told_aside" = some (some (.ref bG)))
    (jq2s : K.lookup bG = some ⟨ql,qi,.func (PySem.W.fnOf "told_aside" "Chamber.told_aside" (az cL) (ax cL) (af cL) .none qm qo qp qj je qr),qk⟩)
    (jq2l : PySem.W.codeIn K je "Chamber.told_aside" = true)
    (jq1Y : PySem.W.keepIn K (.ref bG) = true)
    (jq2m : PySem.W.isFn K (.ref bG) = true)
    (jq1l : PySem.W.findIn K (.ref bc) "require_can_be_made" = some (some (.ref aQ)))
    (jq1q : K.lookup aQ = some ⟨jC,jz,.func (PySem.W.fnOf "require_can_be_made" "Chamber.require_can_be_made" (az bM) (ax bM) (af bM) .none jD jE jF jA eY jG),jB⟩)
    (jq1m : PySem.W.codeIn K eY "Chamber.require_can_be_made" = true)
    (jqn : PySem.W.keepIn K (.ref aQ) = true)
    (jq1n : PySem.W.isFn K (.ref aQ) = true)
    (jq1V : PySem.W.findIn K (.ref bc) "require_pending" = some (some (.ref aZ)))
    (jq1Z : K.lookup aZ = some ⟨mJ,mF,.func (PySem.W.fnOf "require_pending" "Chamber.require_pending" (az bX) (ax bX) (af bX) .none mK mL mM mG gQ mO),mH⟩)
    (jq1W : PySem.W.codeIn K gQ "Chamber.require_pending" = true)
    (jqB : PySem.W.keepIn K (.ref aZ) = true)
    (jq1X : PySem.W.isFn K (.ref aZ) = true)
    (jq2Q : PySem.W.findIn K (.ref bc) "decide" = some (some (.ref bR)))
    (jq2Z : K.lookup bR = some ⟨uV,uM,.func (PySem.W.fnOf "decide" "Chamber.decide" (az dO) (ax dO) (af dO) .none uW uX uY uN nj uZ),uP⟩)
    (jq2R : PySem.W.codeIn K nj "Chamber.decide" = true)
    (jq2o : PySem.W.keepIn K (.ref bR) = true)
    (jq2S : PySem.W.isFn K (.ref bR) = true)
    (jq2d : PySem.W.findIn K (.ref bc) "end_decision" = some (some (.ref bf)))
    (jq2j : K.lookup bf = some ⟨oR,oM,.func (PySem.W.fnOf "end_decision" "Chamber.end_decision" (az cA) (ax cA) (af cA) .none oS oU oV oN iQ oW),oO⟩)
    (jq2e : PySem.W.codeIn K iQ "Chamber.end_decision" = true)
    (jq1K : PySem.W.keepIn K (.ref bf) = true)
    (jq2f : PySem.W.isFn K (.ref bf) = true)
    (jq2t : PySem.W.findIn K (.ref bc) "carry_out" = some (some (.ref bN)))
    (jq2A : K.lookup bN = some ⟨rA,rj,.func (PySem.W.fnOf "carry_out" "Chamber.carry_out" (az cV) (ax cV) (af cV) .none rB rC rD rm j5 rE),rq⟩)
    (jq2u : PySem.W.codeIn K j5 "Chamber.carry_out" = true)
    (jq24 : PySem.W.keepIn K (.ref bN) = true)
    (jq2v : PySem.W.isFn K (.ref bN) = true)
    (jq26 : PySem.W.findIn K (.ref bc) "lay_on_matter" = some (some (.ref bj)))
    (jq2g : K.lookup bj = some ⟨nJ,nC,.func (PySem.W.fnOf "lay_on_matter" "Chamber.lay_on_matter" (az ck) (ax ck) (af ck) .none nK nL nM nD iq nO),nH⟩)
    (jq27 : PySem.W.codeIn K iq "Chamber.lay_on_matter" = true)
    (jq1o : PySem.W.keepIn K (.ref bj) = true)
    (jq28 : PySem.W.isFn K (.ref bj) = true)
    (jq29 : PySem.W.findIn K (.ref bc) "lay_on_change" = some (some (.ref bp)))
    (jq2h : K.lookup bp = some ⟨nP,nF,.func (PySem.W.fnOf "lay_on_change" "Chamber.lay_on_change" (az cn) (ax cn) (af cn) .none nQ nR nS nG ir nU),nI⟩)
    (jq2a : PySem.W.codeIn K ir "Chamber.lay_on_change" = true)
    (jq1p : PySem.W.keepIn K (.ref bp) = true)
    (jq2b : PySem.W.isFn K (.ref bp) = true)
    (jq2w : PySem.W.findIn K (.ref bc) "put_aside" = some (some (.ref bO)))
    (jq2B : K.lookup bO = some ⟨rF,rn,.func (PySem.W.fnOf "put_aside" "Chamber.put_aside" (az cW) (ax cW) (af cW) .none rG rH rJ rp j6 rK),rz⟩)
    (jq2x : PySem.W.codeIn K j6 "Chamber.put_aside" = true)
    (jq25 : PySem.W.keepIn K (.ref bO) = true)
    (jq2y : PySem.W.isFn K (.ref bO) = true)
    (jqX : PySem.W.findIn K (.ref bc) "seats" = some none)
    (jq1 : PySem.W.findIn K (.ref bc) "sitting" = some none)
    (jq4 : PySem.W.findIn K (.ref bc) "closed" = some none)
    (jq2 : PySem.W.findIn K (.ref bc) "made" = some none)
    (jq0 : PySem.W.findIn K (.ref bc) "pile" = some none)
    (jq3 : PySem.W.findIn K (.ref bc) "aside" = some none)
    (jqj : PySem.W.findIn K (.ref bc) "decided" = some none)
    (jqb : PySem.W.findIn K (.ref bc) "first_texts" = some none)
    (jq5 : PySem.W.findIn K (.ref bc) "edits_kept" = some none)
    (jqk : PySem.W.findIn K (.ref bc) "rows" = some none)
    (jq3k : PySem.W.nsIn K mainGlobals "ChamberError" = some (some (.ref aK)))
    (jq5B : PySem.W.nsIn K mainGlobals "NoFit" = some (some (.ref b9)))
    (jq5d : PySem.W.nsIn K mainGlobals "Barred" = some (some (.ref bB)))
    (jq3F : PySem.W.nsIn K mainGlobals "NoMatter" = some (some (.ref a9)))
    (jq3G : PySem.W.nsIn K mainGlobals "NoChange" = some (some (.ref bb)))
    (jq3H : PySem.W.nsIn K mainGlobals "NotLater" = some (some (.ref aX)))
    (jq4G : PySem.W.nsIn K mainGlobals "Nothing" = some (some (.ref bu)))
    (jq4H : PySem.W.nsIn K mainGlobals "TooMany" = some (some (.ref bw)))
    (jq4I : PySem.W.nsIn K mainGlobals "NoAside" = some (some (.ref bx)))
    (jq5e : PySem.W.nsIn K mainGlobals "NotYet" = some (some (.ref bC)))
    (jq3I : PySem.W.nsIn K mainGlobals "NoNumber" = some (some (.ref bT)))
    (jq5C : K.lookup b9 = some (excClassObj NX PM b9 CS NY (.ref aK :: pQ) N9 NZ N0 N1 N2 N3 N4 N5 N6 N7 N8 "ValueError.__new__"))
    (jq3J : K.lookup a9 = some (excClassObj E8 HD a9 tQ E9 (.ref aK :: pQ) Fm Fb Fc Fd Fe Ff Fg Fh Fi Fj Fl "ValueError.__new__"))
    (jq3K : K.lookup bb = some (excClassObj Fo HE bb tR Fp (.ref aK :: pQ) FC Fq Fs Ft Fu Fv Fw Fx Fy Fz FA "ValueError.__new__"))
    (jq4J : K.lookup bu = some (excClassObj HF KJ bu vX HG (.ref aK :: pQ) HU HI HJ HK HL HM HN HP HQ HR HS "ValueError.__new__"))
    (jq4K : K.lookup bw = some (excClassObj HW KL bw vY HX (.ref aK :: pQ) Ik HY HZ Ia Ib Ic Ie Ig Ih Ii Ij "ValueError.__new__"))
    (jq4L : K.lookup bx = some (excClassObj Im KN bx vZ Io (.ref aK :: pQ) IC Ip Iq Ir Iu Iv Iw Iy Iz IA IB "ValueError.__new__"))
    (jq3L : K.lookup bT = some (excClassObj FE IE bT tS FF (.ref aK :: pQ) FR FG FH FI FJ FK FL FN FO FP FQ "ValueError.__new__"))
    (jq5f : K.lookup bB = some (excClassObj KO Ob bB zY KP (.ref aK :: pQ) true KQ KR KS KU KW KY KZ K0 K1 K2 "ValueError.__new__"))
    (jq3M : K.lookup aX = some (excClassObj FU IF aX tT FV (.ref aK :: pQ) true FW FX FY FZ F0 F2 F3 F4 F5 F6 "ValueError.__new__"))
    (jq5g : K.lookup bC = some (excClassObj K5 Oc bC zZ K6 (.ref aK :: pQ) true K7 K8 K9 La Lb Lc Ld Le Lf Lg "ValueError.__new__"))
    (jq6 : K.lookup aK = some ⟨Aa,yd,.cls qf,ye⟩)
    (jq7 : qf.ns = mP)
    (jq5D : K.lookup CS = some ⟨NT,NU,.dict EO NV,NW⟩)
    (jq5E : strKeys EO = true)
    (jq5F : PySem.W.nsIn K CS "__init__" = some none)
    (jq8 : K.lookup mP = some ⟨xZ,ya,.dict qe yb,yc⟩)
    (jq9 : strKeys qe = true)
    (jqa : PySem.W.nsIn K mP "__init__" = some none)
    (jq3N : K.lookup tQ = some ⟨ER,ES,.dict wL ET,EU⟩)
    (jq3O : strKeys wL = true)
    (jq3P : PySem.W.nsIn K tQ "__init__" = some none)
    (jq3Q : K.lookup tR = some ⟨EV,EW,.dict wM EX,EY⟩)
    (jq3R : strKeys wM = true)
    (jq3S : PySem.W.nsIn K tR "__init__" = some none)
    (jq4M : K.lookup vX = some ⟨Hr,Hs,.dict zV Ht,Hu⟩)
    (jq4N : strKeys zV = true)
    (jq4O : PySem.W.nsIn K vX "__init__" = some none)
    (jq4P : K.lookup vY = some ⟨Hv,Hw,.dict zW Hx,Hy⟩)
    (jq4Q : strKeys zW = true)
    (jq4R : PySem.W.nsIn K vY "__init__" = some none)
    (jq4S : K.lookup vZ = some ⟨Hz,HA,.dict zX HB,HC⟩)
    (jq4T : strKeys zX = true)
    (jq4U : PySem.W.nsIn K vZ "__init__" = some none)
    (jq3T : K.lookup tS = some ⟨EZ,E1,.dict wN E2,E3⟩)
    (jq3U : strKeys wN = true)
    (jq3V : PySem.W.nsIn K tS "__init__" = some none)
    (jq5h : K.lookup zY = some ⟨Ky,Kz,.dict Bs KA,KC⟩)
    (jq5i : strKeys Bs = true)
    (jq5j : PySem.W.nsIn K zY "__init__" = some (some (.ref mD)))
    (jq3W : K.lookup tT = some ⟨E4,E5,.dict wO E6,E7⟩)
    (jq3X : strKeys wO = true)
    (jq3Y : PySem.W.nsIn K tT "__init__" = some (some (.ref ja)))
    (jq5k : K.lookup zZ = some ⟨KD,KG,.dict Bt KH,KI⟩)
    (jq5l : strKeys Bt = true)
    (jq5m : PySem.W.nsIn K zZ "__init__" = some (some (.ref mE)))
    (xhn : PySem.W.specialIn K (.builtin "object.__class__") "__get__" = some (some (.builtin "getset_descriptor.__get__")))
    (xhtk : PySem.W.takesIn K (.builtin "object.__class__") = some true)
    (jq30 : PySem.W.readsIn K aK (.type "type") = true)
    (jq31 : PySem.W.specialIn K (.ref aK) "__getattribute__" = some (some (.builtin "type.__getattribute__")))
    (jq32 : PySem.W.findCls K (.ref aK) (.type "type") "__init__" = some (.val (.builtin "ValueError.__init__")))
    (jq3m : PySem.W.kitOne K (.type "NoneType") (.ref b9) = some false)
    (jq2T : PySem.W.kitOne K (.type "NoneType") (.ref bB) = some false)
    (jq2p : PySem.W.kitOne K (.type "NoneType") (.ref a9) = some false)
    (jq2q : PySem.W.kitOne K (.type "NoneType") (.ref bb) = some false)
    (jq2r : PySem.W.kitOne K (.type "NoneType") (.ref aX) = some false)
    (jq2G : PySem.W.kitOne K (.type "NoneType") (.ref bu) = some false)
    (jq2H : PySem.W.kitOne K (.type "NoneType") (.ref bw) = some false)
    (jq2I : PySem.W.kitOne K (.type "NoneType") (.ref bx) = some false)
    (jq2U : PySem.W.kitOne K (.type "NoneType") (.ref bC) = some false)
    (jq5G : PySem.W.findIn K (.ref b9) "__getattribute__" = some (some (.builtin "BaseException.__getattribute__")))
    (jq5n : PySem.W.findIn K (.ref b9) "__getattr__" = some none)
    (jq5H : PySem.W.mroIn K b9 (.type "BaseException") = some true)
    (jq5I : PySem.W.clsIn K b9 = some Oa)
    (jq5J : PySem.W.findIn K (.ref b9) "__class__" = some (some (.builtin "object.__class__")))
    (jq5K : PySem.W.mroIn K b9 (.type "object") = some true)
    (jqo : PySem.W.exmOne K (.ref b9) (.ref aK) = some true)
    (jq2c : PySem.W.kitOne K (.ref b9) (.ref b9) = some true)
    (jq20 : PySem.W.kitOne K (.ref b9) (.ref bB) = some false)
    (jq1r : PySem.W.kitOne K (.ref b9) (.ref a9) = some false)
    (jq1s : PySem.W.kitOne K (.ref b9) (.ref bb) = some false)
    (jq1t : PySem.W.kitOne K (.ref b9) (.ref aX) = some false)
    (jq1L : PySem.W.kitOne K (.ref b9) (.ref bu) = some false)
    (jq1M : PySem.W.kitOne K (.ref b9) (.ref bw) = some false)
    (jq1N : PySem.W.kitOne K (.ref b9) (.ref bx) = some false)
    (jq21 : PySem.W.kitOne K (.ref b9) (.ref bC) = some false)
    (jq3Z : PySem.W.findIn K (.ref a9) "__getattribute__" = some (some (.builtin "BaseException.__getattribute__")))
    (jq3y : PySem.W.findIn K (.ref a9) "__getattr__" = some none)
    (jq40 : PySem.W.mroIn K a9 (.type "BaseException") = some true)
    (jq41 : PySem.W.clsIn K a9 = some Fn)
    (jq42 : PySem.W.findIn K (.ref a9) "__class__" = some (some (.builtin "object.__class__")))
    (jq43 : PySem.W.mroIn K a9 (.type "object") = some true)
    (jqc : PySem.W.exmOne K (.ref a9) (.ref aK) = some true)
    (jq1u : PySem.W.kitOne K (.ref a9) (.ref b9) = some false)
    (jqY : PySem.W.kitOne K (.ref a9) (.ref bB) = some false)
    (jqp : PySem.W.kitOne K (.ref a9) (.ref a9) = some true)
    (jqq : PySem.W.kitOne K (.ref a9) (.ref bb) = some false)
    (jqr : PySem.W.kitOne K (.ref a9) (.ref aX) = some false)
    (jqC : PySem.W.kitOne K (.ref a9) (.ref bu) = some false)
    (jqD : PySem.W.kitOne K (.ref a9) (.ref bw) = some false)
    (jqE : PySem.W.kitOne K (.ref a9) (.ref bx) = some false)
    (jqZ : PySem.W.kitOne K (.ref a9) (.ref bC) = some false)
    (jq44 : PySem.W.findIn K (.ref bb) "__getattribute__" = some (some (.builtin "BaseException.__getattribute__")))
    (jq3z : PySem.W.findIn K (.ref bb) "__getattr__" = some none)
    (jq45 : PySem.W.mroIn K bb (.type "BaseException") = some true)
    (jq46 : PySem.W.clsIn K bb = some FD)
    (jq47 : PySem.W.findIn K (.ref bb) "__class__" = some (some (.builtin "object.__class__")))
    (jq48 : PySem.W.mroIn K bb (.type "object") = some true)
    (jqd : PySem.W.exmOne K (.ref bb) (.ref aK) = some true)
    (jq1v : PySem.W.kitOne K (.ref bb) (.ref b9) = some false)
    (jq10 : PySem.W.kitOne K (.ref bb) (.ref bB) = some false)
    (jqs : PySem.W.kitOne K (.ref bb) (.ref a9) = some false)
    (jqt : PySem.W.kitOne K (.ref bb) (.ref bb) = some true)
    (jqu : PySem.W.kitOne K (.ref bb) (.ref aX) = some false)
    (jqF : PySem.W.kitOne K (.ref bb) (.ref bu) = some false)
    (jqG : PySem.W.kitOne K (.ref bb) (.ref bw) = some false)
    (jqH : PySem.W.kitOne K (.ref bb) (.ref bx) = some false)
    (jq11 : PySem.W.kitOne K (.ref bb) (.ref bC) = some false)
    (jq4V : PySem.W.findIn K (.ref bu) "__getattribute__" = some (some (.builtin "BaseException.__getattribute__")))
    (jq49 : PySem.W.findIn K (.ref bu) "__getattr__" = some none)
    (jq4W : PySem.W.mroIn K bu (.type "BaseException") = some true)
    (jq4X : PySem.W.clsIn K bu = some HV)
    (jq4Y : PySem.W.findIn K (.ref bu) "__class__" = some (some (.builtin "object.__class__")))
    (jq4Z : PySem.W.mroIn K bu (.type "object") = some true)
    (jqg : PySem.W.exmOne K (.ref bu) (.ref aK) = some true)
    (jq1O : PySem.W.kitOne K (.ref bu) (.ref b9) = some false)
    (jq1w : PySem.W.kitOne K (.ref bu) (.ref bB) = some false)
    (jqI : PySem.W.kitOne K (.ref bu) (.ref a9) = some false)
    (jqJ : PySem.W.kitOne K (.ref bu) (.ref bb) = some false)
    (jqK : PySem.W.kitOne K (.ref bu) (.ref aX) = some false)
    (jq12 : PySem.W.kitOne K (.ref bu) (.ref bu) = some true)
    (jq13 : PySem.W.kitOne K (.ref bu) (.ref bw) = some false)
    (jq14 : PySem.W.kitOne K (.ref bu) (.ref bx) = some false)
    (jq1x : PySem.W.kitOne K (.ref bu) (.ref bC) = some false)
    (jq50 : PySem.W.findIn K (.ref bw) "__getattribute__" = some (some (.builtin "BaseException.__getattribute__")))
    (jq4a : PySem.W.findIn K (.ref bw) "__getattr__" = some none)
    (jq51 : PySem.W.mroIn K bw (.type "BaseException") = some true)
    (jq52 : PySem.W.clsIn K bw = some Il)
    (jq53 : PySem.W.findIn K (.ref bw) "__class__" = some (some (.builtin "object.__class__")))
    (jq54 : PySem.W.mroIn K bw (.type "object") = some true)
    (jqh : PySem.W.exmOne K (.ref bw) (.ref aK) = some true)
    (jq1P : PySem.W.kitOne K (.ref bw) (.ref b9) = some false)
    (jq1y : PySem.W.kitOne K (.ref bw) (.ref bB) = some false)
    (jqL : PySem.W.kitOne K (.ref bw) (.ref a9) = some false)
    (jqM : PySem.W.kitOne K (.ref bw) (.ref bb) = some false)
    (jqN : PySem.W.kitOne K (.ref bw) (.ref aX) = some false)
    (jq15 : PySem.W.kitOne K (.ref bw) (.ref bu) = some false)
    (jq16 : PySem.W.kitOne K (.ref bw) (.ref bw) = some true)
    (jq17 : PySem.W.kitOne K (.ref bw) (.ref bx) = some false)
    (jq1z : PySem.W.kitOne K (.ref bw) (.ref bC) = some false)
    (jq55 : PySem.W.findIn K (.ref bx) "__getattribute__" = some (some (.builtin "BaseException.__getattribute__")))
    (jq4b : PySem.W.findIn K (.ref bx) "__getattr__" = some none)
    (jq56 : PySem.W.mroIn K bx (.type "BaseException") = some true)
    (jq57 : PySem.W.clsIn K bx = some ID)
    (jq58 : PySem.W.findIn K (.ref bx) "__class__" = some (some (.builtin "object.__class__")))
    (jq59 : PySem.W.mroIn K bx (.type "object") = some true)
    (jqi : PySem.W.exmOne K (.ref bx) (.ref aK) = some true)
    (jq1Q : PySem.W.kitOne K (.ref bx) (.ref b9) = some false)
    (jq1A : PySem.W.kitOne K (.ref bx) (.ref bB) = some false)
    (jqO : PySem.W.kitOne K (.ref bx) (.ref a9) = some false)
    (jqP : PySem.W.kitOne K (.ref bx) (.ref bb) = some false)
    (jqQ : PySem.W.kitOne K (.ref bx) (.ref aX) = some false)
    (jq18 : PySem.W.kitOne K (.ref bx) (.ref bu) = some false)
    (jq19 : PySem.W.kitOne K (.ref bx) (.ref bw) = some false)
    (jq1a : PySem.W.kitOne K (.ref bx) (.ref bx) = some true)
    (jq1B : PySem.W.kitOne K (.ref bx) (.ref bC) = some false)
    (jq4c : PySem.W.findIn K (.ref bT) "__getattribute__" = some (some (.builtin "BaseException.__getattribute__")))
    (jq3A : PySem.W.findIn K (.ref bT) "__getattr__" = some none)
    (jq4d : PySem.W.mroIn K bT (.type "BaseException") = some true)
    (jq4e : PySem.W.clsIn K bT = some FT)
    (jq4f : PySem.W.findIn K (.ref bT) "__class__" = some (some (.builtin "object.__class__")))
    (jq4g : PySem.W.mroIn K bT (.type "object") = some true)
    (jqe : PySem.W.exmOne K (.ref bT) (.ref aK) = some true)
    (jq1C : PySem.W.kitOne K (.ref bT) (.ref b9) = some false)
    (jq1b : PySem.W.kitOne K (.ref bT) (.ref bB) = some false)
    (jqv : PySem.W.kitOne K (.ref bT) (.ref a9) = some false)
    (jqw : PySem.W.kitOne K (.ref bT) (.ref bb) = some false)
    (jqx : PySem.W.kitOne K (.ref bT) (.ref aX) = some false)
    (jqR : PySem.W.kitOne K (.ref bT) (.ref bu) = some false)
    (jqS : PySem.W.kitOne K (.ref bT) (.ref bw) = some false)
    (jqT : PySem.W.kitOne K (.ref bT) (.ref bx) = some false)
    (jq1c : PySem.W.kitOne K (.ref bT) (.ref bC) = some false)
    (jq4r : PySem.W.findIn K (.ref bB) "__getattribute__" = some (some (.builtin "BaseException.__getattribute__")))
    (jq3B : PySem.W.findIn K (.ref bB) "__getattr__" = some none)
    (jq4s : PySem.W.mroIn K bB (.type "BaseException") = some true)
    (jq5o : PySem.W.clsIn K bB = some K4)
    (jq5p : PySem.W.findIn K (.ref bB) "__class__" = some (some (.builtin "object.__class__")))
    (jq5q : PySem.W.mroIn K bB (.type "object") = some true)
    (jq5a : K.lookup mD = some ⟨EE,Ey,.func (PySem.W.fnOf "__init__" "Barred.__init__" (az f9) (ax f9) (af f9) .none EF EG EH Ez wJ EI),EC⟩)
    (jq4h : PySem.W.codeIn K wJ "Barred.__init__" = true)
    (jq4i : PySem.W.keepIn K (.ref mD) = true)
    (jq5r : PySem.W.isFn K (.ref mD) = true)
    (jq5s : PySem.W.findIn K (.ref bB) "__setattr__" = some (some (.builtin "object.__setattr__")))
    (jq4t : PySem.W.findIn K (.ref bB) "bar" = some none)
    (jq5t : PySem.W.hasDictIn K bB = true)
    (jql : PySem.W.exmOne K (.ref bB) (.ref aK) = some true)
    (jq22 : PySem.W.kitOne K (.ref bB) (.ref b9) = some false)
    (jq1R : PySem.W.kitOne K (.ref bB) (.ref bB) = some true)
    (jq1d : PySem.W.kitOne K (.ref bB) (.ref a9) = some false)
    (jq1e : PySem.W.kitOne K (.ref bB) (.ref bb) = some false)
    (jq1f : PySem.W.kitOne K (.ref bB) (.ref aX) = some false)
    (jq1D : PySem.W.kitOne K (.ref bB) (.ref bu) = some false)
    (jq1E : PySem.W.kitOne K (.ref bB) (.ref bw) = some false)
    (jq1F : PySem.W.kitOne K (.ref bB) (.ref bx) = some false)
    (jq1S : PySem.W.kitOne K (.ref bB) (.ref bC) = some false)
    (jq3s : PySem.W.findIn K (.ref aX) "__getattribute__" = some (some (.builtin "BaseException.__getattribute__")))
    (jq3l : PySem.W.findIn K (.ref aX) "__getattr__" = some none)
    (jq3t : PySem.W.mroIn K aX (.type "BaseException") = some true)
    (jq4j : PySem.W.clsIn K aX = some F7)
    (jq4k : PySem.W.findIn K (.ref aX) "__class__" = some (some (.builtin "object.__class__")))
    (jq4l : PySem.W.mroIn K aX (.type "object") = some true)
    (jq3C : K.lookup ja = some ⟨Az,Aw,.func (PySem.W.fnOf "__init__" "NotLater.__init__" (az d3) (ax d3) (af d3) .none AA AB AD Ax sO AE),Ay⟩)
    (jq3w : PySem.W.codeIn K sO "NotLater.__init__" = true)
    (jq3x : PySem.W.keepIn K (.ref ja) = true)
    (jq4m : PySem.W.isFn K (.ref ja) = true)
    (jq4n : PySem.W.findIn K (.ref aX) "__setattr__" = some (some (.builtin "object.__setattr__")))
    (jq3u : PySem.W.findIn K (.ref aX) "sitting" = some none)
    (jq4o : PySem.W.hasDictIn K aX = true)
    (jqf : PySem.W.exmOne K (.ref aX) (.ref aK) = some true)
    (jq1G : PySem.W.kitOne K (.ref aX) (.ref b9) = some false)
    (jq1g : PySem.W.kitOne K (.ref aX) (.ref bB) = some false)
    (jqy : PySem.W.kitOne K (.ref aX) (.ref a9) = some false)
    (jqz : PySem.W.kitOne K (.ref aX) (.ref bb) = some false)
    (jqA : PySem.W.kitOne K (.ref aX) (.ref aX) = some true)
    (jqU : PySem.W.kitOne K (.ref aX) (.ref bu) = some false)
    (jqV : PySem.W.kitOne K (.ref aX) (.ref bw) = some false)
    (jqW : PySem.W.kitOne K (.ref aX) (.ref bx) = some false)
    (jq1h : PySem.W.kitOne K (.ref aX) (.ref bC) = some false)
    (jq4u : PySem.W.findIn K (.ref bC) "__getattribute__" = some (some (.builtin "BaseException.__getattribute__")))
    (jq3D : PySem.W.findIn K (.ref bC) "__getattr__" = some none)
    (jq4v : PySem.W.mroIn K bC (.type "BaseException") = some true)
    (jq5u : PySem.W.clsIn K bC = some Lh)
    (jq5v : PySem.W.findIn K (.ref bC) "__class__" = some (some (.builtin "object.__class__")))
    (jq5w : PySem.W.mroIn K bC (.type "object") = some true)
    (jq5b : K.lookup mE = some ⟨EJ,EA,.func (PySem.W.fnOf "__init__" "NotYet.__init__" (az gb) (ax gb) (af gb) .none EK EL EM EB wK EN),ED⟩)
    (jq4p : PySem.W.codeIn K wK "NotYet.__init__" = true)
    (jq4q : PySem.W.keepIn K (.ref mE) = true)
    (jq5x : PySem.W.isFn K (.ref mE) = true)
    (jq5y : PySem.W.findIn K (.ref bC) "__setattr__" = some (some (.builtin "object.__setattr__")))
    (jq4w : PySem.W.findIn K (.ref bC) "sitting" = some none)
    (jq5z : PySem.W.hasDictIn K bC = true)
    (jqm : PySem.W.exmOne K (.ref bC) (.ref aK) = some true)
    (jq23 : PySem.W.kitOne K (.ref bC) (.ref b9) = some false)
    (jq1T : PySem.W.kitOne K (.ref bC) (.ref bB) = some false)
    (jq1i : PySem.W.kitOne K (.ref bC) (.ref a9) = some false)
    (jq1j : PySem.W.kitOne K (.ref bC) (.ref bb) = some false)
    (jq1k : PySem.W.kitOne K (.ref bC) (.ref aX) = some false)
    (jq1H : PySem.W.kitOne K (.ref bC) (.ref bu) = some false)
    (jq1I : PySem.W.kitOne K (.ref bC) (.ref bw) = some false)
    (jq1J : PySem.W.kitOne K (.ref bC) (.ref bx) = some false)
    (jq1U : PySem.W.kitOne K (.ref bC) (.ref bC) = some true) :
    ∃ fd : FuncData,(∀ (s : Shared) (v : Value),BindsTo s fd ⟨[v],[]⟩ [("_law_script",v)]) ∧ ∀ base : Heap,K.In base → base.Ns mainGlobals mg → aw l.prog w K mg base CX0 20 fa fd ["_law_script"] (JK K):=by
  have e:=hfa.symm.trans (PySem.W.mg_of X G a_28)
  cases e
  have F_1:=aU (st:=vc) l_1 cc_1 kp_1
  have b_1:=F_1.binds (ps:=["things","edit"]) fun _ _ _ _ _ _ us hl=>match us,hl with | [_,_],_=>rfl
  have F_2:=aU (st:=gf) l_2 cc_2 kp_2
  have b_2:=F_2.binds (ps:=["things","edit"]) fun _ _ _ _ _ _ us hl=>match us,hl with | [_,_],_=>rfl
  have F_3:=aU (st:=vd) l_3 cc_3 kp_3
  have b_3:=F_3.binds (ps:=["things","edit"]) fun _ _ _ _ _ _ us hl=>match us,hl with | [_,_],_=>rfl
  have F_4:=aU (st:=jj) l_4 cc_4 kp_4
  have b_4:=F_4.binds (ps:=["clause"]) fun _ _ _ _ _ _ us hl=>match us,hl with | [_],_=>rfl
  have F_5:=aU (st:=iJ) l_5 cc_5 kp_5
  have b_5:=F_5.binds (ps:=["words"]) fun _ _ _ _ _ _ us hl=>match us,hl with | [_],_=>rfl
  have F_6:=aU (st:=iK) l_6 cc_6 kp_6
  have b_6:=F_6.binds (ps:=["told"]) fun _ _ _ _ _ _ us hl=>match us,hl with | [_],_=>rfl
  have F_7:=aU (st:=oa) l_7 cc_7 kp_7
  have b_7:=F_7.binds (ps:=["pile","closed"]) fun _ _ _ _ _ _ us hl=>match us,hl with | [_,_],_=>rfl
  have F_8:=aU (st:=fj) l_8 cc_8 kp_8
  have b_8:=F_8.binds (ps:=["pile"]) fun _ _ _ _ _ _ us hl=>match us,hl with | [_],_=>rfl
  have F_9:=aU (st:=d4) l_9 cc_9 kp_9
  have b_9:=F_9.binds (ps:=["pile"]) fun _ _ _ _ _ _ us hl=>match us,hl with | [_],_=>rfl
  have aaT:=aU (st:=cX) l_10 jq7j jq7k
  have adC:=aaT.binds (ps:=["kind","pile"]) fun _ _ _ _ _ _ us hl=>match us,hl with | [_,_],_=>rfl
  have aaU:=aU (st:=cZ) l_11 jq7l jq7m
  have adD:=aaU.binds (ps:=["kind","pile","closed"]) fun _ _ _ _ _ _ us hl=>match us,hl with | [_,_,_],_=>rfl
  have aaV:=aU (st:=d5) l_12 jq7n jq7o
  have adE:=aaV.binds (ps:=["text"]) fun _ _ _ _ _ _ us hl=>match us,hl with | [_],_=>rfl
  have aaW:=aU (st:=d6) l_13 jq7p jq7q
  have adF:=aaW.binds (ps:=["edit"]) fun _ _ _ _ _ _ us hl=>match us,hl with | [_],_=>rfl
  have aaX:=aU (st:=dP) l_14 jq7r jq7s
  have adG:=aaX.binds (ps:=["deed"]) fun _ _ _ _ _ _ us hl=>match us,hl with | [_],_=>rfl
  have aaY:=aU (st:=iL) l_15 jq7t jq7u
  have adH:=aaY.binds (ps:=["deed"]) fun _ _ _ _ _ _ us hl=>match us,hl with | [_],_=>rfl
  have aaZ:=aU (st:=lq) l_16 jq7v jq7w
  have adI:=aaZ.binds (ps:=["need","ayes","noes"]) fun _ _ _ _ _ _ us hl=>match us,hl with | [_,_,_],_=>rfl
  have aa0:=aU (st:=lu) l_17 jq7x jq7y
  have adJ:=aa0.binds (ps:=["chamber","deed"]) fun _ _ _ _ _ _ us hl=>match us,hl with | [_,_],_=>rfl
  have aa1:=aU (st:=iM) l_18 jq7z jq7A
  have adK:=aa1.binds (ps:=["_law_script","_law_k"]) fun _ _ _ _ _ _ us hl=>match us,hl with | [_,_],_=>rfl
  have aa2:=aU (st:=jm) l_19 jq7B jq7C
  have adL:=aa2.binds (ps:=["_law_cell","_law_many"]) fun _ _ _ _ _ _ us hl=>match us,hl with | [_,_],_=>rfl
  have aa3:=aU (st:=jn) l_20 jq7D jq7E
  have adM:=aa3.binds (ps:=["_law_draw"]) fun _ _ _ _ _ _ us hl=>match us,hl with | [_],_=>rfl
  have aa4:=aU (st:=oi) l_21 jq7F jq7G
  have adN:=aa4.binds (ps:=["_law_kind","_law_draw","_law_more"]) fun _ _ _ _ _ _ us hl=>match us,hl with | [_,_,_],_=>rfl
  have aa5:=aU (st:=lP) l_22 jq7H jq7I
  have adO:=aa5.binds (ps:=["_law_draws","_law_seats"]) fun _ _ _ _ _ _ us hl=>match us,hl with | [_,_],_=>rfl
  have aa6:=aU (st:=gh) l_23 jq7J jq7K
  have adP:=aa6.binds (ps:=["_law_chamber","_law_deed_here"]) fun _ _ _ _ _ _ us hl=>match us,hl with | [_,_],_=>rfl
  have aa7:=aU (st:=oo) l_24 jq7L jq7M
  have adQ:=aa7.binds (ps:=["_law_chamber","_law_deed_here","_law_by_method_here"]) fun _ _ _ _ _ _ us hl=>match us,hl with | [_,_,_],_=>rfl
  have aa8:=aU (st:=lx) l_25 jq7N jq7O
  have adR:=aa8.binds (ps:=["_law_caught"]) fun _ _ _ _ _ _ us hl=>match us,hl with | [_],_=>rfl
  have aa9:=aU (st:=ly) l_26 jq7P jq7Q
  have adS:=aa9.binds (ps:=["_law_caught"]) fun _ _ _ _ _ _ us hl=>match us,hl with | [_],_=>rfl
  have aba:=aU (st:=lz) l_27 jq7R jq7S
  have adT:=aba.binds (ps:=["_law_one","_law_other"]) fun _ _ _ _ _ _ us hl=>match us,hl with | [_,_],_=>rfl
  have adU:=aU (st:=sF) l_28 jq7T jq7U
  have QO:=aU (st:=fP) jq7V jq6k jq5N
  have abb:=QO.binds (ps:=["self"]) fun _ _ _ _ _ _ us hl=>match us,hl with | [_],_=>rfl
  have QP:=aU (st:=fQ) jq7W jq6m jq5P
  have abc:=QP.binds (ps:=["self"]) fun _ _ _ _ _ _ us hl=>match us,hl with | [_],_=>rfl
  have QQ:=aU (st:=iF) jq7X jq6o jq5R
  have abd:=QQ.binds (ps:=["self"]) fun _ _ _ _ _ _ us hl=>match us,hl with | [_],_=>rfl
  have QR:=aU (st:=fR) jq7Y jq6q jq5T
  have abe:=QR.binds (ps:=["self"]) fun _ _ _ _ _ _ us hl=>match us,hl with | [_],_=>rfl
  have QS:=aU (st:=gS) jq7Z jq6s jq5V
  have abf:=QS.binds (ps:=["self"]) fun _ _ _ _ _ _ us hl=>match us,hl with | [_],_=>rfl
  have QT:=aU (st:=ji) jq80 jq6u jq5X
  have abg:=QT.binds (ps:=["self"]) fun _ _ _ _ _ _ us hl=>match us,hl with | [_],_=>rfl
  have QU:=aU (st:=iG) jq81 jq6w jq5Z
  have abh:=QU.binds (ps:=["self"]) fun _ _ _ _ _ _ us hl=>match us,hl with | [_],_=>rfl
  have QV:=aU (st:=gU) jq82 jq6y jq61
  have abi:=QV.binds (ps:=["self"]) fun _ _ _ _ _ _ us hl=>match us,hl with | [_],_=>rfl
  have abj:=aU (st:=fS) l_mr jq83 jq3E
  have adV:=abj.binds (ps:=["self"]) fun _ _ _ _ _ _ us hl=>match us,hl with | [_],_=>rfl
  have abk:=aU (st:=fU) l_mn jq84 jq4y
  have IG:=abk.binds (ps:=["self"]) fun _ _ _ _ _ _ us hl=>match us,hl with | [_],_=>rfl
  have QW:=aU (st:=gW) jq85 jq6P jq63
  have abl:=QW.binds (ps:=["self"]) fun _ _ _ _ _ _ us hl=>match us,hl with | [_],_=>rfl
  have abm:=aU (st:=fV) l_mt jq86 jq5L
  have VN:=abm.binds (ps:=["self"]) fun _ _ _ _ _ _ us hl=>match us,hl with | [_],_=>rfl
  have QX:=aU (st:=fW) jq87 jq6U jq65
  have abn:=QX.binds (ps:=["self"]) fun _ _ _ _ _ _ us hl=>match us,hl with | [_],_=>rfl
  have QY:=aU (st:=fX) jq88 jq6W jq67
  have abo:=QY.binds (ps:=["self"]) fun _ _ _ _ _ _ us hl=>match us,hl with | [_],_=>rfl
  have QZ:=aU (st:=iH) jq89 jq6Y jq69
  have abp:=QZ.binds (ps:=["self"]) fun _ _ _ _ _ _ us hl=>match us,hl with | [_],_=>rfl
  have Q0:=aU (st:=fY) jq8a jq70 jq6b
  have abq:=Q0.binds (ps:=["self"]) fun _ _ _ _ _ _ us hl=>match us,hl with | [_],_=>rfl
  have Q1:=aU (st:=gX) jq8b jq72 jq6d
  have abr:=Q1.binds (ps:=["self"]) fun _ _ _ _ _ _ us hl=>match us,hl with | [_],_=>rfl
  have Q2:=aU (st:=fZ) jq8c jq74 jq75
  have abt:=Q2.binds (ps:=["self","text"]) fun _ _ _ _ _ _ us hl=>match us,hl with | [_,_],_=>rfl
  have Q3:=aU (st:=f6) jq8d jq77 jq78
  have abu:=Q3.binds (ps:=["self","edit"]) fun _ _ _ _ _ _ us hl=>match us,hl with | [_,_],_=>rfl
  have Q4:=aU (st:=iI) jq8e jq7a jq7b
  have abv:=Q4.binds (ps:=["self","edit"]) fun _ _ _ _ _ _ us hl=>match us,hl with | [_,_],_=>rfl
  have Q5:=aU (st:=f7) jq8f jq7d jq7e
  have abw:=Q5.binds (ps:=["self","sitting"]) fun _ _ _ _ _ _ us hl=>match us,hl with | [_,_],_=>rfl
  have Q6:=aU (st:=gY) jq8g jq7g jq7h
  have abx:=Q6.binds (ps:=["self","clause"]) fun _ _ _ _ _ _ us hl=>match us,hl with | [_,_],_=>rfl
  have gB:=aU (st:=eN) jq3n jq34 jq35
  have gC:=gB.binds (ps:=["self","seats"]) fun _ _ _ _ _ _ us hl=>match us,hl with | [_,_],_=>rfl
  have gD:=aU (st:=eO) jq3o jq38 jq2C
  have gF:=gD.binds (ps:=["self","told"]) fun _ _ _ _ _ _ us hl=>match us,hl with | [_,_],_=>rfl
  have gG:=aU (st:=eP) jq3p jq3b jq2D
  have gH:=gG.binds (ps:=["self","ayes","noes"]) fun _ _ _ _ _ _ us hl=>match us,hl with | [_,_,_],_=>rfl
  have gI:=aU (st:=eQ) jq3q jq3e jq2E
  have gJ:=gI.binds (ps:=["self"]) fun _ _ _ _ _ _ us hl=>match us,hl with | [_],_=>rfl
  have gK:=aU (st:=eR) jq3r jq3h jq2F
  have gL:=gK.binds (ps:=["self","number"]) fun _ _ _ _ _ _ us hl=>match us,hl with | [_,_],_=>rfl
  have fH:=aU (st:=du) jq3j jq2W jq2z
  have fJ:=fH.binds (ps:=["self"]) fun _ _ _ _ _ _ us hl=>match us,hl with | [_],_=>rfl
  have eS:=aU (st:=dN) jq2Y jq2N jq2n
  have eT:=eS.binds (ps:=["self","number"]) fun _ _ _ _ _ _ us hl=>match us,hl with | [_,_],_=>rfl
  have ei:=aU (st:=cR) jq2P jq2K jq2i
  have ej:=ei.binds (ps:=["self"]) fun _ _ _ _ _ _ us hl=>match us,hl with | [_],_=>rfl
  have dg:=aU (st:=cL) jq2s jq2l jq1Y
  have et:=dg.binds (ps:=["self","number"]) fun _ _ _ _ _ _ us hl=>match us,hl with | [_,_],_=>rfl
  have bW:=aU (st:=bM) jq1q jq1m jqn
  have cE:=bW.binds (ps:=["self","told"]) fun _ _ _ _ _ _ us hl=>match us,hl with | [_,_],_=>rfl
  have cC:=aU (st:=bX) jq1Z jq1W jqB
  have cD:=cC.binds (ps:=["self"]) fun _ _ _ _ _ _ us hl=>match us,hl with | [_],_=>rfl
  have eU:=aU (st:=dO) jq2Z jq2R jq2o
  have eV:=eU.binds (ps:=["self","word"]) fun _ _ _ _ _ _ us hl=>match us,hl with | [_,_],_=>rfl
  have cS:=aU (st:=cA) jq2j jq2e jq1K
  have cT:=cS.binds (ps:=["self","deed"]) fun _ _ _ _ _ _ us hl=>match us,hl with | [_,_],_=>rfl
  have dB:=aU (st:=cV) jq2A jq2u jq24
  have eJ:=dB.binds (ps:=["self","motion"]) fun _ _ _ _ _ _ us hl=>match us,hl with | [_,_],_=>rfl
  have cN:=aU (st:=ck) jq2g jq27 jq1o
  have dn:=cN.binds (ps:=["self","edit"]) fun _ _ _ _ _ _ us hl=>match us,hl with | [_,_],_=>rfl
  have cO:=aU (st:=cn) jq2h jq2a jq1p
  have dq:=cO.binds (ps:=["self","edit"]) fun _ _ _ _ _ _ us hl=>match us,hl with | [_,_],_=>rfl
  have dC:=aU (st:=cW) jq2B jq2x jq25
  have dD:=dC.binds (ps:=["self","until"]) fun _ _ _ _ _ _ us hl=>match us,hl with | [_,_],_=>rfl
  have lZ:=aU (st:=f9) jq5a jq4h jq4i
  have l6:=lZ.binds (ps:=["self","bar"]) fun _ _ _ _ _ _ us hl=>match us,hl with | [_,_],_=>rfl
  have iX:=aU (st:=d3) jq3C jq3w jq3x
  have kZ:=iX.binds (ps:=["self","sitting"]) fun _ _ _ _ _ _ us hl=>match us,hl with | [_,_],_=>rfl
  have l7:=aU (st:=gb) jq5b jq4p jq4q
  have pD:=l7.binds (ps:=["self","sitting"]) fun _ _ _ _ _ _ us hl=>match us,hl with | [_,_],_=>rfl
  have T : Txt P K mg ⟨f_1,_,f_2,_,f_3,_,f_4,_,f_5,_,f_6,_,f_7,_,f_8,_,f_9,_,Pm,_,Pn,_,Po,_,Pp,_,Pq,_,Pr,_,Pt,_,Pu,_,Pw,_,Px,_,Py,_,Pz,_,PB,_,PD,_,PF,_,PH,_,PK,_,PL,_,jK,c0,c1,c2,c3,c4,c5,c6,c7,cm,tb,Ec,_,Ee,_,Ef,_,Eg,_,Eh,_,Ei,_,Ej,_,Ek,_,xa,_,zU,_,El,_,Hq,_,Em,_,En,_,Eo,_,Ep,_,Er,_,Es,_,Et,_,Eu,_,Ew,_,Ex,_,bc,cH,_,cu,_,cv,_,cw,_,cx,_,cz,_,cc,_,bP,_,bG,_,aQ,_,aZ,_,bR,_,bf,_,bN,_,bj,_,bp,_,bO,_,aK,b9,bB,a9,bb,aX,bu,bw,bx,bC,bT,mD,_,ja,_,mE,_⟩:={
    GJ:=F_1,
    Mz:=b_1,
    MA:=PySem.W.mg_of X G a_1,
    ig:=F_2,
    jL:=b_2,
    jM:=PySem.W.mg_of X G a_2,
    Ca:=F_3,
    GK:=b_3,
    GL:=PySem.W.mg_of X G a_3,
    iA:=F_4,
    jq:=b_4,
    jr:=PySem.W.mg_of X G a_4,
    mZ:=F_5,
    qI:=b_5,
    qJ:=PySem.W.mg_of X G a_5,
    m3:=F_6,
    wk:=b_6,
    wm:=PySem.W.mg_of X G a_6,
    uj:=F_7,
    y9:=b_7,
    za:=PySem.W.mg_of X G a_7,
    kY:=F_8,
    ph:=b_8,
    pj:=PySem.W.mg_of X G a_8,
    kz:=F_9,
    pU:=b_9,
    pV:=PySem.W.mg_of X G a_9,
    ia:=aaT,
    kP:=adC,
    kQ:=PySem.W.mg_of X G a_10,
    iB:=aaU,
    lR:=adD,
    lS:=PySem.W.mg_of X G a_11,
    kA:=aaV,
    pW:=adE,
    pX:=PySem.W.mg_of X G a_12,
    kB:=aaW,
    pY:=adF,
    pZ:=PySem.W.mg_of X G a_13,
    lT:=aaX,
    qK:=adG,
    qL:=PySem.W.mg_of X G a_14,
    jU:=aaY,
    m5:=adH,
    m6:=PySem.W.mg_of X G a_15,
    vf:=aaZ,
    A5:=adI,
    A6:=PySem.W.mg_of X G a_16,
    vg:=aa0,
    A7:=adJ,
    A8:=PySem.W.mg_of X G a_17,
    qM:=aa1,
    wo:=adK,
    wq:=PySem.W.mg_of X G a_18,
    sW:=aa2,
    zb:=adL,
    zc:=PySem.W.mg_of X G a_19,
    lU:=aa3,
    pq:=adM,
    pw:=PySem.W.mg_of X G a_20,
    zd:=aa4,
    Ds:=adN,
    Dt:=PySem.W.mg_of X G a_21,
    ze:=aa5,
    Du:=adO,
    Dv:=PySem.W.mg_of X G a_22,
    nq:=aa6,
    sG:=adP,
    sH:=PySem.W.mg_of X G a_23,
    uk:=aa7,
    zf:=adQ,
    zg:=PySem.W.mg_of X G a_24,
    rZ:=aa8,
    vh:=adR,
    vi:=PySem.W.mg_of X G a_25,
    r6:=aa9,
    vj:=adS,
    vk:=PySem.W.mg_of X G a_26,
    vm:=aba,
    A9:=adT,
    Ba:=PySem.W.mg_of X G a_27,
    Cb:=PySem.W.mg_none_of X G z1,
    pA:=PySem.W.mg_none_of X G z2,
    bY:=PySem.W.mg_none_of X G z3,
    Jb:=PySem.W.mg_none_of X G z4,
    P5:=PySem.W.mg_none_of X G z5,
    P6:=PySem.W.mg_none_of X G z6,
    P7:=PySem.W.mg_none_of X G z7,
    Dw:=PySem.W.mg_none_of X G z8,
    Dx:=PySem.W.mg_none_of X G z9,
    Cc:=PySem.W.mg_none_of X G z10,
    um:=PySem.W.mg_of X G jq3v,
    cl:=fun k hk=>match k,hk with | 0,_=>⟨pg0,hd0,po0,sa0⟩ | 1,_=>⟨pg1,hd1,po1,sa1⟩ | 2,_=>⟨pg2,hd2,po2,sa2⟩ | 3,_=>⟨pg3,hd3,po3,sa3⟩ | 4,_=>⟨pg4,hd4,po4,sa4⟩ | 5,_=>⟨pg5,hd5,po5,sa5⟩ | 6,_=>⟨pg6,hd6,po6,sa6⟩ | 7,_=>⟨pg7,hd7,po7,sa7⟩ | n + 8,h=>absurd h (by omega),
    uo:=PySem.W.mg_of X G ac0,
    uq:=PySem.W.mg_of X G ac1,
    GN:=PySem.W.mg_of X G ac2,
    zh:=PySem.W.mg_of X G ac3,
    Cd:=PySem.W.mg_of X G ac4,
    MB:=PySem.W.mg_of X G ac5,
    GO:=PySem.W.mg_of X G ac6,
    Ce:=PySem.W.mg_of X G ac7,
    Cg:=PySem.W.mg_of X G atb,
    tb:=⟨est,nt,ltb,ktb⟩,
    rk:=fun k hk=>match k,hk with | 0,_=>⟨_,rk0⟩ | 1,_=>⟨_,rk1⟩ | 2,_=>⟨_,rk2⟩ | 3,_=>⟨_,rk3⟩ | 4,_=>⟨_,rk4⟩ | 5,_=>⟨_,rk5⟩ | 6,_=>⟨_,rk6⟩ | 7,_=>⟨_,rk7⟩ | n + 8,h=>absurd h (by omega),
    nr:=fun k hk=>match k,hk with | 0,_=>⟨jq5M,jq6l,jq5N⟩ | 1,_=>⟨jq5O,jq6n,jq5P⟩ | 2,_=>⟨jq5Q,jq6p,jq5R⟩ | 3,_=>⟨jq5S,jq6r,jq5T⟩ | 4,_=>⟨jq5U,jq6t,jq5V⟩ | 5,_=>⟨jq5W,jq6v,jq5X⟩ | 6,_=>⟨jq5Y,jq6x,jq5Z⟩ | 7,_=>⟨jq60,jq6z,jq61⟩ | n + 8,h=>absurd h (by omega),
    nv:=fun k hk=>match k,hk with | 0,_=>abb | 1,_=>abc | 2,_=>abd | 3,_=>abe | 4,_=>abf | 5,_=>abg | 6,_=>abh | 7,_=>abi | n + 8,h=>absurd h (by omega),
    MC:=fun k hk=>match k,hk with | 0,_=>⟨jq6I,jq5c,jq4y⟩ | 1,_=>⟨jq6J,jq5c,jq4y⟩ | 2,_=>⟨jq6K,jq5c,jq4y⟩ | 3,_=>⟨jq6L,jq5c,jq4y⟩ | 4,_=>⟨jq62,jq6Q,jq63⟩ | 5,_=>⟨jq6M,jq5c,jq4y⟩ | 6,_=>⟨jq6N,jq5c,jq4y⟩ | 7,_=>⟨jq6O,jq5c,jq4y⟩ | n + 8,h=>absurd h (by omega),
    MD:=fun k hk=>match k,hk with | 0,_=>IG | 1,_=>IG | 2,_=>IG | 3,_=>IG | 4,_=>abl | 5,_=>IG | 6,_=>IG | 7,_=>IG | n + 8,h=>absurd h (by omega),
    GP:=fun k hk=>match k,hk with | 0,_=>⟨jq64,jq6V,jq65⟩ | 1,_=>⟨jq66,jq6X,jq67⟩ | 2,_=>⟨jq68,jq6Z,jq69⟩ | 3,_=>⟨jq6a,jq71,jq6b⟩ | 4,_=>⟨jq6R,jq6j,jq5L⟩ | 5,_=>⟨jq6S,jq6j,jq5L⟩ | 6,_=>⟨jq6T,jq6j,jq5L⟩ | 7,_=>⟨jq6c,jq73,jq6d⟩ | n + 8,h=>absurd h (by omega),
    GQ:=fun k hk=>match k,hk with | 0,_=>abn | 1,_=>abo | 2,_=>abp | 3,_=>abq | 4,_=>VN | 5,_=>VN | 6,_=>VN | 7,_=>abr | n + 8,h=>absurd h (by omega),
    ME:=fun k hk=>match k,hk with | 0,_=>⟨jq6A,jq4x,jq3E⟩ | 1,_=>⟨jq6B,jq4x,jq3E⟩ | 2,_=>⟨jq6C,jq4x,jq3E⟩ | 3,_=>⟨jq6D,jq4x,jq3E⟩ | 4,_=>⟨jq6E,jq4x,jq3E⟩ | 5,_=>⟨jq6F,jq4x,jq3E⟩ | 6,_=>⟨jq6G,jq4x,jq3E⟩ | 7,_=>⟨jq6H,jq4x,jq3E⟩ | n + 8,h=>absurd h (by omega),
    MF:=fun _ _=>adV,
    WC:=QO,
    WD:=QP,
    WE:=QQ,
    WG:=QR,
    WH:=QS,
    WI:=QT,
    WJ:=QU,
    WK:=QV,
    F_r:=abj,
    F_n:=abk,
    WL:=QW,
    F_t:=abm,
    WM:=QX,
    WN:=QY,
    WO:=QZ,
    WQ:=Q0,
    WR:=Q1,
    WS:=Q2,
    WT:=Q3,
    WU:=Q4,
    WV:=Q5,
    WW:=Q6,
    ur:=⟨mk0,jq6e,jq76,kc0⟩,
    OO:=abt,
    na0:=na0,
    uu:=⟨mk1,jq6f,jq79,kc1⟩,
    OP:=abu,
    na1:=na1,
    GR:=⟨mk2,jq6g,jq7c,kc2⟩,
    Sf:=abv,
    na2:=na2,
    zi:=⟨mk3,jq6h,jq7f,kc3⟩,
    Sg:=abw,
    na3:=na3,
    Ci:=⟨mk7,jq6i,jq7i,kc7⟩,
    Si:=abx,
    na7:=na7,
    mkn:=fun k hk=>by
      rcases hk with rfl | rfl | rfl
      · exact ⟨mk4,ni4,kc4⟩
      · exact ⟨mk5,ni5,kc5⟩
      · exact ⟨mk6,ni6,kc6⟩,
    vn:=PySem.W.mg_of X G jq4z,
    ai:=⟨jq4A,jq4B,jq4C,jq4D⟩,
    gB:=gB,
    gC:=gC,
    vo:=⟨jq4E,jq33,jq36,jq4F⟩,
    gD:=gD,
    gF:=gF,
    lV:=⟨jq37,jq39,jq2C⟩,
    gG:=gG,
    gH:=gH,
    lW:=⟨jq3a,jq3c,jq2D⟩,
    gI:=gI,
    gJ:=gJ,
    lX:=⟨jq3d,jq3f,jq2E⟩,
    gK:=gK,
    gL:=gL,
    lY:=⟨jq3g,jq3i,jq2F⟩,
    fH:=fH,
    fJ:=fJ,
    kD:=⟨jq2V,jq2X,jq2z⟩,
    eS:=eS,
    eT:=eT,
    js:=⟨jq2M,jq2O,jq2n⟩,
    ei:=ei,
    ej:=ej,
    iW:=⟨jq2J,jq2L,jq2i⟩,
    dg:=dg,
    et:=et,
    jV:=⟨jq2k,jq2m,jq1Y⟩,
    bW:=bW,
    cE:=cE,
    fb:=⟨jq1l,jq1n,jqn⟩,
    cC:=cC,
    cD:=cD,
    dX:=⟨jq1V,jq1X,jqB⟩,
    eU:=eU,
    eV:=eV,
    jt:=⟨jq2Q,jq2S,jq2o⟩,
    cS:=cS,
    cT:=cT,
    fm:=⟨jq2d,jq2f,jq1K⟩,
    dB:=dB,
    eJ:=eJ,
    kR:=⟨jq2t,jq2v,jq24⟩,
    cN:=cN,
    dn:=dn,
    iN:=⟨jq26,jq28,jq1o⟩,
    cO:=cO,
    dq:=dq,
    iO:=⟨jq29,jq2b,jq1p⟩,
    dC:=dC,
    dD:=dD,
    ib:=⟨jq2w,jq2y,jq25⟩,
    jqX:=jqX,
    jq1:=jq1,
    jq4:=jq4,
    jq2:=jq2,
    jq0:=jq0,
    jq3:=jq3,
    jqj:=jqj,
    jqb:=jqb,
    jq5:=jq5,
    jqk:=jqk,
    gM:=PySem.W.mg_of X G jq3k,
    Cj:=PySem.W.mg_of X G jq5B,
    qN:=PySem.W.mg_of X G jq5d,
    sX:=PySem.W.mg_of X G jq3F,
    sY:=PySem.W.mg_of X G jq3G,
    pB:=PySem.W.mg_of X G jq3H,
    vp:=PySem.W.mg_of X G jq4G,
    vq:=PySem.W.mg_of X G jq4H,
    vr:=PySem.W.mg_of X G jq4I,
    uv:=PySem.W.mg_of X G jq5e,
    zj:=PySem.W.mg_of X G jq3I,
    iy:=⟨jq30,jq31,jq32⟩,
    jq3m:=jq3m,
    jq2T:=jq2T,
    jq2p:=jq2p,
    jq2q:=jq2q,
    jq2r:=jq2r,
    jq2G:=jq2G,
    jq2H:=jq2H,
    jq2I:=jq2I,
    jq2U:=jq2U,
    ij:=⟨⟨jq5G,jq5n,jq5H⟩,by rw [jq5I]; rfl,jq5J,xhn,xhtk,jq5K⟩,
    Dy:=⟨⟨_,_,_,_,_,_,_,_,_,_,_,_,_,_,_,_,jq5C,⟨⟨_,_,_,_,_,jq5D,jq5E⟩,jq5F⟩,(iT.own jq6 (by rw [jq7]; exact ⟨⟨_,_,_,_,_,jq8,jq9⟩,jqa⟩) iT.base)⟩⟩,
    jqo:=jqo,
    jq2c:=jq2c,
    jq20:=jq20,
    jq1r:=jq1r,
    jq1s:=jq1s,
    jq1t:=jq1t,
    jq1L:=jq1L,
    jq1M:=jq1M,
    jq1N:=jq1N,
    jq21:=jq21,
    dG:=⟨⟨jq3Z,jq3y,jq40⟩,by rw [jq41]; rfl,jq42,xhn,xhtk,jq43⟩,
    wu:=⟨⟨_,_,_,_,_,_,_,_,_,_,_,_,_,_,_,_,jq3J,⟨⟨_,_,_,_,_,jq3N,jq3O⟩,jq3P⟩,(iT.own jq6 (by rw [jq7]; exact ⟨⟨_,_,_,_,_,jq8,jq9⟩,jqa⟩) iT.base)⟩⟩,
    jqc:=jqc,
    jq1u:=jq1u,
    jqY:=jqY,
    jqp:=jqp,
    jqq:=jqq,
    jqr:=jqr,
    jqC:=jqC,
    jqD:=jqD,
    jqE:=jqE,
    jqZ:=jqZ,
    dH:=⟨⟨jq44,jq3z,jq45⟩,by rw [jq46]; rfl,jq47,xhn,xhtk,jq48⟩,
    wx:=⟨⟨_,_,_,_,_,_,_,_,_,_,_,_,_,_,_,_,jq3K,⟨⟨_,_,_,_,_,jq3Q,jq3R⟩,jq3S⟩,(iT.own jq6 (by rw [jq7]; exact ⟨⟨_,_,_,_,_,jq8,jq9⟩,jqa⟩) iT.base)⟩⟩,
    jqd:=jqd,
    jq1v:=jq1v,
    jq10:=jq10,
    jqs:=jqs,
    jqt:=jqt,
    jqu:=jqu,
    jqF:=jqF,
    jqG:=jqG,
    jqH:=jqH,
    jq11:=jq11,
    eE:=⟨⟨jq4V,jq49,jq4W⟩,by rw [jq4X]; rfl,jq4Y,xhn,xhtk,jq4Z⟩,
    zk:=⟨⟨_,_,_,_,_,_,_,_,_,_,_,_,_,_,_,_,jq4J,⟨⟨_,_,_,_,_,jq4M,jq4N⟩,jq4O⟩,(iT.own jq6 (by rw [jq7]; exact ⟨⟨_,_,_,_,_,jq8,jq9⟩,jqa⟩) iT.base)⟩⟩,
    jqg:=jqg,
    jq1O:=jq1O,
    jq1w:=jq1w,
    jqI:=jqI,
    jqJ:=jqJ,
    jqK:=jqK,
    jq12:=jq12,
    jq13:=jq13,
    jq14:=jq14,
    jq1x:=jq1x,
    eF:=⟨⟨jq50,jq4a,jq51⟩,by rw [jq52]; rfl,jq53,xhn,xhtk,jq54⟩,
    zm:=⟨⟨_,_,_,_,_,_,_,_,_,_,_,_,_,_,_,_,jq4K,⟨⟨_,_,_,_,_,jq4P,jq4Q⟩,jq4R⟩,(iT.own jq6 (by rw [jq7]; exact ⟨⟨_,_,_,_,_,jq8,jq9⟩,jqa⟩) iT.base)⟩⟩,
    jqh:=jqh,
    jq1P:=jq1P,
    jq1y:=jq1y,
    jqL:=jqL,
    jqM:=jqM,
    jqN:=jqN,
    jq15:=jq15,
    jq16:=jq16,
    jq17:=jq17,
    jq1z:=jq1z,
    eG:=⟨⟨jq55,jq4b,jq56⟩,by rw [jq57]; rfl,jq58,xhn,xhtk,jq59⟩,
    zo:=⟨⟨_,_,_,_,_,_,_,_,_,_,_,_,_,_,_,_,jq4L,⟨⟨_,_,_,_,_,jq4S,jq4T⟩,jq4U⟩,(iT.own jq6 (by rw [jq7]; exact ⟨⟨_,_,_,_,_,jq8,jq9⟩,jqa⟩) iT.base)⟩⟩,
    jqi:=jqi,
    jq1Q:=jq1Q,
    jq1A:=jq1A,
    jqO:=jqO,
    jqP:=jqP,
    jqQ:=jqQ,
    jq18:=jq18,
    jq19:=jq19,
    jq1a:=jq1a,
    jq1B:=jq1B,
    dI:=⟨⟨jq4c,jq3A,jq4d⟩,by rw [jq4e]; rfl,jq4f,xhn,xhtk,jq4g⟩,
    wz:=⟨⟨_,_,_,_,_,_,_,_,_,_,_,_,_,_,_,_,jq3L,⟨⟨_,_,_,_,_,jq3T,jq3U⟩,jq3V⟩,(iT.own jq6 (by rw [jq7]; exact ⟨⟨_,_,_,_,_,jq8,jq9⟩,jqa⟩) iT.base)⟩⟩,
    jqe:=jqe,
    jq1C:=jq1C,
    jq1b:=jq1b,
    jqv:=jqv,
    jqw:=jqw,
    jqx:=jqx,
    jqR:=jqR,
    jqS:=jqS,
    jqT:=jqT,
    jq1c:=jq1c,
    gi:=⟨⟨jq4r,jq3B,jq4s⟩,by rw [jq5o]; rfl,jq5p,xhn,xhtk,jq5q⟩,
    lZ:=lZ,
    l6:=l6,
    oz:=⟨⟨_,_,_,_,_,_,_,_,_,_,_,_,_,_,_,_,jq5f,(iT.own jq6 (by rw [jq7]; exact ⟨⟨_,_,_,_,_,jq8,jq9⟩,jqa⟩) iT.base),rfl,⟨⟨_,_,_,_,_,jq5h,jq5i⟩,jq5j⟩⟩,jq5r,jq5s,jq4t⟩,
    Bb:=⟨⟨jq4r,jq3B,jq4s⟩,jq4t,jq5t⟩,
    jql:=jql,
    jq22:=jq22,
    jq1R:=jq1R,
    jq1d:=jq1d,
    jq1e:=jq1e,
    jq1f:=jq1f,
    jq1D:=jq1D,
    jq1E:=jq1E,
    jq1F:=jq1F,
    jq1S:=jq1S,
    dJ:=⟨⟨jq3s,jq3l,jq3t⟩,by rw [jq4j]; rfl,jq4k,xhn,xhtk,jq4l⟩,
    iX:=iX,
    kZ:=kZ,
    m7:=⟨⟨_,_,_,_,_,_,_,_,_,_,_,_,_,_,_,_,jq3M,(iT.own jq6 (by rw [jq7]; exact ⟨⟨_,_,_,_,_,jq8,jq9⟩,jqa⟩) iT.base),rfl,⟨⟨_,_,_,_,_,jq3W,jq3X⟩,jq3Y⟩⟩,jq4m,jq4n,jq3u⟩,
    wA:=⟨⟨jq3s,jq3l,jq3t⟩,jq3u,jq4o⟩,
    jqf:=jqf,
    jq1G:=jq1G,
    jq1g:=jq1g,
    jqy:=jqy,
    jqz:=jqz,
    jqA:=jqA,
    jqU:=jqU,
    jqV:=jqV,
    jqW:=jqW,
    jq1h:=jq1h,
    gj:=⟨⟨jq4u,jq3D,jq4v⟩,by rw [jq5u]; rfl,jq5v,xhn,xhtk,jq5w⟩,
    l7:=l7,
    pD:=pD,
    r8:=⟨⟨_,_,_,_,_,_,_,_,_,_,_,_,_,_,_,_,jq5g,(iT.own jq6 (by rw [jq7]; exact ⟨⟨_,_,_,_,_,jq8,jq9⟩,jqa⟩) iT.base),rfl,⟨⟨_,_,_,_,_,jq5k,jq5l⟩,jq5m⟩⟩,jq5x,jq5y,jq4w⟩,
    Bc:=⟨⟨jq4u,jq3D,jq4v⟩,jq4w,jq5z⟩,
    jqm:=jqm,
    jq23:=jq23,
    jq1T:=jq1T,
    jq1i:=jq1i,
    jq1j:=jq1j,
    jq1k:=jq1k,
    jq1H:=jq1H,
    jq1I:=jq1I,
    jq1J:=jq1J,
    jq1U:=jq1U }
  subst hP
  exact ⟨PySem.W.fnOf "law" "law" (az sF) (ax sF) (af sF) .none QH QI QJ Qo Ny QK,fun s v=>.of_eq rfl,fun base _ _=>SR adU T⟩
theorem walk {l : PySem.W.OpenLaw} {q : Program} {loose : List Str} {XP : (Str → Option Value) → Heap → Prop} {YP : World → Heap → Prop} {d : DefRec} {K : Params → PySem.W.Frag} (hn : l.most = some 63) (hdf : d.params.defaults = [])
    (hY : ∀ (w : World) (h : Heap),YP w h → (K w.params).In h)
    (F : ∀ (w : World) (mg : Str → Option Value) (fa : Addr) (h : Heap),(K w.params).In h → h.Ns mainGlobals mg → mg d.name = some (.ref fa) →
      ∃ fd : FuncData,(∀ (s : Shared) (u : Value),BindsTo s fd ⟨[u],[]⟩ [("_law_script",u)]) ∧ ∀ base : Heap,(K w.params).In base → base.Ns mainGlobals mg → aw l.prog w (K w.params) mg base CX0 20 fa fd ["_law_script"] (JK (K w.params))) :
    PySem.W.WalkO q loose XP YP l.row.toRowW d [] (fun f vs=>PySem.call f vs) :=
  L2.Oq (n:=63) (k:=20) (x:="_law_script") (CX:=fun _=>CX0) (sp:=fun w=>JK (K w.params)) hn (by decide) hdf ⟨rfl,by decide,by decide,rfl⟩ hY F (fun _ _ a ns hl _ hS=>⟨a,ns,rfl,hS,hl,fun _=>rfl⟩) fun _ _ _ _ _ z=>z
end My
def PySem.W.Fast.tw12035270252522043904 : Unit:=()
def PySem.W.Fast.tw17340953796553651227 : Unit:=()
def PySem.W.Fast.tw5930892376737850102 : Unit:=()
def PySem.W.Fast.tw5425179033594331357 : Unit:=()
def PySem.W.Fast.tw14777070029008055868 : Unit:=()
def PySem.W.Fast.tw2836454890055564942 : Unit:=()
def PySem.W.Fast.tw10470251886299553571 : Unit:=()
def PySem.W.Fast.tw1947154885708601595 : Unit:=()
def PySem.W.Fast.tw1093198446380783745 : Unit:=()
def PySem.W.Fast.tw9886144197673801890 : Unit:=()
def PySem.W.Fast.tw9924373957520453880 : Unit:=()
def PySem.W.Fast.tw2131946062355821462 : Unit:=()
def PySem.W.Fast.tw4412973634353855916 : Unit:=()
def PySem.W.Fast.tw14490377617627418519 : Unit:=()
def PySem.W.Fast.tw16348236087196329716 : Unit:=()
def PySem.W.Fast.tw982224748288074925 : Unit:=()
def PySem.W.Fast.tw13997940051577381628 : Unit:=()
def PySem.W.Fast.tw724168136502084840 : Unit:=()
def PySem.W.Fast.tw9531352524106208410 : Unit:=()
def PySem.W.Fast.tw14544316468717671513 : Unit:=()
def PySem.W.Fast.tw13550019702765010149 : Unit:=()
def PySem.W.Fast.tw4785524106237327370 : Unit:=()
def PySem.W.Fast.tw8097321624356359888 : Unit:=()
def PySem.W.Fast.tw17378588464436202782 : Unit:=()
def PySem.W.Fast.tw13606721272269440555 : Unit:=()
def PySem.W.Fast.tw1662013867847531725 : Unit:=()
def PySem.W.Fast.tw15833835967881752493 : Unit:=()
def PySem.W.Fast.tw5403996254262568757 : Unit:=()
def PySem.W.Fast.tw15848877843022013193 : Unit:=()
def PySem.W.Fast.tw3157856688081828721 : Unit:=()
def PySem.W.Fast.tw2383358032824834894 : Unit:=()
def PySem.W.Fast.tw13549203256742250429 : Unit:=()
def PySem.W.Fast.tw13346696258352679514 : Unit:=()
def PySem.W.Fast.tw4699539954472402002 : Unit:=()
def PySem.W.Fast.tw14304697969628323520 : Unit:=()
def PySem.W.Fast.tw15738225674034765023 : Unit:=()
def PySem.W.Fast.tw10271369912160073299 : Unit:=()
def PySem.W.Fast.tw1931064231097650016 : Unit:=()
def PySem.W.Fast.tw2326195131968433568 : Unit:=()
def PySem.W.Fast.tw13311759244034257935 : Unit:=()
def PySem.W.Fast.tw10889980827607909182 : Unit:=()
def PySem.W.Fast.tw9848756713439832493 : Unit:=()
def PySem.W.Fast.tw646705779973703071 : Unit:=()
def PySem.W.Fast.tw7142427836515928854 : Unit:=()
def PySem.W.Fast.tw16747957646754946412 : Unit:=()
def PySem.W.Fast.tw13265528178757057018 : Unit:=()
def PySem.W.Fast.tw7019676829212888402 : Unit:=()
def PySem.W.Fast.tw7999175406755846317 : Unit:=()
def PySem.W.Fast.tw13714875052396330946 : Unit:=()
def PySem.W.Fast.tw503806062364727748 : Unit:=()
def PySem.W.Fast.tw13691426044213989224 : Unit:=()
def PySem.W.Fast.tw2611332568308513704 : Unit:=()
def PySem.W.Fast.tw1363844789686193677 : Unit:=()
def PySem.W.Fast.tw8593290252930570351 : Unit:=()
def PySem.W.Fast.tw9930902257733947231 : Unit:=()
def PySem.W.Fast.tw11798495665834756972 : Unit:=()
def PySem.W.Fast.tw9930552399206405809 : Unit:=()
def PySem.W.Fast.tw10127748827447437211 : Unit:=()
def PySem.W.Fast.tw2527188142167354125 : Unit:=()
def PySem.W.Fast.tw1597862800767720066 : Unit:=()
def PySem.W.Fast.tw13470750362014938886 : Unit:=()
def PySem.W.Fast.tw17806288911582842557 : Unit:=()
def PySem.W.Fast.tw7806508210500175605 : Unit:=()
def PySem.W.Fast.tw18435490850103198869 : Unit:=()
def PySem.W.Fast.tw15658839601951764511 : Unit:=()
def PySem.W.Fast.tw10350888219328327345 : Unit:=()
def PySem.W.Fast.tw18437335845749726124 : Unit:=()
def PySem.W.Fast.tw9385719299258228068 : Unit:=()
def PySem.W.Fast.tw5268275940252220445 : Unit:=()
def PySem.W.Fast.tw2227945721848093135 : Unit:=()
def PySem.W.Fast.tw4593457908472636670 : Unit:=()
def PySem.W.Fast.tw7396440699813179508 : Unit:=()
def PySem.W.Fast.tw9950401374160851441 : Unit:=()
def PySem.W.Fast.tw10990974837952242467 : Unit:=()
def PySem.W.Fast.tw13157171341837525198 : Unit:=()
def PySem.W.Fast.tw3713026014449776476 : Unit:=()
def PySem.W.Fast.tw10707402953635448571 : Unit:=()
def PySem.W.Fast.tw9107812592358903803 : Unit:=()
def PySem.W.Fast.tw17132470004038770429 : Unit:=()
def PySem.W.Fast.tw12125024021387760242 : Unit:=()
def PySem.W.Fast.tw3483813124147820404 : Unit:=()
def PySem.W.Fast.tw4655948035045359143 : Unit:=()
def PySem.W.Fast.tw588309535008019619 : Unit:=()
def PySem.W.Fast.tw16688465708675087775 : Unit:=()
def PySem.W.Fast.tw11096261394418908114 : Unit:=()
def PySem.W.Fast.tw839320155825135158 : Unit:=()
def PySem.W.Fast.tw11564954616154045636 : Unit:=()
def PySem.W.Fast.tw1793266525844340188 : Unit:=()
def PySem.W.Fast.tw10599440055285979547 : Unit:=()
def PySem.W.Fast.tw347592396462510818 : Unit:=()
def PySem.W.Fast.tw1628547012781650166 : Unit:=()
def PySem.W.Fast.tw6097084680557802360 : Unit:=()
def PySem.W.Fast.tw17614832818106214397 : Unit:=()
def PySem.W.Fast.tw2608043866003585557 : Unit:=()
def PySem.W.Fast.tw16774873822571821063 : Unit:=()
def PySem.W.Fast.tw10596761917279432190 : Unit:=()
def PySem.W.Fast.tw7922460461883376548 : Unit:=()
def PySem.W.Fast.tw10992977641264766863 : Unit:=()
def PySem.W.Fast.tw11750335051911902394 : Unit:=()
def PySem.W.Fast.tw7212970578582831855 : Unit:=()
def PySem.W.Fast.tw14423236668536715368 : Unit:=()
def PySem.W.Fast.tw8994056288002913776 : Unit:=()
def PySem.W.Fast.tw18414135353118680822 : Unit:=()
def PySem.W.Fast.tw5941415873539956326 : Unit:=()
def PySem.W.Fast.tw11484701835801342255 : Unit:=()
def PySem.W.Fast.tw14650108684324238497 : Unit:=()
def PySem.W.Fast.tw12841606636348417777 : Unit:=()
def PySem.W.Fast.tw16823357777267816744 : Unit:=()
def PySem.W.Fast.tw3446811298670044933 : Unit:=()
def PySem.W.Fast.tw10081300500869714635 : Unit:=()
def PySem.W.Fast.tw10576981860702948117 : Unit:=()
def PySem.W.Fast.tw13861738205941542312 : Unit:=()
def PySem.W.Fast.tw8252825980770446577 : Unit:=()
def PySem.W.Fast.tw11004914469111079209 : Unit:=()
def PySem.W.Fast.tw3128149213830918769 : Unit:=()
def PySem.W.Fast.tw8426624328229808445 : Unit:=()
def PySem.W.Fast.tw14715966522486318370 : Unit:=()
def PySem.W.Fast.tw5581978643674632349 : Unit:=()
def PySem.W.Fast.tw10732472567207018568 : Unit:=()
def PySem.W.Fast.tw1912184948256920075 : Unit:=()
def PySem.W.Fast.tw4389061611128856303 : Unit:=()
def PySem.W.Fast.tw4408366661028109566 : Unit:=()
def PySem.W.Fast.tw14119060859047481579 : Unit:=()
def PySem.W.Fast.tw2802064150167594847 : Unit:=()
def PySem.W.Fast.tw4634498908927530199 : Unit:=()
def PySem.W.Fast.tw2430719432462689281 : Unit:=()
def PySem.W.Fast.tw13692603863216516272 : Unit:=()
def PySem.W.Fast.tw10206693388794306749 : Unit:=()
def PySem.W.Fast.tw3863065581678505185 : Unit:=()
def PySem.W.Fast.tw3654720463118581487 : Unit:=()
def PySem.W.Fast.tw6492401155588471504 : Unit:=()
def PySem.W.Fast.tw7913989456482000373 : Unit:=()
def PySem.W.Fast.tw14185387156848230407 : Unit:=()
def PySem.W.Fast.tw3960601240326767490 : Unit:=()
def PySem.W.Fast.tw6212404863455159697 : Unit:=()
def PySem.W.Fast.tw7657193422109453394 : Unit:=()
def PySem.W.Fast.tw18113879991346199994 : Unit:=()
def PySem.W.Fast.tw3667324969358430637 : Unit:=()
def PySem.W.Fast.tw10002770928381327032 : Unit:=()
def PySem.W.Fast.tw16750086236239226952 : Unit:=()
def PySem.W.Fast.tw7562421226854137380 : Unit:=()
def PySem.W.Fast.tw17971819989789542446 : Unit:=()
def PySem.W.Fast.tw15835579946908528092 : Unit:=()
def PySem.W.Fast.tw15475947586343923368 : Unit:=()
def PySem.W.Fast.tw2832158796313389516 : Unit:=()
def PySem.W.Fast.tw9162072495238060087 : Unit:=()
def PySem.W.Fast.tw17487561300252184479 : Unit:=()
def PySem.W.Fast.tw8215217761893593705 : Unit:=()
def PySem.W.Fast.tw4015157736538105822 : Unit:=()
def PySem.W.Fast.tw12436707639922192331 : Unit:=()
def PySem.W.Fast.tw13611424853004367659 : Unit:=()
def PySem.W.Fast.tw6921294241255253638 : Unit:=()
def PySem.W.Fast.tw1939318833998852665 : Unit:=()
def PySem.W.Fast.tw14315028910647898436 : Unit:=()
def PySem.W.Fast.tw5518044863913410039 : Unit:=()
def PySem.W.Fast.tw9013835118790677902 : Unit:=()
def PySem.W.Fast.tw3425264384401784306 : Unit:=()
def PySem.W.Fast.tw12610697350039079585 : Unit:=()
def PySem.W.Fast.tw2313765234052992072 : Unit:=()
def PySem.W.Fast.tw3932492677156468739 : Unit:=()
def PySem.W.Fast.tw3816330298290030761 : Unit:=()
def PySem.W.Fast.tw3527289993047809512 : Unit:=()
def PySem.W.Fast.tw14891913413879943000 : Unit:=()
def PySem.W.Fast.tw12932284278303619099 : Unit:=()
def PySem.W.Fast.tw9023385846974091846 : Unit:=()
def PySem.W.Fast.tw18228638048873238597 : Unit:=()
def PySem.W.Fast.tw12658544390710377916 : Unit:=()
def PySem.W.Fast.tw1717791653106807023 : Unit:=()
def PySem.W.Fast.tw10129583243486540654 : Unit:=()
def PySem.W.Fast.tw5982778172849993398 : Unit:=()
def PySem.W.Fast.tw3770834196314773408 : Unit:=()
def PySem.W.Fast.tw13211691553128660788 : Unit:=()
def PySem.W.Fast.tw5705648552400811033 : Unit:=()
def PySem.W.Fast.tw16852409764067140638 : Unit:=()
open PySem PySem.W PyProof.Rows
set_option maxRecDepth 100000 in
set_option maxHeartbeats 0 in
theorem PySem.Challenge.cw_moot_k30_deeds_done_holds : PySem.Challenge.rw_moot_k30_deeds_done.Holds := by
  w_on; o_law; k_head; (case hw=>w_witness2)
  k_fill
  refine My.walk (l:=PySem.Challenge.rw_moot_k30_deeds_done) rfl rfl (fun w h Y=>PySem.W.kIn_of Y) ?F
  case F =>
    intro w mg fa h KX G hmg
    refine' My.all_mk KX G hmg rfl ?a_1 ?l_1 ?cc_1 ?kp_1 ?a_2 ?l_2 ?cc_2 ?kp_2 ?a_3 ?l_3 ?cc_3 ?kp_3 ?a_4 ?l_4 ?cc_4 ?kp_4 ?a_5 ?l_5 ?cc_5 ?kp_5 ?a_6 ?l_6 ?cc_6 ?kp_6 ?a_7 ?l_7 ?cc_7 ?kp_7 ?a_8 ?l_8 ?cc_8 ?kp_8 ?a_9 ?l_9 ?cc_9 ?kp_9 ?a_10 ?l_10 ?jq7j ?jq7k ?a_11 ?l_11 ?jq7l ?jq7m ?a_12 ?l_12 ?jq7n ?jq7o ?a_13 ?l_13 ?jq7p ?jq7q ?a_14 ?l_14 ?jq7r ?jq7s ?a_15 ?l_15 ?jq7t ?jq7u ?a_16 ?l_16 ?jq7v ?jq7w ?a_17 ?l_17 ?jq7x ?jq7y ?a_18 ?l_18 ?jq7z ?jq7A ?a_19 ?l_19 ?jq7B ?jq7C ?a_20 ?l_20 ?jq7D ?jq7E ?a_21 ?l_21 ?jq7F ?jq7G ?a_22 ?l_22 ?jq7H ?jq7I ?a_23 ?l_23 ?jq7J ?jq7K ?a_24 ?l_24 ?jq7L ?jq7M ?a_25 ?l_25 ?jq7N ?jq7O ?a_26 ?l_26 ?jq7P ?jq7Q ?a_27 ?l_27 ?jq7R ?jq7S ?a_28 ?l_28 ?jq7T ?jq7U ?z1 ?z2 ?z3 ?z4 ?z5 ?z6 ?z7 ?z8 ?z9 ?z10 ?jq3v ?ac0 ?ac1 ?ac2 ?ac3 ?ac4 ?ac5 ?ac6 ?ac7 ?acm ?atb ?ltb ?ktb ?rk0 ?rk1 ?rk2 ?rk3 ?rk4 ?rk5 ?rk6 ?rk7 ?pg0 ?hd0 ?po0 ?sa0 ?mk0 ?kc0 ?pg1 ?hd1 ?po1 ?sa1 ?mk1 ?kc1 ?pg2 ?hd2 ?po2 ?sa2 ?mk2 ?kc2 ?pg3 ?hd3 ?po3 ?sa3 ?mk3 ?kc3 ?pg4 ?hd4 ?po4 ?sa4 ?mk4 ?kc4 ?pg5 ?hd5 ?po5 ?sa5 ?mk5 ?kc5 ?pg6 ?hd6 ?po6 ?sa6 ?mk6 ?kc6 ?pg7 ?hd7 ?po7 ?sa7 ?mk7 ?kc7 ?jq5M ?jq7V ?jq6k ?jq5N ?jq6l ?jq5O ?jq7W ?jq6m ?jq5P ?jq6n ?jq5Q ?jq7X ?jq6o ?jq5R ?jq6p ?jq5S ?jq7Y ?jq6q ?jq5T ?jq6r ?jq5U ?jq7Z ?jq6s ?jq5V ?jq6t ?jq5W ?jq80 ?jq6u ?jq5X ?jq6v ?jq5Y ?jq81 ?jq6w ?jq5Z ?jq6x ?jq60 ?jq82 ?jq6y ?jq61 ?jq6z ?jq6A ?jq6B ?jq6C ?jq6D ?jq6E ?jq6F ?jq6G ?jq6H ?l_mr ?jq83 ?jq3E ?jq4x ?jq6I ?jq6J ?jq6K ?jq6L ?jq6M ?jq6N ?jq6O ?l_mn ?jq84 ?jq4y ?jq5c ?jq62 ?jq85 ?jq6P ?jq63 ?jq6Q ?jq6R ?jq6S ?jq6T ?l_mt ?jq86 ?jq5L ?jq6j ?jq64 ?jq87 ?jq6U ?jq65 ?jq6V ?jq66 ?jq88 ?jq6W ?jq67 ?jq6X ?jq68 ?jq89 ?jq6Y ?jq69 ?jq6Z ?jq6a ?jq8a ?jq70 ?jq6b ?jq71 ?jq6c ?jq8b ?jq72 ?jq6d ?jq73 ?jq6e ?jq8c ?jq74 ?jq75 ?jq76 ?jq6f ?jq8d ?jq77 ?jq78 ?jq79 ?jq6g ?jq8e ?jq7a ?jq7b ?jq7c ?jq6h ?jq8f ?jq7d ?jq7e ?jq7f ?jq6i ?jq8g ?jq7g ?jq7h ?jq7i ?na0 ?na1 ?na2 ?na3 ?na7 ?ni4 ?ni5 ?ni6 ?jq4z ?jq4A ?jq4B ?jq4C ?jq4D ?jq4E ?jq4F ?jq33 ?jq3n ?jq34 ?jq35 ?jq36 ?jq37 ?jq3o ?jq38 ?jq2C ?jq39 ?jq3a ?jq3p ?jq3b ?jq2D ?jq3c ?jq3d ?jq3q ?jq3e ?jq2E ?jq3f ?jq3g ?jq3r ?jq3h ?jq2F ?jq3i ?jq2V ?jq3j ?jq2W ?jq2z ?jq2X ?jq2M ?jq2Y ?jq2N ?jq2n ?jq2O ?jq2J ?jq2P ?jq2K ?jq2i ?jq2L ?jq2k ?jq2s ?jq2l ?jq1Y ?jq2m ?jq1l ?jq1q ?jq1m ?jqn ?jq1n ?jq1V ?jq1Z ?jq1W ?jqB ?jq1X ?jq2Q ?jq2Z ?jq2R ?jq2o ?jq2S ?jq2d ?jq2j ?jq2e ?jq1K ?jq2f ?jq2t ?jq2A ?jq2u ?jq24 ?jq2v ?jq26 ?jq2g ?jq27 ?jq1o ?jq28 ?jq29 ?jq2h ?jq2a ?jq1p ?jq2b ?jq2w ?jq2B ?jq2x ?jq25 ?jq2y ?jqX ?jq1 ?jq4 ?jq2 ?jq0 ?jq3 ?jqj ?jqb ?jq5 ?jqk ?jq3k ?jq5B ?jq5d ?jq3F ?jq3G ?jq3H ?jq4G ?jq4H ?jq4I ?jq5e ?jq3I ?jq5C ?jq3J ?jq3K ?jq4J ?jq4K ?jq4L ?jq3L ?jq5f ?jq3M ?jq5g ?jq6 ?jq7 ?jq5D ?jq5E ?jq5F ?jq8 ?jq9 ?jqa ?jq3N ?jq3O ?jq3P ?jq3Q ?jq3R ?jq3S ?jq4M ?jq4N ?jq4O ?jq4P ?jq4Q ?jq4R ?jq4S ?jq4T ?jq4U ?jq3T ?jq3U ?jq3V ?jq5h ?jq5i ?jq5j ?jq3W ?jq3X ?jq3Y ?jq5k ?jq5l ?jq5m ?xhn ?xhtk ?jq30 ?jq31 ?jq32 ?jq3m ?jq2T ?jq2p ?jq2q ?jq2r ?jq2G ?jq2H ?jq2I ?jq2U ?jq5G ?jq5n ?jq5H ?jq5I ?jq5J ?jq5K ?jqo ?jq2c ?jq20 ?jq1r ?jq1s ?jq1t ?jq1L ?jq1M ?jq1N ?jq21 ?jq3Z ?jq3y ?jq40 ?jq41 ?jq42 ?jq43 ?jqc ?jq1u ?jqY ?jqp ?jqq ?jqr ?jqC ?jqD ?jqE ?jqZ ?jq44 ?jq3z ?jq45 ?jq46 ?jq47 ?jq48 ?jqd ?jq1v ?jq10 ?jqs ?jqt ?jqu ?jqF ?jqG ?jqH ?jq11 ?jq4V ?jq49 ?jq4W ?jq4X ?jq4Y ?jq4Z ?jqg ?jq1O ?jq1w ?jqI ?jqJ ?jqK ?jq12 ?jq13 ?jq14 ?jq1x ?jq50 ?jq4a ?jq51 ?jq52 ?jq53 ?jq54 ?jqh ?jq1P ?jq1y ?jqL ?jqM ?jqN ?jq15 ?jq16 ?jq17 ?jq1z ?jq55 ?jq4b ?jq56 ?jq57 ?jq58 ?jq59 ?jqi ?jq1Q ?jq1A ?jqO ?jqP ?jqQ ?jq18 ?jq19 ?jq1a ?jq1B ?jq4c ?jq3A ?jq4d ?jq4e ?jq4f ?jq4g ?jqe ?jq1C ?jq1b ?jqv ?jqw ?jqx ?jqR ?jqS ?jqT ?jq1c ?jq4r ?jq3B ?jq4s ?jq5o ?jq5p ?jq5q ?jq5a ?jq4h ?jq4i ?jq5r ?jq5s ?jq4t ?jq5t ?jql ?jq22 ?jq1R ?jq1d ?jq1e ?jq1f ?jq1D ?jq1E ?jq1F ?jq1S ?jq3s ?jq3l ?jq3t ?jq4j ?jq4k ?jq4l ?jq3C ?jq3w ?jq3x ?jq4m ?jq4n ?jq3u ?jq4o ?jqf ?jq1G ?jq1g ?jqy ?jqz ?jqA ?jqU ?jqV ?jqW ?jq1h ?jq4u ?jq3D ?jq4v ?jq5u ?jq5v ?jq5w ?jq5b ?jq4p ?jq4q ?jq5x ?jq5y ?jq4w ?jq5z ?jqm ?jq23 ?jq1T ?jq1i ?jq1j ?jq1k ?jq1H ?jq1I ?jq1J ?jq1U
    (case a_1=>k_is)
    (case l_1=>k_is)
    (case cc_1=>k_is)
    (case kp_1=>k_is)
    (case a_2=>k_is)
    (case l_2=>k_is)
    (case cc_2=>k_is)
    (case kp_2=>k_is)
    (case a_3=>k_is)
    (case l_3=>k_is)
    (case cc_3=>k_is)
    (case kp_3=>k_is)
    (case a_4=>k_is)
    (case l_4=>k_is)
    (case cc_4=>k_is)
    (case kp_4=>k_is)
    (case a_5=>k_is)
    (case l_5=>k_is)
    (case cc_5=>k_is)
    (case kp_5=>k_is)
    (case a_6=>k_is)
    (case l_6=>k_is)
    (case cc_6=>k_is)
    (case kp_6=>k_is)
    (case a_7=>k_is)
    (case l_7=>k_is)
    (case cc_7=>k_is)
    (case kp_7=>k_is)
    (case a_8=>k_is)
    (case l_8=>k_is)
    (case cc_8=>k_is)
    (case kp_8=>k_is)
    (case a_9=>k_is)
    (case l_9=>k_is)
    (case cc_9=>k_is)
    (case kp_9=>k_is)
    (case a_10=>k_is)
    (case l_10=>k_is)
    (case jq7j=>k_is)
    (case jq7k=>k_is)
    (case a_11=>k_is)
    (case l_11=>k_is)
    (case jq7l=>k_is)
    (case jq7m=>k_is)
    (case a_12=>k_is)
    (case l_12=>k_is)
    (case jq7n=>k_is)
    (case jq7o=>k_is)
    (case a_13=>k_is)
    (case l_13=>k_is)
    (case jq7p=>k_is)
    (case jq7q=>k_is)
    (case a_14=>k_is)
    (case l_14=>k_is)
    (case jq7r=>k_is)
    (case jq7s=>k_is)
    (case a_15=>k_is)
    (case l_15=>k_is)
    (case jq7t=>k_is)
    (case jq7u=>k_is)
    (case a_16=>k_is)
    (case l_16=>k_is)
    (case jq7v=>k_is)
    (case jq7w=>k_is)
    (case a_17=>k_is)
    (case l_17=>k_is)
    (case jq7x=>k_is)
    (case jq7y=>k_is)
    (case a_18=>k_is)
    (case l_18=>k_is)
    (case jq7z=>k_is)
    (case jq7A=>k_is)
    (case a_19=>k_is)
    (case l_19=>k_is)
    (case jq7B=>k_is)
    (case jq7C=>k_is)
    (case a_20=>k_is)
    (case l_20=>k_is)
    (case jq7D=>k_is)
    (case jq7E=>k_is)
    (case a_21=>k_is)
    (case l_21=>k_is)
    (case jq7F=>k_is)
    (case jq7G=>k_is)
    (case a_22=>k_is)
    (case l_22=>k_is)
    (case jq7H=>k_is)
    (case jq7I=>k_is)
    (case a_23=>k_is)
    (case l_23=>k_is)
    (case jq7J=>k_is)
    (case jq7K=>k_is)
    (case a_24=>k_is)
    (case l_24=>k_is)
    (case jq7L=>k_is)
    (case jq7M=>k_is)
    (case a_25=>k_is)
    (case l_25=>k_is)
    (case jq7N=>k_is)
    (case jq7O=>k_is)
    (case a_26=>k_is)
    (case l_26=>k_is)
    (case jq7P=>k_is)
    (case jq7Q=>k_is)
    (case a_27=>k_is)
    (case l_27=>k_is)
    (case jq7R=>k_is)
    (case jq7S=>k_is)
    (case a_28=>k_is)
    (case l_28=>k_is)
    (case jq7T=>k_is)
    (case jq7U=>k_is)
    (case z1=>k_is)
    (case z2=>k_is)
    (case z3=>k_is)
    (case z4=>k_is)
    (case z5=>k_is)
    (case z6=>k_is)
    (case z7=>k_is)
    (case z8=>k_is)
    (case z9=>k_is)
    (case z10=>k_is)
    (case jq3v=>k_is)
    (case ac0=>k_is)
    (case ac1=>k_is)
    (case ac2=>k_is)
    (case ac3=>k_is)
    (case ac4=>k_is)
    (case ac5=>k_is)
    (case ac6=>k_is)
    (case ac7=>k_is)
    (case acm=>k_is)
    (case atb=>k_is)
    (case ltb=>k_is)
    (case ktb=>k_keys)
    (case rk0=>k_is)
    (case rk1=>k_is)
    (case rk2=>k_is)
    (case rk3=>k_is)
    (case rk4=>k_is)
    (case rk5=>k_is)
    (case rk6=>k_is)
    (case rk7=>k_is)
    (case pg0=>k_is)
    (case hd0=>k_is)
    (case po0=>k_is)
    (case sa0=>k_is)
    (case mk0=>k_is)
    (case kc0=>k_is)
    (case pg1=>k_is)
    (case hd1=>k_is)
    (case po1=>k_is)
    (case sa1=>k_is)
    (case mk1=>k_is)
    (case kc1=>k_is)
    (case pg2=>k_is)
    (case hd2=>k_is)
    (case po2=>k_is)
    (case sa2=>k_is)
    (case mk2=>k_is)
    (case kc2=>k_is)
    (case pg3=>k_is)
    (case hd3=>k_is)
    (case po3=>k_is)
    (case sa3=>k_is)
    (case mk3=>k_is)
    (case kc3=>k_is)
    (case pg4=>k_is)
    (case hd4=>k_is)
    (case po4=>k_is)
    (case sa4=>k_is)
    (case mk4=>k_is)
    (case kc4=>k_is)
    (case pg5=>k_is)
    (case hd5=>k_is)
    (case po5=>k_is)
    (case sa5=>k_is)
    (case mk5=>k_is)
    (case kc5=>k_is)
    (case pg6=>k_is)
    (case hd6=>k_is)
    (case po6=>k_is)
    (case sa6=>k_is)
    (case mk6=>k_is)
    (case kc6=>k_is)
    (case pg7=>k_is)
    (case hd7=>k_is)
    (case po7=>k_is)
    (case sa7=>k_is)
    (case mk7=>k_is)
    (case kc7=>k_is)
    (case jq5M=>k_is)
    (case jq7V=>k_is)
    (case jq6k=>k_is)
    (case jq5N=>k_is)
    (case jq6l=>k_is)
    (case jq5O=>k_is)
    (case jq7W=>k_is)
    (case jq6m=>k_is)
    (case jq5P=>k_is)
    (case jq6n=>k_is)
    (case jq5Q=>k_is)
    (case jq7X=>k_is)
    (case jq6o=>k_is)
    (case jq5R=>k_is)
    (case jq6p=>k_is)
    (case jq5S=>k_is)
    (case jq7Y=>k_is)
    (case jq6q=>k_is)
    (case jq5T=>k_is)
    (case jq6r=>k_is)
    (case jq5U=>k_is)
    (case jq7Z=>k_is)
    (case jq6s=>k_is)
    (case jq5V=>k_is)
    (case jq6t=>k_is)
    (case jq5W=>k_is)
    (case jq80=>k_is)
    (case jq6u=>k_is)
    (case jq5X=>k_is)
    (case jq6v=>k_is)
    (case jq5Y=>k_is)
    (case jq81=>k_is)
    (case jq6w=>k_is)
    (case jq5Z=>k_is)
    (case jq6x=>k_is)
    (case jq60=>k_is)
    (case jq82=>k_is)
    (case jq6y=>k_is)
    (case jq61=>k_is)
    (case jq6z=>k_is)
    (case jq6A=>k_is)
    (case jq6B=>k_is)
    (case jq6C=>k_is)
    (case jq6D=>k_is)
    (case jq6E=>k_is)
    (case jq6F=>k_is)
    (case jq6G=>k_is)
    (case jq6H=>k_is)
    (case l_mr=>k_is)
    (case jq83=>k_is)
    (case jq3E=>k_is)
    (case jq4x=>k_is)
    (case jq6I=>k_is)
    (case jq6J=>k_is)
    (case jq6K=>k_is)
    (case jq6L=>k_is)
    (case jq6M=>k_is)
    (case jq6N=>k_is)
    (case jq6O=>k_is)
    (case l_mn=>k_is)
    (case jq84=>k_is)
    (case jq4y=>k_is)
    (case jq5c=>k_is)
    (case jq62=>k_is)
    (case jq85=>k_is)
    (case jq6P=>k_is)
    (case jq63=>k_is)
    (case jq6Q=>k_is)
    (case jq6R=>k_is)
    (case jq6S=>k_is)
    (case jq6T=>k_is)
    (case l_mt=>k_is)
    (case jq86=>k_is)
    (case jq5L=>k_is)
    (case jq6j=>k_is)
    (case jq64=>k_is)
    (case jq87=>k_is)
    (case jq6U=>k_is)
    (case jq65=>k_is)
    (case jq6V=>k_is)
    (case jq66=>k_is)
    (case jq88=>k_is)
    (case jq6W=>k_is)
    (case jq67=>k_is)
    (case jq6X=>k_is)
    (case jq68=>k_is)
    (case jq89=>k_is)
    (case jq6Y=>k_is)
    (case jq69=>k_is)
    (case jq6Z=>k_is)
    (case jq6a=>k_is)
    (case jq8a=>k_is)
    (case jq70=>k_is)
    (case jq6b=>k_is)
    (case jq71=>k_is)
    (case jq6c=>k_is)
    (case jq8b=>k_is)
    (case jq72=>k_is)
    (case jq6d=>k_is)
    (case jq73=>k_is)
    (case jq6e=>k_is)
    (case jq8c=>k_is)
    (case jq74=>k_is)
    (case jq75=>k_is)
    (case jq76=>k_is)
    (case jq6f=>k_is)
    (case jq8d=>k_is)
    (case jq77=>k_is)
    (case jq78=>k_is)
    (case jq79=>k_is)
    (case jq6g=>k_is)
    (case jq8e=>k_is)
    (case jq7a=>k_is)
    (case jq7b=>k_is)
    (case jq7c=>k_is)
    (case jq6h=>k_is)
    (case jq8f=>k_is)
    (case jq7d=>k_is)
    (case jq7e=>k_is)
    (case jq7f=>k_is)
    (case jq6i=>k_is)
    (case jq8g=>k_is)
    (case jq7g=>k_is)
    (case jq7h=>k_is)
    (case jq7i=>k_is)
    (case na0=>k_is)
    (case na1=>k_is)
    (case na2=>k_is)
    (case na3=>k_is)
    (case na7=>k_is)
    (case ni4=>k_is)
    (case ni5=>k_is)
    (case ni6=>k_is)
    (case jq4z=>k_is)
    (case jq4A=>k_is)
    (case jq4B=>k_is)
    (case jq4C=>k_is)
    (case jq4D=>k_is)
    (case jq4E=>k_is)
    (case jq4F=>k_is)
    (case jq33=>k_is)
    (case jq3n=>k_is)
    (case jq34=>k_is)
    (case jq35=>k_is)
    (case jq36=>k_is)
    (case jq37=>k_is)
    (case jq3o=>k_is)
    (case jq38=>k_is)
    (case jq2C=>k_is)
    (case jq39=>k_is)
    (case jq3a=>k_is)
    (case jq3p=>k_is)
    (case jq3b=>k_is)
    (case jq2D=>k_is)
    (case jq3c=>k_is)
    (case jq3d=>k_is)
    (case jq3q=>k_is)
    (case jq3e=>k_is)
    (case jq2E=>k_is)
    (case jq3f=>k_is)
    (case jq3g=>k_is)
    (case jq3r=>k_is)
    (case jq3h=>k_is)
    (case jq2F=>k_is)
    (case jq3i=>k_is)
    (case jq2V=>k_is)
    (case jq3j=>k_is)
    (case jq2W=>k_is)
    (case jq2z=>k_is)
    (case jq2X=>k_is)
    (case jq2M=>k_is)
    (case jq2Y=>k_is)
    (case jq2N=>k_is)
    (case jq2n=>k_is)
    (case jq2O=>k_is)
    (case jq2J=>k_is)
    (case jq2P=>k_is)
    (case jq2K=>k_is)
    (case jq2i=>k_is)
    (case jq2L=>k_is)
    (case jq2k=>k_is)
    (case jq2s=>k_is)
    (case jq2l=>k_is)
    (case jq1Y=>k_is)
    (case jq2m=>k_is)
    (case jq1l=>k_is)
    (case jq1q=>k_is)
    (case jq1m=>k_is)
    (case jqn=>k_is)
    (case jq1n=>k_is)
    (case jq1V=>k_is)
    (case jq1Z=>k_is)
    (case jq1W=>k_is)
    (case jqB=>k_is)
    (case jq1X=>k_is)
    (case jq2Q=>k_is)
    (case jq2Z=>k_is)
    (case jq2R=>k_is)
    (case jq2o=>k_is)
    (case jq2S=>k_is)
    (case jq2d=>k_is)
    (case jq2j=>k_is)
    (case jq2e=>k_is)
    (case jq1K=>k_is)
    (case jq2f=>k_is)
    (case jq2t=>k_is)
    (case jq2A=>k_is)
    (case jq2u=>k_is)
    (case jq24=>k_is)
    (case jq2v=>k_is)
    (case jq26=>k_is)
    (case jq2g=>k_is)
    (case jq27=>k_is)
    (case jq1o=>k_is)
    (case jq28=>k_is)
    (case jq29=>k_is)
    (case jq2h=>k_is)
    (case jq2a=>k_is)
    (case jq1p=>k_is)
    (case jq2b=>k_is)
    (case jq2w=>k_is)
    (case jq2B=>k_is)
    (case jq2x=>k_is)
    (case jq25=>k_is)
    (case jq2y=>k_is)
    (case jqX=>k_is)
    (case jq1=>k_is)
    (case jq4=>k_is)
    (case jq2=>k_is)
    (case jq0=>k_is)
    (case jq3=>k_is)
    (case jqj=>k_is)
    (case jqb=>k_is)
    (case jq5=>k_is)
    (case jqk=>k_is)
    (case jq3k=>k_is)
    (case jq5B=>k_is)
    (case jq5d=>k_is)
    (case jq3F=>k_is)
    (case jq3G=>k_is)
    (case jq3H=>k_is)
    (case jq4G=>k_is)
    (case jq4H=>k_is)
    (case jq4I=>k_is)
    (case jq5e=>k_is)
    (case jq3I=>k_is)
    (case jq5C=>k_is)
    (case jq3J=>k_is)
    (case jq3K=>k_is)
    (case jq4J=>k_is)
    (case jq4K=>k_is)
    (case jq4L=>k_is)
    (case jq3L=>k_is)
    (case jq5f=>k_is)
    (case jq3M=>k_is)
    (case jq5g=>k_is)
    (case jq6=>k_is)
    (case jq7=>rfl)
    (case jq5D=>k_is)
    (case jq5E=>with_unfolding_all rfl)
    (case jq5F=>k_is)
    (case jq8=>k_is)
    (case jq9=>with_unfolding_all rfl)
    (case jqa=>k_is)
    (case jq3N=>k_is)
    (case jq3O=>with_unfolding_all rfl)
    (case jq3P=>k_is)
    (case jq3Q=>k_is)
    (case jq3R=>with_unfolding_all rfl)
    (case jq3S=>k_is)
    (case jq4M=>k_is)
    (case jq4N=>with_unfolding_all rfl)
    (case jq4O=>k_is)
    (case jq4P=>k_is)
    (case jq4Q=>with_unfolding_all rfl)
    (case jq4R=>k_is)
    (case jq4S=>k_is)
    (case jq4T=>with_unfolding_all rfl)
    (case jq4U=>k_is)
    (case jq3T=>k_is)
    (case jq3U=>with_unfolding_all rfl)
    (case jq3V=>k_is)
    (case jq5h=>k_is)
    (case jq5i=>with_unfolding_all rfl)
    (case jq5j=>k_is)
    (case jq3W=>k_is)
    (case jq3X=>with_unfolding_all rfl)
    (case jq3Y=>k_is)
    (case jq5k=>k_is)
    (case jq5l=>with_unfolding_all rfl)
    (case jq5m=>k_is)
    (case xhn=>k_is)
    (case xhtk=>k_is)
    (case jq30=>k_is)
    (case jq31=>k_is)
    (case jq32=>k_is)
    (case jq3m=>kit_is)
    (case jq2T=>kit_is)
    (case jq2p=>kit_is)
    (case jq2q=>kit_is)
    (case jq2r=>kit_is)
    (case jq2G=>kit_is)
    (case jq2H=>kit_is)
    (case jq2I=>kit_is)
    (case jq2U=>kit_is)
    (case jq5G=>k_is)
    (case jq5n=>k_is)
    (case jq5H=>k_is)
    (case jq5I=>k_is)
    (case jq5J=>k_is)
    (case jq5K=>k_is)
    (case jqo=>kts_exm)
    (case jq2c=>kit_is)
    (case jq20=>kit_is)
    (case jq1r=>kit_is)
    (case jq1s=>kit_is)
    (case jq1t=>kit_is)
    (case jq1L=>kit_is)
    (case jq1M=>kit_is)
    (case jq1N=>kit_is)
    (case jq21=>kit_is)
    (case jq3Z=>k_is)
    (case jq3y=>k_is)
    (case jq40=>k_is)
    (case jq41=>k_is)
    (case jq42=>k_is)
    (case jq43=>k_is)
    (case jqc=>kts_exm)
    (case jq1u=>kit_is)
    (case jqY=>kit_is)
    (case jqp=>kit_is)
    (case jqq=>kit_is)
    (case jqr=>kit_is)
    (case jqC=>kit_is)
    (case jqD=>kit_is)
    (case jqE=>kit_is)
    (case jqZ=>kit_is)
    (case jq44=>k_is)
    (case jq3z=>k_is)
    (case jq45=>k_is)
    (case jq46=>k_is)
    (case jq47=>k_is)
    (case jq48=>k_is)
    (case jqd=>kts_exm)
    (case jq1v=>kit_is)
    (case jq10=>kit_is)
    (case jqs=>kit_is)
    (case jqt=>kit_is)
    (case jqu=>kit_is)
    (case jqF=>kit_is)
    (case jqG=>kit_is)
    (case jqH=>kit_is)
    (case jq11=>kit_is)
    (case jq4V=>k_is)
    (case jq49=>k_is)
    (case jq4W=>k_is)
    (case jq4X=>k_is)
    (case jq4Y=>k_is)
    (case jq4Z=>k_is)
    (case jqg=>kts_exm)
    (case jq1O=>kit_is)
    (case jq1w=>kit_is)
    (case jqI=>kit_is)
    (case jqJ=>kit_is)
    (case jqK=>kit_is)
    (case jq12=>kit_is)
    (case jq13=>kit_is)
    (case jq14=>kit_is)
    (case jq1x=>kit_is)
    (case jq50=>k_is)
    (case jq4a=>k_is)
    (case jq51=>k_is)
    (case jq52=>k_is)
    (case jq53=>k_is)
    (case jq54=>k_is)
    (case jqh=>kts_exm)
    (case jq1P=>kit_is)
    (case jq1y=>kit_is)
    (case jqL=>kit_is)
    (case jqM=>kit_is)
    (case jqN=>kit_is)
    (case jq15=>kit_is)
    (case jq16=>kit_is)
    (case jq17=>kit_is)
    (case jq1z=>kit_is)
    (case jq55=>k_is)
    (case jq4b=>k_is)
    (case jq56=>k_is)
    (case jq57=>k_is)
    (case jq58=>k_is)
    (case jq59=>k_is)
    (case jqi=>kts_exm)
    (case jq1Q=>kit_is)
    (case jq1A=>kit_is)
    (case jqO=>kit_is)
    (case jqP=>kit_is)
    (case jqQ=>kit_is)
    (case jq18=>kit_is)
    (case jq19=>kit_is)
    (case jq1a=>kit_is)
    (case jq1B=>kit_is)
    (case jq4c=>k_is)
    (case jq3A=>k_is)
    (case jq4d=>k_is)
    (case jq4e=>k_is)
    (case jq4f=>k_is)
    (case jq4g=>k_is)
    (case jqe=>kts_exm)
    (case jq1C=>kit_is)
    (case jq1b=>kit_is)
    (case jqv=>kit_is)
    (case jqw=>kit_is)
    (case jqx=>kit_is)
    (case jqR=>kit_is)
    (case jqS=>kit_is)
    (case jqT=>kit_is)
    (case jq1c=>kit_is)
    (case jq4r=>k_is)
    (case jq3B=>k_is)
    (case jq4s=>k_is)
    (case jq5o=>k_is)
    (case jq5p=>k_is)
    (case jq5q=>k_is)
    (case jq5a=>k_is)
    (case jq4h=>k_is)
    (case jq4i=>k_is)
    (case jq5r=>k_is)
    (case jq5s=>k_is)
    (case jq4t=>k_is)
    (case jq5t=>k_is)
    (case jql=>kts_exm)
    (case jq22=>kit_is)
    (case jq1R=>kit_is)
    (case jq1d=>kit_is)
    (case jq1e=>kit_is)
    (case jq1f=>kit_is)
    (case jq1D=>kit_is)
    (case jq1E=>kit_is)
    (case jq1F=>kit_is)
    (case jq1S=>kit_is)
    (case jq3s=>k_is)
    (case jq3l=>k_is)
    (case jq3t=>k_is)
    (case jq4j=>k_is)
    (case jq4k=>k_is)
    (case jq4l=>k_is)
    (case jq3C=>k_is)
    (case jq3w=>k_is)
    (case jq3x=>k_is)
    (case jq4m=>k_is)
    (case jq4n=>k_is)
    (case jq3u=>k_is)
    (case jq4o=>k_is)
    (case jqf=>kts_exm)
    (case jq1G=>kit_is)
    (case jq1g=>kit_is)
    (case jqy=>kit_is)
    (case jqz=>kit_is)
    (case jqA=>kit_is)
    (case jqU=>kit_is)
    (case jqV=>kit_is)
    (case jqW=>kit_is)
    (case jq1h=>kit_is)
    (case jq4u=>k_is)
    (case jq3D=>k_is)
    (case jq4v=>k_is)
    (case jq5u=>k_is)
    (case jq5v=>k_is)
    (case jq5w=>k_is)
    (case jq5b=>k_is)
    (case jq4p=>k_is)
    (case jq4q=>k_is)
    (case jq5x=>k_is)
    (case jq5y=>k_is)
    (case jq4w=>k_is)
    (case jq5z=>k_is)
    (case jqm=>kts_exm)
    (case jq23=>kit_is)
    (case jq1T=>kit_is)
    (case jq1i=>kit_is)
    (case jq1j=>kit_is)
    (case jq1k=>kit_is)
    (case jq1H=>kit_is)
    (case jq1I=>kit_is)
    (case jq1J=>kit_is)
    (case jq1U=>kit_is)
