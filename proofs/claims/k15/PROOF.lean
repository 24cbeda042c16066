import PyProof.Rows.All
import Wide.All
import OpenK.AllK
import Wide.FinOn
import Lean
import PyProof.EqAt
import PyProof.EqKinds
import PyProof.TupleCall
import PySem.Challenge.RW_moot_k15_whole_texts_behind_changes
set_option Elab.async false
set_option linter.all false
set_option maxRecDepth 100000
set_option maxHeartbeats 4000000
local macro_rules|`(tactic|trivial)=>`(tactic|decide +kernel)
open PySem.Str renaming ofString → ar, join → si, empty → akw
open List renaming length_map → ba, mem_cons_self → fe, map_cons → km, size_toArray → ku, map_append → kx, mem_cons_of_mem → ky, length_append → me, getElem?_eq_getElem → wa, mem_append_right → Lk, length_cons → aj3, getElem?_map → aj7, getElem?_cons_zero → aj8, getD_eq_getElem?_getD → aj9, mem_singleton → aka, eq_nil_or_concat → akb, concat_eq_append → akc, length_singleton → akh, mem_of_getElem? → akl, getElem?_cons_succ → akn, cons_ne_nil → akq, range' → aku, find?_cons → akz, mem_append_left → akA, getLast?_concat → akC, map_nil → akD, length_take → akF, lookup → akI, length_range' → akN, append_nil → akP, length → akT, dropLast_concat → ak0, length_set → ak4, length_zip → ak5, mem_range'_1 → ala, append_assoc → alb, map_congr_left → ald, length_drop → alg, length_filter_le → alj, mem_map_of_mem → alp, take_length → alq, nil_append → als, length_nil → alu
open PySem.W renaming Frag → bo, findIn → cb, keepIn → da, codeIn → de, nsIn → di, fnOf → eg, mg_of → ki, isFn → om, exmOne → ake, emptyDict → akt, hasDictIn → akv, instObj → akx, plainGet → aky, plainOver → akH, mg_none_of → akK, makesIn → akL, methodCall_KW → akU, callWith_K0 → alo, callWith_K → alr
open PySem renaming wpAny_bind → fu, mainGlobals → gn, sizeLine → gr, FuncData → kj, Program → sr, wpAny_pure → ajY, starEach → aj0, wpAny → aj2, Spec → akd, wpAny_mono → aki, excClassObj → akB, wpAny_standAt → akV, compareOp → akW, DictEntry → akZ, bootBuiltins → ak2, mem_of_lookup → ak3, sysModules → alh
open Sum renaming inl → kf, inr → tu
open PySem.Heap renaming get?_push_of_some → kg, lt_size → tm, get?_push_size → akg, get?_update_other → akJ, get?_update_self → ak7
open Nat renaming le_refl → kq, le_trans → adm, lt_of_lt_of_le → akf, ne_of_lt → akj, le_succ_of_le → akk, zero_le → akX, le_succ → akY
open Bool renaming false_ne_true → ma, and_eq_true → akG, and_self → akM
open PySem.F renaming plainAttrs_list → rf, slot_list_append → aj4, type_list_append → aj5, plainAttrs_str → alf
open Or renaming inl → wt
open Option.some renaming inj → ajZ
open PySem.PyData renaming canLayAll0 → aj1, canLay0 → akm, strOk → ako, depthAll → aks, depth → akE, eqvAll → akQ, eqv → akR, str → akS
open PySem.Value renaming ref → aj6, none → alm
open Ne renaming symm → akp
open False renaming elim → akr
open Int renaming emod_lt_of_pos → akO, emod_nonneg → ak6
open PySem.Obj renaming mapFields → ak1
open PySem.NameKind renaming free → ak8
open PySem.Builtin.Str renaming occurrences → ak9
open Array renaming length_toList → alc
open PySem.SeqAt renaming shaped → ale
open True renaming intro → ali
open PySem.Builtin.Slice renaming slicePlaces → alk
open PySem.Builtin.Tuple renaming tupleExact → aln
open PySem.PassesOwn renaming never → alv
namespace L2
open PySem PySem.Spec PyProof.Rows
abbrev Key:=Sum Int Str
def AB:Key->Value->Bool
 | .inl k,v=>Value.isInt k v
 | .inr x,v=>Value.isStrOf x v
def ag9 (w:World):Key->Int
 | .inl k=>hashInt k
 | .inr x=>hashStr w x
theorem dU:∀ {k:Key} {v:Value},AB k v=true->(∃i t,k=kf i/\v=Value.int i t)\/(∃x t,k=tu x/\v=Value.str x t)
 | .inl i,v,h=>by
  obtain⟨t,e⟩:=Value.isInt_shape (k:=i) (v:=v) h;exact .inl ⟨i,t,rfl,e⟩
 | .inr x,v,h=>by
  obtain⟨t,e⟩:=Value.isStrOf_shape (x:=x) (v:=v) h;exact .inr ⟨x,t,rfl,e⟩
theorem L4 (i:Int)(t:Tok):AB (.inl i) (.int i t)=true:=by simp[AB,Value.isInt]
theorem L5 (x:Str)(t:Tok):AB (.inr x) (.str x t)=true:=by simp[AB,Value.isStrOf]
theorem UK (a b:Int):decide ((kf a:Key)=kf b)=(a == b):=by
 by_cases e:a=b
 ·subst e;simp
 ·have h:¬(kf a:Key)=kf b:=λq=>e (Sum.inl.inj q)
  rw[decide_eq_false h];exact(beq_eq_false_iff_ne.mpr e).symm
theorem UL (a b:Str):decide ((tu a:Key)=tu b)=decide (a=b):=by
 by_cases e:a=b
 ·subst e;simp
 ·have h:¬(tu a:Key)=tu b:=λq=>e (Sum.inr.inj q)
  rw[decide_eq_false h,decide_eq_false e]
theorem UM (a:Int)(b:Str):decide ((kf a:Key)=tu b)=false:=decide_eq_false (λq=>nomatch q)
theorem UN (a:Str)(b:Int):decide ((tu a:Key)=kf b)=false:=decide_eq_false (λq=>nomatch q)
def dj (prog:sr)(w:World):PySem.KeyKind prog w Key where
 is:=AB
 hash:=ag9 w
 inj:=λv a b ha hb=>by
  rcases dU ha with ⟨i,t,rfl,rfl⟩ | ⟨x,t,rfl,rfl⟩
  ·rcases dU hb with ⟨j,u,rfl,e⟩ | ⟨y,u,rfl,e⟩
   ·injection e with e1 _;rw[e1]
   ·exact nomatch e
  ·rcases dU hb with ⟨j,u,rfl,e⟩ | ⟨y,u,rfl,e⟩
   ·exact nomatch e
   ·injection e with e1 _;rw[e1]
 byValue:=λk v h=>by
  rcases dU h with ⟨i,t,rfl,rfl⟩ | ⟨x,t,rfl,rfl⟩ <;> rfl
 pyHash:=λhv h=>by
  rcases dU hv with ⟨i,t,rfl,rfl⟩ | ⟨x,t,rfl,rfl⟩
  ·exact wpAny_pyHash_int h
  ·exact wpAny_pyHash_str h
 eqBool:=λhu hv h=>by
  rcases dU hu with ⟨i,t,rfl,rfl⟩ | ⟨x,t,rfl,rfl⟩
  ·rcases dU hv with ⟨j,u,rfl,rfl⟩ | ⟨y,u,rfl,rfl⟩
   ·rw[UK]at h;exact wpAny_eqBool_int h
   ·rw[UM]at h;exact SeqAt.EqAt.int_str i t y u _ _ _ _ h
  ·rcases dU hv with ⟨j,u,rfl,rfl⟩ | ⟨y,u,rfl,rfl⟩
   ·rw[UN]at h;exact SeqAt.EqAt.str_int x t j u _ _ _ _ h
   ·rw[UL]at h;exact wpAny_eqBool_str h
 «strs»:=λk x t v h=>by
  rcases dU h with ⟨i,u,rfl,e⟩ | ⟨y,u,rfl,e⟩
  ·exact nomatch e
  ·injection e with e1 _
   subst e1;cases v <;> rfl
theorem Fq (prog:sr)(w:World)(i:Int)(t:Tok):(dj prog w).is (.inl i) (.int i t)=true:=L4 i t
theorem Fs (prog:sr)(w:World)(x:Str)(t:Tok):(dj prog w).is (.inr x) (.str x t)=true:=L5 x t
inductive V where
 |non | bl (b:Bool) | int (i:Int) | str (x:Str) | byt (b:Array UInt8) | flt (b:UInt64) | ref (a:Addr) | ty (n:String)
 deriving DecidableEq
def RelV:V->Value->Prop
 | .non,u=>u=alm
 | .bl b,u=>u=Value.bool b
 | .int i,u=>∃t,u=Value.int i t
 | .str x,u=>∃t,u=Value.str x t
 | .byt b,u=>∃t,u=Value.bytes b t
 | .flt b,u=>∃t,u=Value.float b t
 | .ref a,u=>u=aj6 a
 | .ty n,u=>u=Value.type n
abbrev Vals:List V->List Value->Prop:=Paired RelV
theorem Vals.length {xs:List V}{us:List Value}(r:Vals xs us):xs.length=us.length:=Paired.length r
theorem Vals.get:∀ {xs:List V} {us:List Value} {i:Nat} {x:V},Vals xs us->xs[i]?=some x->∃u,us[i]?=some u/\RelV x u
 |_,_,_,_,.nil,e=>by simp at e
 |_,_,0,_,.cons r _,e=>by simp at e;subst e;exact⟨_,rfl,r⟩
 |_,_,i+1,x,.cons _ t,e=>by
  obtain⟨u,h1,h2⟩:=Vals.get (i:=i) (x:=x) t (by simpa using e)
  exact⟨u,by simpa using h1,h2⟩
theorem Vals.set {x:V}{u:Value}(r:RelV x u):∀ {xs:List V} {us:List Value} (i:Nat),Vals xs us->Vals (xs.set i x) (us.set i u)
 |_,_,_,.nil=>.nil
 |_,_,0,.cons _ t=>.cons r t
 |_,_,i+1,.cons q t=>.cons q (Vals.set r i t)
theorem Vals.append:∀ {xs ys:List V} {us ws:List Value},Vals xs us->Vals ys ws->Vals (xs++ys) (us++ws)
 |_,_,_,_,.nil,s=>s
 |_,_,_,_,.cons r t,s=>.cons r (Vals.append t s)
theorem Vals.take:∀ {xs:List V} {us:List Value} (n:Nat),Vals xs us->Vals (xs.take n) (us.take n)
 |_,_,0,_=>.nil
 |_,_,_+1,.nil=>.nil
 |_,_,n+1,.cons r t=>.cons r (Vals.take n t)
theorem Vals.drop:∀ {xs:List V} {us:List Value} (n:Nat),Vals xs us->Vals (xs.drop n) (us.drop n)
 |_,_,0,r=>r
 |_,_,_+1,.nil=>.nil
 |_,_,n+1,.cons _ t=>Vals.drop n t
theorem Vals.none_of:∀ {xs:List V} {us:List Value} {i:Nat},Vals xs us->xs[i]?=none->us[i]?=none:=λ{xs us i} r e=>by
 have h1:=r.length;have h2:xs.length<=i:=List.getElem?_eq_none_iff.mp e;exact List.getElem?_eq_none_iff.mpr (by omega)
def qy:Option V->Option Value->Prop
 |some v,some u=>RelV v u
 |none,none=>True
 |_,_=>False
def KV {κ:Type}:List (κ×V)->List (κ×Value)->Prop:=Paired λ(p:κ×V) (q:κ×Value)=>p.1=q.1/\RelV p.2 q.2
def kV:Key->V
 | .inl i=>.int i
 | .inr x=>.str x
inductive HO where
 |lst (xs:List V)
 |tup (xs:List V)
 |dK (kvs:List (Key×V)) | dT (kvs:List (List Key×V))
 |set (S:Int->Bool) (n:Nat)
 |ins (C dx:Addr) (fs:List (Str×V))
 |own (x:Addr)
 |xd (fs:List (Str×V))
 |met (f x:Addr)
 |rng (lo hi:Int)
 |frz (o:Obj) (u:HO)
 |tbl (ps:Array Value)
 |ext (φ:Heap->Prop)
abbrev Hp:=Addr->Option HO
def upd (H:Hp)(a:Addr)(o:HO):Hp:=λb=>if b=a then some o else H b
theorem ae {H:Hp}{a:Addr}{o:HO}:upd H a o a=some o:=by unfold upd;rw[if_pos rfl]
theorem aw {H:Hp}{a b:Addr}{o:HO}(h:b≠a):upd H a o b=H b:=by unfold upd;rw[if_neg h]
theorem nO {H:Hp}{a:Addr}{o u:HO}:upd (upd H a o) a u=upd H a u:=by
 funext b;unfold upd;split <;> rfl
theorem Zr {H:Hp}{a b:Addr}{o u:HO}(h:H a=some o)(h':H b=some u)(d:o≠u):a≠b:=by
 intro e;subst e;rw[h]at h';exact d (ajZ h')
theorem aI {H:Hp}{a b:Addr}{o:HO}(h:H a=some o)(h':H b=none):a≠b:=by
 intro e;subst e;rw[h]at h';cases h'
section
variable(P:sr)(w:World)
def fO (H:Hp)(h:Heap)(a:Addr):HO->Prop
 | .lst xs=>xs.length<=gr/\∃(its:List Value) (n:Nat),Vals xs its/\h.get? a=some { cls:=.type "list",data:=.seq its.toArray n }
 | .tup xs=>xs.length<=gr/\∃its:List Value,Vals xs its/\IsTup h a its.toArray
 | .dK kvs=>kvs.length<=gr/\(a == alh)=false/\∃vs,KV kvs vs/\h.DictOf (dj P w) a vs
 | .dT kvs=>kvs.length<=gr/\(a == alh)=false/\∃xs:List (List Key×Addr×Value),
   Paired (λ(p:List Key×V) (q:List Key×Addr×Value)=>p.1=q.1/\H q.2.1=some (.tup (p.1.map kV))/\RelV p.2 q.2.2) kvs xs /\
   ∃o es ep,h.get? a=some o/\o.ExactDict/\o.data=.dict es ep/\es.toList=xs.map (entryOfKey (tupleKind (dj P w)))/\(xs.map (·.1)).Nodup
 | .set S n=>h.SetOf (intKind P w) a S n
 | .ins C dx fs=>H dx=some (.own a)/\fs.length<=1000/\dx≠a/\h.get? a=some (akx C dx) /\
   ∃mA,h.Ns1 dx mA/\(∀f,qy (fs.lookup f) (mA f))/\PySem.Within mA (fs.map (·.1))
 | .own _=>∃o,h.get? a=some o
 | .xd fs=>∃mA,h.Ns1 a mA/\∀f,qy (fs.lookup f) (mA f)
 | .rng lo hi=>∃t u v,h.get? a=some { cls:=.type "range",data:=.fields #[.int lo t,.int hi u,.int 1 v] }
 | .frz o u=>h.get? a=some o/\fO H h a u
 | .tbl ps=>h.get? a=some { cls:=.none,data:=.fields ps }
 | .met f x=>h.get? a=some (PySem.W.methodObj (.ref f) (.ref x))
 | .ext φ=>φ h/\(∃o,h.get? a=some o)/\∀h1 h2:Heap,φ h1->(∀o,h1.get? a=some o->h2.get? a=some o)->φ h2
def HOk (H:Hp)(h:Heap):Prop:=∀a o,H a=some o->fO P w H h a o
end
section
variable{P:sr}{w:World}{H H':Hp}{h h':Heap}{a:Addr}{o:HO}
theorem fO.lt (x:fO P w H h a o):a < h.objs.size:=by
 cases o with
 |lst xs=>obtain⟨_,_,_,_,e⟩:=x;exact tm e
 |tup xs=>obtain⟨_,_,_,p⟩:=x;exact p.lt
 |dK kvs=>obtain⟨_,_,_,_,o,_,_,e,_⟩:=x;exact tm e
 |dT kvs=>obtain⟨_,_,_,_,o,_,_,e,_⟩:=x;exact tm e
 |set S n=>obtain⟨o,_,_,_,e,_⟩:=x;exact tm e
 |ins C dx fs=>obtain⟨_,_,_,e,_⟩:=x;exact tm e
 |own y=>obtain⟨_,e⟩:=x;exact tm e
 |xd fs=>obtain⟨_,⟨_,_,_,e,_⟩,_⟩:=x;exact tm e
 |rng lo hi=>obtain⟨_,_,_,e⟩:=x;exact tm e
 |frz ob u=>obtain⟨e,_⟩:=x;exact tm e
 |tbl ps=>exact tm (show h.get? a=some _ from x)
 |met f y=>exact tm (show h.get? a=some _ from x)
 |ext φ=>obtain⟨_,⟨_,e⟩,_⟩:=x;exact tm e
theorem Paired.UO {α β:Type}{F G:α->β->Prop}:∀ {l₁:List α} {l₂:List β},Paired F l₁ l₂->(∀a b,F a b->G a b)->Paired G l₁ l₂
 |_,_,.nil,_=>.nil
 |_,_,.cons r t,f=>.cons (f _ _ r) (Paired.UO t f)
theorem fO.nC (x:fO P w H h a o)(k:∀b u,(b=a\/H b=some (.own a))->h.get? b=some u->h'.get? b=some u)
  (ho:∀b,H b=some (.own a)->H' b=some (.own a)) (ht:∀b xs,H b=some (.tup xs)->H' b=some (.tup xs)):fO P w H' h' a o:=by
 induction o with
 |lst xs=>obtain⟨z,its,n,r,e⟩:=x;exact⟨z,its,n,r,k _ _ (.inl rfl) e⟩
 |tup xs=>obtain⟨z,its,r,ob,e,c⟩:=x;exact⟨z,its,r,ob,k _ _ (.inl rfl) e,c⟩
 |dK kvs=>obtain⟨z,y,vs,r,ob,es,ep,e,c⟩:=x;exact⟨z,y,vs,r,ob,es,ep,k _ _ (.inl rfl) e,c⟩
 |dT kvs =>
  obtain⟨z,y,xs,r,ob,es,ep,e,c⟩:=x;exact⟨z,y,xs,Paired.UO r λp q z=>⟨z.1,ht _ _ z.2.1,z.2.2⟩,ob,es,ep,k _ _ (.inl rfl) e,c⟩
 |set S n=>obtain⟨ob,es,ep,t,e,c⟩:=x;exact⟨ob,es,ep,t,k _ _ (.inl rfl) e,c⟩
 |ins C dx fs =>
  obtain⟨d,z,ne,e,mA,⟨od,es,ep,e2,c⟩,r⟩:=x;exact⟨ho _ d,z,ne,k _ _ (.inl rfl) e,mA,⟨od,es,ep,k _ _ (.inr d) e2,c⟩,r⟩
 |own y=>obtain⟨ob,e⟩:=x;exact⟨ob,k _ _ (.inl rfl) e⟩
 |xd fs=>obtain⟨mA,⟨od,es,ep,e,c⟩,r⟩:=x;exact⟨mA,⟨od,es,ep,k _ _ (.inl rfl) e,c⟩,r⟩
 |rng lo hi=>obtain⟨t,u,v,e⟩:=x;exact⟨t,u,v,k _ _ (.inl rfl) e⟩
 |frz ob u ih=>obtain⟨e,q⟩:=x;exact⟨k _ _ (.inl rfl) e,ih q⟩
 |tbl ps =>
  have e:h.get? a=some { cls:=.none,data:=.fields ps }:=x;show h'.get? a=some { cls:=.none,data:=.fields ps };exact k a _ (.inl rfl) e
 |met f y =>
  have e:h.get? a=some (PySem.W.methodObj (.ref f) (.ref y)):=x;show h'.get? a=some (PySem.W.methodObj (.ref f) (.ref y));exact k a _ (.inl rfl) e
 |ext φ=>obtain⟨p,⟨o,e⟩,st⟩:=x;exact⟨st _ _ p λo q=>k _ _ (.inl rfl) q,⟨o,k _ _ (.inl rfl) e⟩,st⟩
theorem HOk.lt (x:HOk P w H h)(e:H a=some o):a < h.objs.size:=(x a o e).lt
theorem HOk.fresh (x:HOk P w H h)(e:h.objs.size<=a):H a=none:=by
 cases q:H a with
 |none=>rfl
 |some u=>exact absurd (akf (x.lt q) e) (Nat.lt_irrefl _)
theorem HOk.kept (x:HOk P w H h)(k:∀b u,h.get? b=some u->h'.get? b=some u):HOk P w H h':=λa o e =>
 (x a o e).nC (λb u _ q=>k b u q) (λ_ q=>q) λ_ _ q=>q
theorem HOk.laid (x:HOk P w H h)(k:∀b u,h.get? b=some u->h'.get? b=some u)(hp:h.objs.size<=a)(new:fO P w (upd H a o) h' a o):HOk P w (upd H a o) h':=λb u e=>by
 have hn:=x.fresh hp
 by_cases hb:b=a
 ·subst hb;rw[ae]at e;cases e;exact new
 ·rw[aw hb]at e;exact(x b u e).nC (λc v _ q=>k c v q) (λc q=>by rw[aw (aI q hn)];exact q) λc xs q=>by rw[aw (aI q hn)];exact q
end
def Rd (H:Hp)(a:Addr)(u:HO):Prop:=H a=some u\/∃o,H a=some (.frz o u)
theorem Rd.of {H:Hp}{a:Addr}{u:HO}(h:H a=some u):Rd H a u:=.inl h
theorem Rd.ok {P:sr}{w:World}{H:Hp}{h:Heap}{a:Addr}{u:HO}(r:Rd H a u)(x:HOk P w H h):fO P w H h a u:=by
 rcases r with r | ⟨o,r⟩
 ·exact x a u r
 ·obtain⟨_,q⟩:=x a _ r;exact q
def Mut:Option HO->Prop
 |some (.lst _)=>True
 |some (.dK _)=>True
 |some (.dT _)=>True
 |some (.set _ _)=>True
 |some (.ins _ _ _)=>True
 |some (.ext _)=>True
 |_=>False
section
variable{P:sr}{w:World}{H:Hp}{h h':Heap}{x e:Addr}{o':HO}
theorem HOk.write (ok:HOk P w H h)(mu:Mut (H x))(he:e=x\/H e=some (.own x))(k:∀b u,b≠e->h.get? b=some u->h'.get? b=some u)(heo:∃u,h'.get? e=some u)
  (new:fO P w (upd H x o') h' x o'):HOk P w (upd H x o') h':=λb u q=>by
 have Zs:∀c y,H c=some (.own y)->c≠x:=λc y r z=>by subst z;rw[r]at mu;exact mu
 have aha:∀c xs,H c=some (.tup xs)->c≠x:=λc xs r z=>by subst z;rw[r]at mu;exact mu
 by_cases hb:b=x
 ·subst hb;rw[ae]at q;cases q;exact new
 ·rw[aw hb]at q
  by_cases hbe:b=e
  ·have q':H b=some (.own x):=by
    rcases he with z | z
    ·exact absurd (hbe.trans z) hb
    ·rw[hbe];exact z
   rw[q]at q';cases q';obtain⟨v,hv⟩:=heo;exact⟨v,by rw[hbe];exact hv⟩
  ·refine(ok b u q).nC (λc v hc r=>k c v ?_ r) (λc r=>by rw[aw (Zs c b r)];exact r) λc xs r=>by rw[aw (aha c xs r)];exact r
   rcases hc with rfl | hc
   ·exact hbe
   ·rintro rfl;rcases he with z | z
    ·exact Zs c b hc z
    ·rw[hc]at z;cases z;exact hb rfl
end
structure Un (fs ex:List Addr)(H H':Hp)(h h':Heap):Prop where
 keep:∀b o,h.get? b=some o->H b=none->b∉fs->b∉ex->h'.get? b=some o
 slot:∀b o,h.get? b=some o->H b=none->b∈fs->b∉ex->∃sl,h'.get? b=some { o with slots:=sl }
 free:∀b o,h.get? b=some o->H b=none->b∉ex->H' b=none
 there:∀b o,h.get? b=some o->b∉ex->∃o',h'.get? b=some o'
 xy:∀b xs,H b=some (.tup xs)->H' b=some (.tup xs)
 vI:∀b o u,H b=some (.frz o u)->H' b=some (.frz o u)
 xA:∀b ps,H b=some (.tbl ps)->∃more,H' b=some (.tbl (ps++more))
section
variable{fs fs' ex ex':List Addr}{H H1 H2:Hp}{h h1 h2 h':Heap}{a x e:Addr}{o:HO}
theorem Un.any (u:Un fs ex H H1 h h1){b:Addr}{ob:Obj}(q:h.get? b=some ob)(n:H b=none)(hx:b∉ex):∃sl,h1.get? b=some { ob with slots:=sl }:=by
 by_cases hb:b∈fs
 ·exact u.slot b ob q n hb hx
 ·exact⟨ob.slots,u.keep b ob q n hb hx⟩
theorem Un.trans (a:Un fs ex H H1 h h1)(b:Un fs ex H1 H2 h1 h2):Un fs ex H H2 h h2 where
 keep:=λc ob q n hc hx=>b.keep c ob (a.keep c ob q n hc hx) (a.free c ob q n hx) hc hx
 slot:=λc ob q n hc hx=>by
  obtain⟨sl,e1⟩:=a.slot c ob q n hc hx;obtain⟨sl',e2⟩:=b.slot c _ e1 (a.free c ob q n hx) hc hx;exact⟨sl',e2⟩
 free:=λc ob q n hx=>by
  obtain⟨o',e1⟩:=a.there c ob q hx;exact b.free c o' e1 (a.free c ob q n hx) hx
 there:=λc ob q hx=>by
  obtain⟨o',e1⟩:=a.there c ob q hx;exact b.there c o' e1 hx
 xy:=λc xs q=>b.xy c xs (a.xy c xs q)
 vI:=λc ob xs q=>b.vI c ob xs (a.vI c ob xs q)
 xA:=λc ps q=>by
  obtain⟨m1,e1⟩:=a.xA c ps q;obtain⟨m2,e2⟩:=b.xA c _ e1;exact⟨m1++m2,by rw[e2,Array.append_assoc]⟩
theorem Un.kept (k:∀b u,h.get? b=some u->h'.get? b=some u):Un fs ex H H h h' :=
 ⟨λb ob q _ _ _=>k b ob q,λb ob q _ _ _=>⟨ob.slots,k b ob q⟩,λ_ _ _ n _=>n,λb ob q _=>⟨ob,k b ob q⟩,λ_ _ q=>q,λ_ _ _ q=>q,λ_ ps q=>⟨#[],by rw[q];simp⟩⟩
theorem Un.refl:Un fs ex H H h h:=Un.kept λ_ _ q=>q
theorem Un.laid (k:∀b u,h.get? b=some u->h'.get? b=some u)(hp:h.objs.size<=a)(hn:H a=none):Un fs ex H (upd H a o) h h' where
 keep:=λb u q _ _ _=>k b u q
 slot:=λb u q _ _ _=>⟨u.slots,k b u q⟩
 free:=λb u q n _=>by rw[aw (akj (akf (tm q) hp))];exact n
 there:=λb u q _=>⟨u,k b u q⟩
 xy:=λb xs q=>by rw[aw (aI q hn)];exact q
 vI:=λb u xs q=>by rw[aw (aI q hn)];exact q
 xA:=λb ps q=>⟨#[],by rw[aw (aI q hn),q];simp⟩
theorem Un.write (mu:Mut (H x))(he:e=x\/H e=some (.own x))(k:∀b u,b≠e->h.get? b=some u->h'.get? b=some u)(heo:∃u,h'.get? e=some u):Un fs ex H (upd H x o) h h':=by
 have hx:∀b,H b=none->b≠x:=λb n z=>by subst z;rw[n]at mu;exact mu
 have hb:∀b,H b=none->b≠e:=λb n z=>by
  subst z;rcases he with r | r
  ·exact hx b n r
  ·rw[n]at r;cases r
 have hm:∀b u,H b=some u->¬Mut (some u)->b≠x:=λb u q nm z=>by subst z;rw[q]at mu;exact nm mu
 refine⟨λb u q n _ _=>k b u (hb b n) q,λb u q n _ _=>⟨u.slots,k b u (hb b n) q⟩,λb u q n _=>by rw[aw (hx b n)];exact n,λb u q _=>?_,
  λb xs q=>by rw[aw (hm b _ q λz=>z)];exact q,λb u xs q=>by rw[aw (hm b _ q λz=>z)];exact q,λb ps q=>⟨#[],by rw[aw (hm b _ q λz=>z),q];simp⟩⟩
 by_cases hbe:b=e
 ·subst hbe;exact heo
 ·exact⟨u,k b u hbe q⟩
theorem Un.mono (u:Un fs ex H H1 h h1)(hs:∀b∈fs,b∈fs')(hx:∀b∈ex,b∈ex'):Un fs' ex' H H1 h h1 :=
 ⟨λb ob q n hb he=>u.keep b ob q n (λz=>hb (hs b z)) λz=>he (hx b z),λ_ _ q n _ he=>u.any q n λz=>he (hx _ z),λb ob q n he=>u.free b ob q n λz=>he (hx b z),λb ob q he=>u.there b ob q λz=>he (hx b z),u.xy,u.vI,u.xA⟩
end
def trk (h:Heap)(H:Hp):List Addr:=(List.range h.objs.size).filter λa=>(H a).isSome
def DY (h:Heap)(H:Hp):Heap:=PySem.W.hideAll h (trk h H)
theorem L6 (h:Heap)(H:Hp):(DY h H).objs.size=h.objs.size:=PySem.W.hideAll_size _ _
theorem Nr {h:Heap}{H:Hp}{b:Addr}{o:Obj}(e:h.get? b=some o)(n:H b=none):(DY h H).get? b=some o :=
 PySem.W.hideAll_get _ e λhm=>by
  have q:(H b).isSome=true:=(List.mem_filter.mp hm).2;rw[n]at q;simp at q
theorem QK {h:Heap}{H:Hp}{b:Addr}{o:Obj}(e:(DY h H).get? b=some o):h.get? b=some o/\H b=none:=by
 have e':h.get? b=some o:=PySem.W.of_hideAll (trk h H) e;refine⟨e',?_⟩;cases q:H b with
 |none=>rfl
 |some x =>
  have hm:b∈trk h H:=List.mem_filter.mpr ⟨List.mem_range.mpr (tm e'),by simp[q]⟩
  have z:(DY h H).get? b=none:=PySem.W.hideAll_none (trk h H) hm;rw[z]at e;cases e
def QL (g h:Heap)(L:Addr):List (Addr×Obj):=(List.range h.objs.size).filterMap λa=>if a=L\/(g.get? a).isSome=true then none else (h.get? a).map λo=>(a,o)
def rest (g h:Heap)(L d:Addr):List (Addr×Obj):=(QL g h L).filter λp=>decide (p.1≠d)
structure Mod (K:bo)(mg:Str->Option Value)(base:Heap):Prop where
 kin:K.In base
 glob:base.Ns gn mg
 blt:∃mb,base.Ns builtinsNs mb/\∀x:Str,x≠"__name__"->mb x=ak2 x
 nolimit:base.NoLimit
structure Cx where
 prog:sr
 w:World
 K:bo
 mg:Str->Option Value
 base:Heap
 A:Around
 N:List Str
 s₀:Shared
 H₀:Hp
 env:Env
 outer:List Env
 stack:List Env
 ex:List Addr
 fn:Str->Bool
 calm:Bool
 pn:List (Addr×Obj)
 xe:Value->Shared->Prop
def frs (l:List Env):List Addr:=l.filterMap (·.frame)
abbrev Cx.fs (X:Cx):List Addr:=frs X.outer
def Vis (sc:Scope)(x:Str):Prop:=sc.names.lookup x=some .local\/sc.names.lookup x=some .cell\/sc.names.lookup x=some .free
def Loc (sc:Scope)(x:Str):Prop:=sc.names.lookup x=some .local\/sc.names.lookup x=some .cell
def Look (env:Env)(h:Heap)(m:Str->Option Value)(x:Str)(u:Value):Prop :=
 (env.kindOf x=some .local/\m x=some u)\/((env.kindOf x=some .cell\/env.kindOf x=some .free)/\∃c,env.cells.lookup x=some c/\h.IsCell c (some u))
structure Cx.Ok (X:Cx):Prop where
 mod:Mod X.K X.mg X.base
 kind:X.env.scope.kind=.function
 glob:X.env.globals=gn
 blt:X.env.builtins=builtinsNs
 above:X.s₀.heap.objs.size<=X.env.locals
 inj:∀x y c,X.env.cells.lookup x=some c->X.env.cells.lookup y=some c->x=y
 has:∀x,(X.env.kindOf x=some .cell\/X.env.kindOf x=some .free)->∃c,X.env.cells.lookup x=some c
 cab:∀x c,X.fn x=true->X.env.cells.lookup x=some c->X.s₀.heap.objs.size<=c
 hd:X.calm=true->X.A.handled=none
 frames:X.A.frames=some X.stack
 stk:X.stack=X.outer\/(X.stack=X.env::X.outer/\X.env.frame=some X.env.locals)
 exf:∀b∈X.ex,b≠X.env.locals/\∀x c,X.env.cells.lookup x=some c->c≠b
 bs:∀b o,X.base.get? b=some o->X.s₀.heap.get? b=some o/\X.H₀ b=none
 bsz:X.base.objs.size<=X.s₀.heap.objs.size
 IQ:∀b o,X.base.get? b=some o->b∉X.ex
 IS:∀b∈X.ex,b∉X.fs
 uJ:X.s₀.heap.FunFrames X.base X.outer
 frf:∀b∈X.fs,X.H₀ b=none
structure Inv (X:Cx)(pins:List (Addr×Obj))(σ:List (Option V))(H:Hp)(s:Shared):Prop where
 ok:X.Ok
 os:s.os=X.s₀.os
 bare:AllBare s.gens
 base:Un X.fs X.ex X.H₀ H X.s₀.heap s.heap
 loc:∃m,s.heap.Ns X.env.locals m/\∀(i:Nat) (x:Str) (v:V),X.N[i]?=some x->σ[i]?=some (some v)->Vis X.env.scope x->∃u,RelV v u/\Look X.env s.heap m x u
 cell:∀x c,X.env.cells.lookup x=some c->∃v,s.heap.IsCell c v
 free:H X.env.locals=none
 qW:∀x c,X.env.cells.lookup x=some c->H c=none
 pin:∀p∈X.pn++pins,s.heap.get? p.1=some p.2/\H p.1=none/\p.1≠X.env.locals/\p.1∉X.fs/\∀v,p.2.data≠.cell v
 hok:HOk X.prog X.w H s.heap
 len:σ.length=X.N.length
section
variable{X:Cx}{pins:List (Addr×Obj)}{σ:List (Option V)}{H H':Hp}{s:Shared}{h':Heap}
theorem Cx.Ok.ahb (ok:X.Ok){b:Addr}{o:Obj}(e:X.base.get? b=some o):b∉X.fs:=λhb=>by
 have:=(ok.uJ.mem hb).1;rw[e]at this;cases this
theorem Inv.bs (I:Inv X pins σ H s):∀b o,X.base.get? b=some o->s.heap.get? b=some o/\H b=none:=λb o e =>
 ⟨I.base.keep b o (I.ok.bs b o e).1 (I.ok.bs b o e).2 (I.ok.ahb e) (I.ok.IQ b o e),I.base.free b o (I.ok.bs b o e).1 (I.ok.bs b o e).2 (I.ok.IQ b o e)⟩
theorem Inv.bk (I:Inv X pins σ H s):∀b o,X.base.get? b=some o->s.heap.get? b=some o:=λb o e=>(I.bs b o e).1
theorem Inv.mod (I:Inv X pins σ H s):Mod X.K X.mg X.base:=I.ok.mod
theorem Inv.kIn (I:Inv X pins σ H s):X.K.In s.heap:=I.ok.mod.kin.keeps I.bk
theorem Inv.nolimit (I:Inv X pins σ H s):s.heap.NoLimit:=I.ok.mod.nolimit.keeps I.bk
theorem Inv.fr (I:Inv X pins σ H s):∃m,Fr X.base X.env.locals s.heap m :=
 let ⟨m,hn,_⟩:=I.loc
 ⟨m,hn,I.bk,adm I.ok.bsz I.ok.above⟩
theorem Inv.lt (I:Inv X pins σ H s):X.env.locals < s.heap.objs.size:=let ⟨_,hn,_⟩:=I.loc;hn.lt
theorem Inv.sz (I:Inv X pins σ H s):X.s₀.heap.objs.size<=s.heap.objs.size:=adm I.ok.above (Nat.le_of_lt I.lt)
theorem Inv.ahc (I:Inv X pins σ H s){a:Addr}(h:s.heap.objs.size<=a):a∉X.fs:=λhb=>by
 obtain⟨_,o,ho,_⟩:=I.ok.uJ.mem hb;exact absurd (akf (tm ho) (adm I.sz h)) (Nat.lt_irrefl _)
theorem Inv.cne (I:Inv X pins σ H s):∀x c,X.env.cells.lookup x=some c->c≠X.env.locals:=λx c e z=>by
 obtain⟨v,o,ho,hd⟩:=I.cell x c e;obtain⟨m,⟨o',es,ep,ho',hd',_⟩,_⟩:=I.loc;rw[z,ho']at ho;cases ho;rw[hd']at hd;cases hd
theorem Inv.uJ (I:Inv X pins σ H s):s.heap.FunFrames X.base X.outer:=by
 have all:∀(l:List Env),(∀b∈frs l,b∈X.fs)->X.s₀.heap.FunFrames X.base l->s.heap.FunFrames X.base l:=by
  intro l
  induction l with
  |nil=>intro _ _;trivial
  |cons env r ih =>
   intro hs hl;obtain⟨hk,⟨L,o,hf,hn,ho,hd⟩,hr⟩:=hl;have hL:L∈X.fs:=hs L (by unfold frs;rw[List.filterMap_cons,hf];exact fe)
   obtain⟨sl,e⟩:=I.base.slot L o ho (I.ok.frf L hL) hL λz=>I.ok.IS L z hL
   exact⟨hk,⟨L,_,hf,hn,e,hd⟩,ih (λb hb=>hs b (by unfold frs;rw[List.filterMap_cons,hf];exact ky _ hb)) hr⟩
 exact all X.outer (λ_ hb=>hb) I.ok.uJ
theorem Inv.stack (I:Inv X pins σ H s):s.heap.FunFrames X.base X.stack:=by
 rcases I.ok.stk with e | ⟨e,hf⟩
 ·rw[e];exact I.uJ
 ·rw[e];obtain⟨m,hn,_⟩:=I.loc;refine .cons (by rw[I.ok.kind];decide) hf hn ?_ I.uJ
  exact Heap.get?_none_of_le (adm I.ok.bsz I.ok.above)
theorem Inv.DZ (I:Inv X pins σ H s):∀b∈frs X.stack,b∈X.env.locals::X.fs:=λb hb=>by
 rcases I.ok.stk with e | ⟨e,hf⟩
 ·rw[e]at hb;exact ky _ hb
 ·rw[e]at hb;unfold frs at hb;rw[List.filterMap_cons,hf]at hb;exact hb
theorem Inv.D0 (I:Inv X pins σ H s):∀b∈frs X.stack,H b=none:=λb hb=>by
 rcases List.mem_cons.mp (I.DZ b hb) with e | hb
 ·rw[e];exact I.free
 ·obtain⟨_,o,ho,_⟩:=I.ok.uJ.mem hb;exact I.base.free b o ho (I.ok.frf b hb) λz=>I.ok.IS b z hb
theorem Inv.step {g':Array GenState}{t':Nat}{d':Drawn}{ch:List Addr}(I:Inv X pins σ H s)
  (hch:∀b∈ch,(b∈X.ex\/X.s₀.heap.objs.size<=b)/\b≠X.env.locals/\(∀x c,X.env.cells.lookup x=some c->c≠b)/\∀p∈X.pn++pins,p.1≠b)
  (keep:∀b o,b≠X.env.locals->b∉X.fs->b∉ch->s.heap.get? b=some o->H b=none->h'.get? b=some o)
  (slot:∀b o,b≠X.env.locals->b∈X.fs->b∉ch->s.heap.get? b=some o->H b=none->∃sl,h'.get? b=some { o with slots:=sl }) (free:∀b o,b∉ch->s.heap.get? b=some o->H b=none->H' b=none)
  (there:∀b o,b∉ch->s.heap.get? b=some o->∃o',h'.get? b=some o')
  (xy:∀b xs,H b=some (.tup xs)->H' b=some (.tup xs)) (vI:∀b o u,H b=some (.frz o u)->H' b=some (.frz o u)) (xA:∀b ps,H b=some (.tbl ps)->∃more,H' b=some (.tbl (ps++more)))
  (ns:∀m,s.heap.Ns X.env.locals m->h'.Ns X.env.locals m) (hok:HOk X.prog X.w H' h') (hg:AllBare g') :
  Inv X pins σ H' { s with heap:=h',gens:=g',drawn:=d',toks:=t' }:=by
 have neL:∀b o,X.s₀.heap.get? b=some o->b≠X.env.locals:=λb o e=>akj (akf (tm e) I.ok.above)
 have neC:∀b o,X.s₀.heap.get? b=some o->b∉X.ex->b∉ch:=λb o e hx hb=>by
  rcases (hch b hb).1 with z | z
  ·exact hx z
  ·exact absurd (akf (tm e) z) (Nat.lt_irrefl _)
 have cellK:∀x c,X.env.cells.lookup x=some c->∀v,s.heap.IsCell c v->h'.IsCell c v:=λx c e v ⟨o,ho,hd⟩=>by
  have nch:c∉ch:=λz=>(hch c z).2.2.1 x c e rfl
  by_cases hc:c∈X.fs
  ·obtain⟨sl,q⟩:=slot c o (I.cne x c e) hc nch ho (I.qW x c e);exact⟨_,q,hd⟩
  ·exact⟨o,keep c o (I.cne x c e) hc nch ho (I.qW x c e),hd⟩
 refine⟨I.ok,I.os,hg,⟨λb o e n hb hx=>?_,λb o e n hb hx=>?_,λb o e n hx=>?_,λb o e hx=>?_,λb xs e=>xy b xs (I.base.xy b xs e),λb o xs e=>vI b o xs (I.base.vI b o xs e),λb ps e=>?_⟩,?_,λx c e=>?_,?_,λx c e=>?_,λp hp=>?_,hok,I.len⟩
 ·exact keep b o (neL b o e) hb (neC b o e hx) (I.base.keep b o e n hb hx) (I.base.free b o e n hx)
 ·obtain⟨sl,e1⟩:=I.base.slot b o e n hb hx;obtain⟨sl',e2⟩:=slot b _ (neL b o e) hb (neC b o e hx) e1 (I.base.free b o e n hx);exact⟨sl',e2⟩
 ·obtain⟨o',e1⟩:=I.base.there b o e hx;exact free b o' (neC b o e hx) e1 (I.base.free b o e n hx)
 ·obtain⟨o',e1⟩:=I.base.there b o e hx;exact there b o' (neC b o e hx) e1
 ·obtain⟨m1,e1⟩:=I.base.xA b ps e;obtain⟨m2,e2⟩:=xA b _ e1;exact⟨m1++m2,by rw[e2,Array.append_assoc]⟩
 ·obtain⟨m,hn,hl⟩:=I.loc;refine⟨m,ns m hn,λi x v e1 e2 e3=>?_⟩
  obtain⟨u,r,l⟩:=hl i x v e1 e2 e3;refine⟨u,r,?_⟩;rcases l with l | ⟨k,c,e,z⟩
  ·exact .inl l
  ·exact .inr ⟨k,c,e,cellK x c e _ z⟩
 ·obtain⟨v,z⟩:=I.cell x c e;exact⟨v,cellK x c e v z⟩
 ·obtain⟨m,⟨o,_,_,ho,_⟩,_⟩:=I.loc;exact free _ o (λz=>(hch _ z).2.1 rfl) ho I.free
 ·obtain⟨v,o,ho,hd⟩:=I.cell x c e;exact free c o (λz=>(hch c z).2.2.1 x c e rfl) ho (I.qW x c e)
 ·obtain⟨e,n,ne,nf,d⟩:=I.pin p hp;have nch:p.1∉ch:=λz=>(hch p.1 z).2.2.2 p hp rfl
  exact⟨keep p.1 p.2 ne nf nch e n,free p.1 p.2 nch e n,ne,nf,d⟩
theorem Inv.un {t':Nat}(I:Inv X pins σ H s)(u:Un X.fs [] H H' s.heap h')(hok:HOk X.prog X.w H' h'):Inv X pins σ H' { s with heap:=h',toks:=t' }:=by
 obtain⟨m,⟨o,es,ep,ho,r⟩,_⟩:=id I.loc;obtain⟨sl,hL⟩:=u.any ho I.free (by simp)
 exact I.step (g':=s.gens) (d':=s.drawn) (ch:=[]) (λ_ z=>nomatch z) (λb o _ hb _ e n=>u.keep b o e n hb (by simp)) (λb o _ hb _ e n=>u.slot b o e n hb (by simp)) (λb o _ e n=>u.free b o e n (by simp)) (λb o _ e=>u.there b o e (by simp)) u.xy u.vI u.xA (λm' hm=>by
  obtain⟨o',es',ep',ho',r'⟩:=hm;rw[ho]at ho';cases ho';exact⟨_,es',ep',hL,r'⟩) hok I.bare
theorem Inv.call {g':Array GenState}{t':Nat}{d':Drawn}{ch:List Addr}(I:Inv X pins σ H s)(u:Un (frs X.stack) ch H H' s.heap h')(hok:HOk X.prog X.w H' h')(hg:AllBare g')
  (hch:∀b∈ch,(b∈X.ex\/X.s₀.heap.objs.size<=b)/\b≠X.env.locals/\(∀x c,X.env.cells.lookup x=some c->c≠b)/\∀p∈X.pn++pins,p.1≠b) :
  Inv X pins σ H' { s with heap:=h',gens:=g',drawn:=d',toks:=t' }:=by
 obtain⟨m,⟨o,es,ep,ho,r⟩,_⟩:=id I.loc;obtain⟨sl,hL⟩:=u.any ho I.free λz=>(hch _ z).2.1 rfl
 exact I.step (ch:=ch) hch (λb o hL hb hc e n=>u.keep b o e n (λz=>(List.mem_cons.mp (I.DZ b z)).elim hL hb) hc) (λb o _ _ hc e n=>u.any e n hc) (λb o hc e n=>u.free b o e n hc) (λb o hc e=>u.there b o e hc) u.xy u.vI u.xA (λm' hm=>by
  obtain⟨o',es',ep',ho',r'⟩:=hm;rw[ho]at ho';cases ho';exact⟨_,es',ep',hL,r'⟩) hok hg
theorem Inv.turned {t':Nat}{it:Addr}(I:Inv X pins σ H s)(k:∀b o,b≠it->s.heap.get? b=some o->h'.get? b=some o)(hn:H it=none)(hL:it≠X.env.locals)
  (h1:it∈X.ex\/X.s₀.heap.objs.size<=it) (h2:∀x c,X.env.cells.lookup x=some c->c≠it) (h3:∀p∈X.pn++pins,p.1≠it):Inv X pins σ H { s with heap:=h',toks:=t' }:=by
 have nit:∀b u,H b=some u->b≠it:=λb u e z=>by rw[z,hn]at e;cases e
 refine I.step (g':=s.gens) (d':=s.drawn) (ch:=[it]) (λb hb=>?_) (λb o _ _ hc e _=>k b o (λz=>hc (by simp[z])) e) (λb o _ _ hc e _=>⟨o.slots,k b o (λz=>hc (by simp[z])) e⟩) (λ_ _ _ _ n=>n)
  (λb o hc e=>⟨o,k b o (λz=>hc (by simp[z])) e⟩) (λ_ _ e=>e) (λ_ _ _ e=>e) (λb ps e=>⟨#[],by rw[e];simp⟩) (λm hm=>?_) (λb u e=>?_) I.bare
 ·have e:b=it:=by simpa using hb
  subst e;exact⟨h1,hL,h2,h3⟩
 ·obtain⟨o,es,ep,ho,r⟩:=hm;exact⟨o,es,ep,k _ o (akp hL) ho,r⟩
 ·refine(I.hok b u e).nC (λc v hc q=>k c v ?_ q) (λ_ q=>q) λ_ _ q=>q
  rcases hc with z | z
  ·rw[z];exact nit b u e
  ·exact nit c _ z
theorem Inv.tok (I:Inv X pins σ H s)(t:Nat):Inv X pins σ H { s with toks:=t }:=I.un (h':=s.heap) (t':=t) Un.refl I.hok
theorem Inv.kept {t':Nat}(I:Inv X pins σ H s)(k:∀b u,s.heap.get? b=some u->h'.get? b=some u):Inv X pins σ H { s with heap:=h',toks:=t' }:=I.un (Un.kept k) (I.hok.kept k)
theorem Inv.laid {a:Addr}{o:HO}{t':Nat}(I:Inv X pins σ H s)(k:∀b u,s.heap.get? b=some u->h'.get? b=some u)(hp:s.heap.objs.size<=a)(new:fO X.prog X.w (upd H a o) h' a o) :
  Inv X pins σ (upd H a o) { s with heap:=h',toks:=t' }:=I.un (Un.laid k hp (I.hok.fresh hp)) (I.hok.laid k hp new)
theorem Inv.write {x e:Addr}{o:HO}{t':Nat}(I:Inv X pins σ H s)(mu:Mut (H x))(he:e=x\/H e=some (.own x))(k:∀b u,b≠e->s.heap.get? b=some u->h'.get? b=some u)(heo:∃u,h'.get? e=some u)
  (new:fO X.prog X.w (upd H x o) h' x o):Inv X pins σ (upd H x o) { s with heap:=h',toks:=t' }:=I.un (Un.write mu he k heo) (I.hok.write mu he k heo new)
theorem Inv.D1 {S6:List (Addr×Obj)}(I:Inv X pins σ H s)(h:∀p∈S6,s.heap.get? p.1=some p.2/\H p.1=none/\p.1≠X.env.locals/\p.1∉X.fs/\∀v,p.2.data≠.cell v):Inv X S6 σ H s :=
 ⟨I.ok,I.os,I.bare,I.base,I.loc,I.cell,I.free,I.qW,λp hp=>(List.mem_append.mp hp).elim (λz=>I.pin p (akA _ z)) (h p),I.hok,I.len⟩
theorem Ft {N:List Str}(hN:N.Nodup){i j:Nat}{x:Str}(a:N[i]?=some x)(b:N[j]?=some x):i=j:=by
 obtain⟨h1,e1⟩:=List.getElem?_eq_some_iff.mp a;obtain⟨h2,e2⟩:=List.getElem?_eq_some_iff.mp b;exact(List.getElem_inj hN).mp (e1.trans e2.symm)
theorem L7 {M:Model}{A:Around}{E:Value->Shared->Prop}{i:Nat}{x:Str}{v:V}{u:Value}{Q:Unit->Shared->Prop}(I:Inv X pins σ H s)(hN:X.N.Nodup)(hi:X.N[i]?=some x)(hx:Loc X.env.scope x)(r:RelV v u)
  (h:∀s',Inv X pins (σ.set i (some v)) H s'->(∃a,Heap.SameBut a s.heap s'.heap/\(a=X.env.locals\/X.env.cells.lookup x=some a))->Q () s') (hf:X.fn x=true\/X.env.scope.names.lookup x=some .local:=by first | exact .inl rfl | exact .inr rfl | assumption):wpAny M A (storeName X.env x u) Q E s:=by
 obtain⟨m,hn,hl⟩:=id I.loc;have ahd:(X.env.scope.kind == .class || (X.env.scope.kind == .module && X.env.locals != X.env.globals))=false:=by rw[I.ok.kind];rfl
 have hiσ:i < σ.length:=by rw[I.len];exact(List.getElem?_eq_some_iff.mp hi).1
 have cne:=I.cne;have tracked:∀ {a:Addr} {h':Heap},(∃o,s.heap.get? a=some o/\H a=none)->Heap.SameBut a s.heap h'->HOk X.prog X.w H h':=λ{a h'} ha hs b ob e=>by
  obtain⟨_,_,S7⟩:=ha;refine(I.hok b ob e).nC (λc w' hc q=>(hs.2 c ?_).trans q) (λ_ q=>q) λ_ _ q=>q
  rintro rfl;rcases hc with rfl | hc
  ·rw[S7]at e;cases e
  ·rw[S7]at hc;cases hc
 rcases hx with hk | hk
 ·refine wpAny_storeName_local hk hn (λh' hn' hs=>?_) ahd
  obtain⟨oL,_,_,hoL,_⟩:=id hn;refine h _ ⟨I.ok,I.os,I.bare,⟨λb o e n hb hx=>?_,λb o e n hb hx=>?_,I.base.free,λb o e hx=>?_,I.base.xy,I.base.vI,I.base.xA⟩,⟨_,hn',λj y v' e1 e2 e3=>?_⟩,λy c e=>?_,I.free,I.qW,λp hp=>?_,tracked ⟨oL,hoL,I.free⟩ hs,by simpa using I.len⟩ ⟨_,hs,.inl rfl⟩
  ·exact(hs.2 b (akj (akf (tm e) I.ok.above))).trans (I.base.keep b o e n hb hx)
  ·obtain⟨sl,e1⟩:=I.base.slot b o e n hb hx;exact⟨sl,(hs.2 b (akj (akf (tm e) I.ok.above))).trans e1⟩
  ·obtain⟨o',e1⟩:=I.base.there b o e hx;exact⟨o',(hs.2 b (akj (akf (tm e) I.ok.above))).trans e1⟩
  ·by_cases hj:j=i
   ·subst hj;rw[hi]at e1;cases e1;rw[List.getElem?_set_self hiσ]at e2;cases e2;exact⟨u,r,.inl ⟨hk,by simp⟩⟩
   ·rw[List.getElem?_set_ne (akp hj)]at e2;obtain⟨u',r',q⟩:=hl j y v' e1 e2 e3;refine⟨u',r',?_⟩;rcases q with ⟨k,e⟩ | ⟨k,c,e,z⟩
    ·refine .inl ⟨k,?_⟩;have:y≠x:=λe=>hj (Ft hN e1 (e▸hi))
     simp[this,e]
    ·exact .inr ⟨k,c,e,z.sameBut hs (cne y c e)⟩
  ·obtain⟨w',z⟩:=I.cell y c e;exact⟨w',z.sameBut hs (cne y c e)⟩
  ·obtain⟨e,n,ne,nf,d⟩:=I.pin p hp;exact⟨(hs.2 p.1 ne).trans e,n,ne,nf,d⟩
 ·have hfn:X.fn x=true:=by
   rcases hf with z | z
   ·exact z
   ·rw[z]at hk;cases hk
  obtain⟨c,hc⟩:=I.ok.has x (.inl hk);obtain⟨w',z⟩:=I.cell x c hc;refine wpAny_storeName_cell I.ok.kind hk hc z (λh' hc' hs=>?_)
  obtain⟨oc,hoc,ahe⟩:=id z;refine h { s with heap:=h' } ⟨I.ok,I.os,I.bare,⟨λb o e n hb hx=>?_,λb o e n hb hx=>?_,I.base.free,λb o e hx=>?_,I.base.xy,I.base.vI,I.base.xA⟩,⟨m,hn.sameBut hs (akp (cne x c hc)),λj y v' e1 e2 e3=>?_⟩,λy c' e=>?_,I.free,I.qW,λp hp=>?_,tracked ⟨oc,hoc,I.qW x c hc⟩ hs,by simpa using I.len⟩ ⟨c,hs,.inr hc⟩
  ·exact(hs.2 b (akj (akf (tm e) (I.ok.cab x c hfn hc)))).trans (I.base.keep b o e n hb hx)
  ·obtain⟨sl,e1⟩:=I.base.slot b o e n hb hx;exact⟨sl,(hs.2 b (akj (akf (tm e) (I.ok.cab x c hfn hc)))).trans e1⟩
  ·obtain⟨o',e1⟩:=I.base.there b o e hx;exact⟨o',(hs.2 b (akj (akf (tm e) (I.ok.cab x c hfn hc)))).trans e1⟩
  ·by_cases hj:j=i
   ·subst hj;rw[hi]at e1;cases e1;rw[List.getElem?_set_self hiσ]at e2;cases e2;exact⟨u,r,.inr ⟨.inl hk,c,hc,hc'⟩⟩
   ·rw[List.getElem?_set_ne (akp hj)]at e2;obtain⟨u',r',q⟩:=hl j y v' e1 e2 e3;refine⟨u',r',?_⟩;rcases q with q | ⟨k,c',e,z'⟩
    ·exact .inl q
    ·refine .inr ⟨k,c',e,z'.sameBut hs ?_⟩;rintro rfl;exact hj (Ft hN e1 (I.ok.inj _ _ _ e hc▸hi))
  ·by_cases hcc:c'=c
   ·subst hcc;exact⟨_,hc'⟩
   ·obtain⟨w2,z2⟩:=I.cell y c' e;exact⟨w2,z2.sameBut hs hcc⟩
  ·obtain⟨e,n,ne,nf,d⟩:=I.pin p hp;refine⟨(hs.2 p.1 ?_).trans e,n,ne,nf,d⟩;intro q;rw[q,hoc]at e;have q':oc=p.2:=ajZ e;exact d w' (by rw[<-q'];exact ahe)
theorem vJ {M:Model}{A:Around}{E:Value->Shared->Prop}{i:Nat}{x:Str}{v:V}{u:Value}{Q:Unit->Shared->Prop}(I:Inv X pins σ H s)(hN:X.N.Nodup)(hi:X.N[i]?=some x)(hx:Loc X.env.scope x)(r:RelV v u)
  (h:∀s',Inv X pins (σ.set i (some v)) H s'->Q () s') (hf:X.fn x=true\/X.env.scope.names.lookup x=some .local:=by first | exact .inl rfl | exact .inr rfl | assumption):wpAny M A (storeName X.env x u) Q E s :=
 L7 I hN hi hx r (λs' I' _=>h s' I') hf
theorem Inv.Nt {s':Shared}{ch:List Addr}(I:Inv X pins σ H s)(ho:s'.os=s.os)(u:Un (frs X.stack) ch H H' s.heap s'.heap)(hok:HOk X.prog X.w H' s'.heap)(hg:AllBare s'.gens)
  (hch:∀b∈ch,(b∈X.ex\/X.s₀.heap.objs.size<=b)/\b≠X.env.locals/\(∀x c,X.env.cells.lookup x=some c->c≠b)/\∀p∈X.pn++pins,p.1≠b):Inv X pins σ H' s':=by
 obtain⟨h',g',d',t',o'⟩:=s';have e:o'=s.os:=ho;subst e;exact I.call (g':=g') (t':=t') (d':=d') u hok hg hch
end
abbrev XK:=Value->Option Addr->Hp->Prop
abbrev St:=List (Option V)
abbrev VK:=V->Hp->Prop
abbrev TE:=St->Hp->VK->Prop
abbrev TT:=St->Hp->(Bool->Hp->Prop)->Prop
abbrev TA:=St->Hp->(List V->Hp->Prop)->Prop
structure Ends where
 nx:St->Hp->Prop
 rt:VK
 bk:St->Hp->Prop:=λ_ _=>False
 ct:St->Hp->Prop:=λ_ _=>False
abbrev TS:=Ends->St->Hp->Prop
def EP (X:Cx)(pins:List (Addr×Obj))(σ:St)(Q:VK)(u:Value)(s':Shared):Prop:=∃v H',Inv X pins σ H' s'/\RelV v u/\Q v H'
def TP (X:Cx)(pins:List (Addr×Obj))(σ:St)(Q:Bool->Hp->Prop)(b:Bool)(s':Shared):Prop:=∃H',Inv X pins σ H' s'/\Q b H'
def AP (X:Cx)(pins:List (Addr×Obj))(σ:St)(Q:List V->Hp->Prop)(us:List Value)(s':Shared):Prop:=∃vs H',Inv X pins σ H' s'/\Vals vs us/\Q vs H'
def SP (X:Cx)(pins:List (Addr×Obj))(D:Ends)(f:Flow)(s':Shared):Prop :=
 match f with
 | .next=>∃σ' H',Inv X pins σ' H' s'/\D.nx σ' H'
 | .brk=>∃σ' H',Inv X pins σ' H' s'/\D.bk σ' H'
 | .cont=>∃σ' H',Inv X pins σ' H' s'/\D.ct σ' H'
 | .ret u=>∃v σ' H',Inv X pins σ' H' s'/\RelV v u/\D.rt v H'
def PE (X:Cx)(e:Expr)(t:TE):Prop :=
 ∀(pins:List (Addr×Obj)) (s:Shared) (σ:St) (H:Hp) (Q:VK),Inv X pins σ H s->t σ H Q->wpAny (model X.prog X.w) X.A (eval e X.env) (EP X pins σ Q) X.xe s
def PT (X:Cx)(e:Expr)(t:TT):Prop :=
 ∀(pins:List (Addr×Obj)) (s:Shared) (σ:St) (H:Hp) (Q:Bool->Hp->Prop),Inv X pins σ H s->t σ H Q->wpAny (model X.prog X.w) X.A (isTrue e X.env (eval e X.env)) (TP X pins σ Q) X.xe s
def PW (X:Cx)(e:Expr)(t:TT):Prop :=
 ∀(whole:Sem Value) (pins:List (Addr×Obj)) (s:Shared) (σ:St) (H:Hp) (Q:Bool->Hp->Prop),Inv X pins σ H s->t σ H Q->wpAny (model X.prog X.w) X.A (isTrue e X.env whole) (TP X pins σ Q) X.xe s
theorem PW.pt {X:Cx}{e:Expr}{t:TT}(h:PW X e t):PT X e t:=h _
def PA (X:Cx)(es:List Expr)(t:TA):Prop :=
 ∀(pos:Pos) (pins:List (Addr×Obj)) (s:Shared) (σ:St) (H:Hp) (Q:List V->Hp->Prop),Inv X pins σ H s->t σ H Q->wpAny (model X.prog X.w) X.A (spliced (backTo pos (aj0 es X.env))) (AP X pins σ Q) X.xe s
def PS (X:Cx)(st:Stmt)(t:TS):Prop :=
 ∀(pins:List (Addr×Obj)) (s:Shared) (σ:St) (H:Hp) (D:Ends),Inv X pins σ H s->t D σ H->wpAny (model X.prog X.w) X.A (exec st X.env) (SP X pins D) X.xe s
def PSs (X:Cx)(st:List Stmt)(t:TS):Prop :=
 ∀(pins:List (Addr×Obj)) (s:Shared) (σ:St) (H:Hp) (D:Ends),Inv X pins σ H s->t D σ H->wpAny (model X.prog X.w) X.A (execs st X.env) (SP X pins D) X.xe s
theorem thn {α:Type}{t:Sem α}{Q Q':α->Shared->Prop}{M:Model}{A:Around}{E:Value->Shared->Prop}{s:Shared}(h:wpAny M A t Q E s)(hQ:∀a s,Q a s->Q' a s):wpAny M A t Q' E s:=aki h hQ λ_ _ x=>x
section
variable{X:Cx}
theorem bin {a b:Expr}{ta tb:TE}(ha:PE X a ta)(hb:PE X b tb){pins:List (Addr×Obj)}{s:Shared}{σ:St}{H:Hp}{R:V->V->Hp->Prop}(I:Inv X pins σ H s)(h:ta σ H λx H1=>tb σ H1 λy H2=>R x y H2)
  {α:Type} {Q:α->Shared->Prop} {f:Value->Value->Sem α}
  (hf:∀v u s2 x y H2,Inv X pins σ H2 s2->RelV x v->RelV y u->R x y H2->wpAny (model X.prog X.w) X.A (f v u) Q X.xe s2) :
  wpAny (model X.prog X.w) X.A (eval a X.env) (λv s₁=>wpAny (model X.prog X.w) X.A (eval b X.env) (λu s₂=>wpAny (model X.prog X.w) X.A (f v u) Q X.xe s₂) X.xe s₁) X.xe s:=by
 refine thn (ha pins s σ H _ I h) λv s1 ⟨x,H1,I1,r1,q1⟩=>?_
 refine thn (hb pins s1 σ H1 _ I1 q1) λu s2 ⟨y,H2,I2,r2,q2⟩=>?_
 exact hf v u s2 x y H2 I2 r1 r2 q2
def Zt (i:Nat):TE:=λσ H Q=>∃v,σ[i]?=some (some v)/\Q v H
def tC (v:V):TE:=λ_ H Q=>Q v H
theorem UP {i:Nat}{x:Str}{pos:Pos}(hN:X.N[i]?=some x)(hv:Vis X.env.scope x)(hd:(x == ("__debug__":Str))=false:=by decide)(hcd:(x == ("__classdict__":Str))=false:=by decide):PE X (.Name x pos) (Zt i):=by
 intro pins s σ H Q I h;obtain⟨v,e,h⟩:=h;obtain⟨m,hn,hl⟩:=I.loc;obtain⟨u,r,l⟩:=hl i x v hN e hv;have fin:EP X pins σ Q u s:=⟨v,H,I,r,h⟩;rcases l with ⟨hk,hm⟩ | ⟨hk,c,hc,vL⟩
 ·exact wpAny_Name (wpAny_loadName_local I.ok.kind hk hn hm fin) hd
 ·rcases hk with hk | hk
  ·exact wpAny_Name (wpAny_loadName_cell I.ok.kind hk hc vL fin) hd
  ·exact wpAny_Name (wpAny_loadName_free I.ok.kind hk hc vL fin hcd) hd
theorem ah {i j pos}:PE X (.Constant (.int i) j pos) (tC (.int i)):=λ_ _ _ H _ I h=>wpAny_Constant_int ⟨.int i,H,I.tok _,⟨_,rfl⟩,h⟩
theorem kK {b j pos}:PE X (.Constant (.bool b) j pos) (tC (.bl b)):=λ_ _ _ H _ I h=>Constant_bool ⟨.bl b,H,I,rfl,h⟩
theorem ix {j pos}:PE X (.Constant .none j pos) (tC .non):=λ_ _ _ H _ I h=>Constant_none ⟨.non,H,I,rfl,h⟩
theorem ao {x j pos}:PE X (.Constant (.str x) j pos) (tC (.str x)):=λ_ _ _ H _ I h=>Calls.Constant_str ⟨.str x,H,I.tok _,⟨_,rfl⟩,h⟩
def Gl (X:Cx)(x:Str):Prop:=X.env.kindOf x=some .globalImplicit
theorem kh {E:Value->Shared->Prop}{pins:List (Addr×Obj)}{s:Shared}{σ:St}{H:Hp}{x:Str}{u:Value}{pos:Pos}{Q:Value->Shared->Prop}(I:Inv X pins σ H s)(hg:Gl X x)(hm:X.mg x=some u)(h:Q u s)
  (hd:(x == ("__debug__":Str))=false:=by decide):wpAny (model X.prog X.w) X.A (eval (.Name x pos) X.env) Q E s :=
 Calls.Name_function_global I.ok.kind hg (Calls.loadGlobal_global (by rw[I.ok.glob];exact I.mod.glob.keeps I.bk) hm h) hd
theorem IT {E:Value->Shared->Prop}{pins:List (Addr×Obj)}{s:Shared}{σ:St}{H:Hp}{x:Str}{u:Value}{pos:Pos}{Q:Value->Shared->Prop}(I:Inv X pins σ H s)(hg:Gl X x)(hm:X.mg x=none)(hv:ak2 x=some u)(h:Q u s)
  (hn:x≠"__name__":=by decide) (hd:(x == ("__debug__":Str))=false:=by decide):wpAny (model X.prog X.w) X.A (eval (.Name x pos) X.env) Q E s:=by
 obtain⟨mb,h1,h2⟩:=I.mod.blt;exact Calls.Name_function_global I.ok.kind hg (Calls.loadGlobal_builtin (by rw[I.ok.glob];exact I.mod.glob.keeps I.bk) hm (by rw[I.ok.blt];exact h1.keeps I.bk) ((h2 x hn).trans hv) h) hd
theorem D2 {x:Str}{v:V}{u:Value}{pos:Pos}(hg:Gl X x)(hm:X.mg x=some u)(r:RelV v u)(hd:(x == ("__debug__":Str))=false:=by decide):PE X (.Name x pos) (tC v) :=
 λ_ _ _ H _ I h=>kh I hg hm ⟨v,H,I,r,h⟩ hd
variable{a b:Expr}{ta tb:TE}{pos:Pos}
def PC (X:Cx)(op:CmpOp)(a b:Expr)(t:TE):Prop :=
 ∀(pins:List (Addr×Obj)) (s:Shared) (σ:St) (H:Hp) (Q:VK),Inv X pins σ H s->t σ H Q ->
  wpAny (model X.prog X.w) X.A (eval a X.env) (λv s₁=>wpAny (model X.prog X.w) X.A (eval b X.env) (λu s₂=>wpAny (model X.prog X.w) X.A (akW op v u) (EP X pins σ Q) X.xe s₂) X.xe s₁) X.xe s
theorem Nu (b:Expr){op:CmpOp}(h:op≠.In)(h2:op≠.NotIn):behindInMarks op b=false:=by
 have e1:(op == CmpOp.In)=false:=by cases op <;> first | rfl | exact absurd rfl h
 have e2:(op == CmpOp.NotIn)=false:=by cases op <;> first | rfl | exact absurd rfl h2
 cases b <;> simp[behindInMarks,e1,e2]
def tB (t:TE):TT:=λσ H Q=>t σ H λx H1=>∃c,x=.bl c/\Q c H1
theorem D3 {op:CmpOp}{t:TE}(h:PC X op a b t)(h1:behindInMarks op b=false:=by first | exact Nu _ (by decide) (by decide) | rfl):PT X (.Compare a [op] [b] pos) (tB t):=by
 intro pins s σ H Q I hw;refine wpAny_isTrue_Compare1 (thn (h pins s σ H _ I hw) λv s1 h1=>thn h1 λu s2 h2=>thn h2 λc s3 ⟨x,H1,I1,r1,q1⟩=>?_) h1
 obtain⟨d,rfl,q⟩:=q1;cases r1;exact wpAny_truthy_bool ⟨H1,I1,q⟩
theorem oj {e:Expr}{t:TE}(h:PE X e t)(he:∀whole,isTrue e X.env whole=(do let v <-whole;standAt e.pos;holding [v] (truthy v)):=by intro _;rfl):PT X e (tB t):=by
 intro pins s σ H Q I hw;refine isTrue_plain (thn (h pins s σ H _ I hw) λv s1 ⟨x,H1,I1,r1,q1⟩=>?_) (he _)
 obtain⟨d,rfl,q⟩:=q1;cases r1;exact wpAny_truthy_bool ⟨H1,I1,q⟩
variable{tA tB':TT}{rest:List Expr}
def ahf (t u:TT):TT:=λσ H Q=>t σ H λc H1=>if c=true then u σ H1 Q else Q false H1
def tOr (t u:TT):TT:=λσ H Q=>t σ H λc H1=>if c=true then Q true H1 else u σ H1 Q
def ahg (t:TT):TT:=λσ H Q=>t σ H λc H1=>Q (!c) H1
theorem pw_and1 (ha:PT X a tA):PW X (.BoolOp .And [a] pos) tA:=by
 intro wh pins s σ H Q I h;refine isTrue_and (thn (ha pins s σ H Q I h) λc s1 e=>?_)
 cases c with
 |true=>exact isTrue_and_nil e
 |false=>exact e
theorem pw_or1 (ha:PT X a tA):PW X (.BoolOp .Or [a] pos) tA:=by
 intro wh pins s σ H Q I h;refine isTrue_or (thn (ha pins s σ H Q I h) λc s1 e=>?_)
 cases c with
 |false=>exact isTrue_or_nil e
 |true=>exact e
theorem pw_and (ha:PT X a tA)(hb:PW X (.BoolOp .And (b::rest) pos) tB'):PW X (.BoolOp .And (a::b::rest) pos) (ahf tA tB'):=by
 intro wh pins s σ H Q I h;refine isTrue_and (thn (ha pins s σ H _ I h) λc s1 ⟨H1,I1,q1⟩=>?_)
 cases c with
 |true=>exact hb wh pins s1 σ H1 Q I1 q1
 |false=>exact⟨H1,I1,q1⟩
theorem pw_or (ha:PT X a tA)(hb:PW X (.BoolOp .Or (b::rest) pos) tB'):PW X (.BoolOp .Or (a::b::rest) pos) (tOr tA tB'):=by
 intro wh pins s σ H Q I h;refine isTrue_or (thn (ha pins s σ H _ I h) λc s1 ⟨H1,I1,q1⟩=>?_)
 cases c with
 |true=>exact⟨H1,I1,q1⟩
 |false=>exact hb wh pins s1 σ H1 Q I1 q1
theorem sv (ha:PT X a tA):PT X (.UnaryOp .Not a pos) (ahg tA):=by
 intro pins s σ H Q I h;exact isTrue_not (ha pins s σ H (λc H1=>Q (!c) H1) I h)
def Zu (ta tb:TE):TE:=λσ H Q=>ta σ H λx H1=>∃c,x=.bl c/\if c=true then tb σ H1 Q else Q (.bl false) H1
def ahh (ta tb:TE):TE:=λσ H Q=>ta σ H λx H1=>∃c,x=.bl c/\if c=true then Q (.bl true) H1 else tb σ H1 Q
theorem IU {op}{t:TE}(h:PE X a t):PE X (.BoolOp op [a] pos) t:=λpins s σ H Q I hw=>BoolOp_one (h pins s σ H Q I hw)
theorem Nv (ha:PE X a ta)(hb:PE X (.BoolOp .And (b::rest) pos) tb):PE X (.BoolOp .And (a::b::rest) pos) (Zu ta tb):=by
 intro pins s σ H Q I h;refine BoolOp_and (thn (ha pins s σ H _ I h) λv s1 ⟨x,H1,I1,r1,q1⟩=>?_)
 obtain⟨c,rfl,q1⟩:=q1;cases r1;refine wpAny_truthy_bool ?_;cases c with
 |true=>exact hb pins s1 σ H1 Q I1 q1
 |false=>exact⟨.bl false,H1,I1,rfl,q1⟩
theorem Zv (ha:PE X a ta)(hb:PE X (.BoolOp .Or (b::rest) pos) tb):PE X (.BoolOp .Or (a::b::rest) pos) (ahh ta tb):=by
 intro pins s σ H Q I h;refine BoolOp_or (thn (ha pins s σ H _ I h) λv s1 ⟨x,H1,I1,r1,q1⟩=>?_)
 obtain⟨c,rfl,q1⟩:=q1;cases r1;refine wpAny_truthy_bool ?_;cases c with
 |false=>exact hb pins s1 σ H1 Q I1 q1
 |true=>exact⟨.bl true,H1,I1,rfl,q1⟩
def tIf (t:TT)(ta tb:TE):TE:=λσ H Q=>t σ H λc H1=>if c=true then ta σ H1 Q else tb σ H1 Q
theorem Fu {c:Expr}(hc:PT X c tA)(ha:PE X a ta)(hb:PE X b tb):PE X (.IfExp c a b pos) (tIf tA ta tb):=by
 intro pins s σ H Q I h;refine wpAny_IfExp (thn (hc pins s σ H _ I h) λd s1 ⟨H1,I1,q1⟩=>?_)
 cases d with
 |true=>exact ha pins s1 σ H1 Q I1 q1
 |false=>exact hb pins s1 σ H1 Q I1 q1
end
def SqL (K:bo)(H:Hp)(a:Addr)(xs:List V):Prop :=
 Rd H a (.lst xs) \/
  ∃(o:Obj) (its:Array Value) (n:Nat),K.lookup a=some o/\o.cls=.type "list"/\o.dict=none/\o.data=.seq its n/\its.size<=gr/\Vals xs its.toList
def SqT (K:bo)(H:Hp)(a:Addr)(xs:List V):Prop :=
 Rd H a (.tup xs) \/
  ∃(o:Obj) (its:Array Value) (n:Nat),K.lookup a=some o/\o.cls=.type "tuple"/\o.data=.seq its n/\its.size<=gr/\Vals xs its.toList
def ahi:Value->Option V
 | .none=>some .non
 | .bool b=>some (.bl b)
 | .int i _=>some (.int i)
 | .str x _=>some (.str x)
 | .bytes b _=>some (.byt b)
 | .float b _=>some (.flt b)
 | .ref a=>some (.ref a)
 | .type n=>some (.ty n)
 |_=>none
theorem RelV.abs {x:V}{u:Value}(r:RelV x u):ahi u=some x:=by
 cases x with
 |non=>cases r;rfl
 |bl _=>cases r;rfl
 |int _=>obtain⟨t,rfl⟩:=r;rfl
 |str _=>obtain⟨t,rfl⟩:=r;rfl
 |byt _=>obtain⟨t,rfl⟩:=r;rfl
 |flt _=>obtain⟨t,rfl⟩:=r;rfl
 |ref _=>cases r;rfl
 |ty _=>cases r;rfl
theorem RelV.inj {x y:V}{u:Value}(r:RelV x u)(q:RelV y u):x=y:=ajZ (r.abs.symm.trans q.abs)
theorem Vals.inj:∀ {xs ys:List V} {us:List Value},Vals xs us->Vals ys us->xs=ys
 |_,_,_,.nil,.nil=>rfl
 |_,_,_,.cons r t,.cons r' t'=>by rw[r.inj r',Vals.inj t t']
section
variable{X:Cx}{pins:List (Addr×Obj)}{σ:St}{H:Hp}{s:Shared}{a:Addr}{xs ys:List V}
theorem SqL.of {K:bo}(h:H a=some (.lst xs)):SqL K H a xs:=.inl (.inl h)
theorem SqT.of {K:bo}(h:H a=some (.tup xs)):SqT K H a xs:=.inl (.inl h)
theorem Inv.list (I:Inv X pins σ H s)(h:SqL X.K H a xs):∃its:List Value,Vals xs its/\PlainL s.heap a its.toArray/\xs.length<=gr:=by
 rcases h with h | ⟨o,its,n,hk,hc,hd,hs,hz,r⟩
 ·obtain⟨z,its,n,r,e⟩:=h.ok I.hok;exact⟨its,r,⟨_,n,e,rfl,rfl,rfl⟩,z⟩
 ·refine⟨its.toList,r,⟨o,n,I.kIn a o hk,hc,hd,by simpa using hs⟩,?_⟩
  have e:=r.length;simp only[alc]at e;omega
theorem Inv.tuple (I:Inv X pins σ H s)(h:SqT X.K H a xs):∃its:List Value,Vals xs its/\IsTup s.heap a its.toArray/\xs.length<=gr:=by
 rcases h with h | ⟨o,its,n,hk,hc,hs,hz,r⟩
 ·obtain⟨z,its,r,p⟩:=h.ok I.hok;exact⟨its,r,p,z⟩
 ·refine⟨its.toList,r,⟨o,I.kIn a o hk,hc,n,by simpa using hs⟩,?_⟩
  have e:=r.length;simp only[alc]at e;omega
theorem Inv.Nw (I:Inv X pins σ H s)(h:SqL X.K H a xs)(h':SqL X.K H a ys):xs=ys:=by
 obtain⟨its,r,⟨o,n,e,_,_,d⟩,_⟩:=I.list h;obtain⟨its',r',⟨o',n',e',_,_,d'⟩,_⟩:=I.list h';rw[e]at e';cases e';rw[d]at d';injection d' with d1 _
 have:its=its':=by simpa using congrArg Array.toList d1
 subst this;exact r.inj r'
theorem Inv.L8 (I:Inv X pins σ H s)(h:SqT X.K H a xs)(h':SqT X.K H a ys):xs=ys:=by
 obtain⟨its,r,⟨o,e,_,n,d⟩,_⟩:=I.tuple h;obtain⟨its',r',⟨o',e',_,n',d'⟩,_⟩:=I.tuple h';rw[e]at e';cases e';rw[d]at d';injection d' with d1 _
 have:its=its':=by simpa using congrArg Array.toList d1
 subst this;exact r.inj r'
end
abbrev Cx.pe (X:Cx)(E:Value->Shared->Prop):Cx:={ X with xe:=E }
abbrev Cx.nox (X:Cx):Cx:=X.pe λ_ _=>False
theorem Cx.Ok.pe {X:Cx}(ok:X.Ok)(E:Value->Shared->Prop):(X.pe E).Ok :=
 ⟨ok.mod,ok.kind,ok.glob,ok.blt,ok.above,ok.inj,ok.has,ok.cab,ok.hd,ok.frames,ok.stk,ok.exf,ok.bs,ok.bsz,ok.IQ,ok.IS,ok.uJ,ok.frf⟩
theorem Cx.Ok.eT {X:Cx}{E:Value->Shared->Prop}(ok:(X.pe E).Ok):X.Ok :=
 ⟨ok.mod,ok.kind,ok.glob,ok.blt,ok.above,ok.inj,ok.has,ok.cab,ok.hd,ok.frames,ok.stk,ok.exf,ok.bs,ok.bsz,ok.IQ,ok.IS,ok.uJ,ok.frf⟩
section
variable{X:Cx}{pins:List (Addr×Obj)}{σ:St}{H:Hp}{s:Shared}{E:Value->Shared->Prop}
theorem Inv.pe (I:Inv X pins σ H s)(E:Value->Shared->Prop):Inv (X.pe E) pins σ H s:=⟨I.ok.pe E,I.os,I.bare,I.base,I.loc,I.cell,I.free,I.qW,I.pin,I.hok,I.len⟩
theorem Inv.eT (I:Inv (X.pe E) pins σ H s):Inv X pins σ H s:=⟨I.ok.eT,I.os,I.bare,I.base,I.loc,I.cell,I.free,I.qW,I.pin,I.hok,I.len⟩
theorem SP.eT {D:Ends}{f:Flow}{s':Shared}(h:SP (X.pe E) pins D f s'):SP X pins D f s':=by
 cases f with
 |next=>obtain⟨σ',H',I,q⟩:=h;exact⟨σ',H',I.eT,q⟩
 |brk=>obtain⟨σ',H',I,q⟩:=h;exact⟨σ',H',I.eT,q⟩
 |cont=>obtain⟨σ',H',I,q⟩:=h;exact⟨σ',H',I.eT,q⟩
 |ret u=>obtain⟨v,σ',H',I,r,q⟩:=h;exact⟨v,σ',H',I.eT,r,q⟩
theorem PE.nox {e:Expr}{t:TE}(h:PE X.nox e t):PE X e t:=λpins s σ H Q I hw =>
 aki (h pins s σ H Q (I.pe _) hw) (λ_ _ ⟨v,H',I',r,q⟩=>⟨v,H',I'.eT,r,q⟩) λ_ _ z=>akr z
theorem PT.nox {e:Expr}{t:TT}(h:PT X.nox e t):PT X e t:=λpins s σ H Q I hw =>
 aki (h pins s σ H Q (I.pe _) hw) (λ_ _ ⟨H',I',q⟩=>⟨H',I'.eT,q⟩) λ_ _ z=>akr z
theorem PSs.nox {st:List Stmt}{t:TS}(h:PSs X.nox st t):PSs X st t:=λpins s σ H D I hw =>
 aki (h pins s σ H D (I.pe _) hw) (λ_ _ q=>q.eT) λ_ _ z=>akr z
end
section
variable{X:Cx}{st:Stmt}{rest:List Stmt}{t u:TS}{e:Expr}{te:TE}{pos:Pos}
def S8:TS:=λD σ H=>D.nx σ H
def UQ (t u:TS):TS:=λD σ H=>t { D with nx:=u D } σ H
theorem aC:PSs X [] S8:=λ_ _ σ H _ I h=>wpAny_execs_nil ⟨σ,H,I,h⟩
theorem ai (h1:PS X st t)(h2:PSs X rest u):PSs X (st::rest) (UQ t u):=by
 intro pins s σ H D I h;refine wpAny_execs_cons (thn (h1 pins s σ H { D with nx:=u D } I h) λf s1 q=>?_)
 cases f with
 |next =>
  obtain⟨σ',H',I',q⟩:=q;exact h2 pins s1 σ' H' D I' q
 |ret v=>exact q
 |brk=>exact q
 |cont=>exact q
theorem aj (h1:PS X st t):PSs X [st] t:=by
 intro pins s σ H D I h;refine wpAny_execs_cons (thn (h1 pins s σ H D I h) λf s1 q=>?_)
 cases f with
 |next=>exact wpAny_execs_nil q
 |ret v=>exact q
 |brk=>exact q
 |cont=>exact q
theorem Inv.quiet {pins:List (Addr×Obj)}{σ:St}{H:Hp}{s:Shared}(I:Inv X pins σ H s):interactive X.env=false:=by simp[interactive,I.ok.kind]
def Zw (te:TE):TS:=λD σ H=>te σ H λ_ H1=>D.nx σ H1
theorem bJ (he:PE X e te)(hs:swapsWith e none pos.line X.env=pure false:=by rfl):PS X (.Expr e pos) (Zw te):=by
 intro pins s σ H D I h;exact wpAny_Expr_any (thn (he pins s σ H _ I h) λv s1 ⟨x,H1,I1,r1,q1⟩=>⟨σ,H1,I1,q1⟩) I.quiet hs
def ahj (te:TE):TS:=λD σ H=>te σ H D.rt
theorem aG (he:PE X e te):PS X (.Return (some e) pos) (ahj te):=by
 intro pins s σ H D I h;exact wpAny_Return_some (thn (he pins s σ H _ I h) λv s1 ⟨x,H1,I1,r1,q1⟩=>⟨x,σ,H1,I1,r1,q1⟩)
def ahk (c:TT)(t u:TS):TS:=λD σ H=>c σ H λb H1=>if b=true then t D σ H1 else u D σ H1
theorem a9 {c:Expr}{a b:List Stmt}{tc:TT}(hc:PT X c tc)(ha:PSs X a t)(hb:PSs X b u):PS X (.If c a b pos) (ahk tc t u):=by
 intro pins s σ H D I h;refine wpAny_If (thn (hc pins s σ H _ I h) λd s1 ⟨H1,I1,q1⟩=>?_)
 cases d with
 |true=>exact ha pins s1 σ H1 D I1 q1
 |false=>exact hb pins s1 σ H1 D I1 q1
end
abbrev TG:=V->St->Hp->(St->Hp->Prop)->Prop
abbrev TGs:=List V->St->Hp->(St->Hp->Prop)->Prop
def PG (X:Cx)(target:Expr)(t:TG):Prop :=
 ∀(pins:List (Addr×Obj)) (s:Shared) (σ:St) (H:Hp) (v:V) (u:Value) (Q:St->Hp->Prop),Inv X pins σ H s->RelV v u->t v σ H Q ->
  wpAny (model X.prog X.w) X.A (assign target X.env u) (λ_ s'=>∃σ' H',Inv X pins σ' H' s'/\Q σ' H') X.xe s
def PGs (X:Cx)(ts:List Expr)(t:TGs):Prop :=
 ∀(pins:List (Addr×Obj)) (s:Shared) (σ:St) (H:Hp) (vs:List V) (us:List Value) (Q:St->Hp->Prop),Inv X pins σ H s->Vals vs us->t vs σ H Q ->
  wpAny (model X.prog X.w) X.A (assignInOrder ((assignEach ts X.env).map (·.2)) us) (λ_ s'=>∃σ' H',Inv X pins σ' H' s'/\Q σ' H') X.xe s
abbrev UR:=V->V->V->Hp->(Hp->Prop)->Prop
def Zx (X:Cx)(t:UR):Prop :=
 ∀(pins:List (Addr×Obj)) (s:Shared) (σ:St) (H:Hp) (o i v:V) (ov iv u:Value) (Q:Hp->Prop),Inv X pins σ H s->RelV o ov->RelV i iv->RelV v u->t o i v H Q ->
  wpAny (model X.prog X.w) X.A (setItem ov iv u) (λ_ s'=>∃H',Inv X pins σ H' s'/\Q H') X.xe s
section
variable{X:Cx}{pos:Pos}
def dD (i:Nat):TG:=λv σ H Q=>Q (σ.set i (some v)) H
theorem iW {i:Nat}{x:Str}(hN:X.N.Nodup)(hi:X.N[i]?=some x)(hx:Loc X.env.scope x)(hf:X.fn x=true\/X.env.scope.names.lookup x=some .local:=by first | exact .inl rfl | exact .inr rfl | assumption):PG X (.Name x pos) (dD i):=by
 intro pins s σ H v u Q I r h;exact wpAny_assign_Name (vJ I hN hi hx r (λs' I'=>⟨_,H,I',h⟩) hf)
def ahl:TGs:=λvs σ H Q=>vs=[]/\Q σ H
def Zy (t:TG)(u:TGs):TGs:=λvs σ H Q=>∃v r,vs=v::r/\t v σ H λσ' H'=>u r σ' H' Q
theorem Lg:PGs X [] ahl:=by
 intro pins s σ H vs us Q I r h;obtain⟨e,h⟩:=h;subst e;cases r;exact assignInOrder_nil ⟨σ,H,I,h⟩
theorem sx {e:Expr}{es:List Expr}{t:TG}{u:TGs}(h1:PG X e t)(h2:PGs X es u)
  (hs:(assignEach (e::es) X.env).map (·.2)=assign e X.env::(assignEach es X.env).map (·.2):=by rfl):PGs X (e::es) (Zy t u):=by
 intro pins s σ H vs us Q I r h;obtain⟨v,vr,e1,h⟩:=h;subst e1;cases r with
 |cons r rr =>
  rw[hs];refine assignInOrder_cons (thn (h1 pins s σ H _ _ _ I r h) λ_ s1 ⟨σ1,H1,I1,q1⟩=>?_)
  exact h2 pins s1 σ1 H1 _ _ Q I1 rr q1
def ahm (K:bo)(n:Nat)(t:TGs):TG:=λv σ H Q=>∃a xs,v=.ref a/\SqT K H a xs/\xs.length=n/\t xs σ H Q
theorem Nx {es:List Expr}{k:Nat}{t:TGs}{n:Nat}(hc:X.calm=true)(h:PGs X es t)
  (hn:(assignEach es X.env).length=n:=by rfl) (hst:(assignEach es X.env).findIdx? (·.1)=none:=by rfl):PG X (.Tuple es k pos) (ahm X.K n t):=by
 intro pins s σ H v u Q I r hw;obtain⟨a,xs,e1,hq,hl,hw⟩:=hw;subst e1;cases r;obtain⟨its,rv,ht,hz⟩:=I.tuple hq;refine assign_Tuple_tuple (I.ok.hd hc) ht (by simp[hn,<-hl,rv.length]) hst λh' hx=>?_
 have I1:Inv X pins σ H { s with heap:=h' }:=I.kept (t':=s.toks) λb o e=>hx b o (akj (tm e)) e
 exact h pins _ σ H xs _ Q I1 (by simpa using rv) hw
def ahn (to ti:TE)(t:UR):TG:=λv σ H Q=>to σ H λo H1=>ti σ H1 λi H2=>t o i v H2 λH3=>Q σ H3
theorem IV {o i:Expr}{to ti:TE}{t:UR}(ho:PE X o to)(hi:PE X i ti)(hs:Zx X t)
  (ha:∀v,assign (.Subscript o i pos) X.env v=(do
   let ov <-holding [v] (eval o X.env)
   let iv <-holding [v,ov] (eval i X.env)
   standAt pos
   holding [v,ov,iv] (setItem ov iv v)
   release [v,ov,iv] []):=by intro _;rfl):PG X (.Subscript o i pos) (ahn to ti t):=by
 intro pins s σ H v u Q I r h;rw[ha];refine fu (wpAny_holding (thn (ho pins s σ H _ I h) λov s1 ⟨x,H1,I1,r1,q1⟩=>?_))
 refine fu (wpAny_holding (thn (hi pins s1 σ H1 _ I1 q1) λiv s2 ⟨y,H2,I2,r2,q2⟩=>?_))
 refine fu (akV (fu (wpAny_holding (thn (hs pins s2 σ H2 x y v ov iv u _ I2 r1 r2 r q2) λ_ s3 ⟨H3,I3,q3⟩=>?_))))
 exact wpAny_release ⟨σ,H3,I3,q3⟩
def QM (te:TE)(g:TG):TS:=λD σ H=>te σ H λx H1=>g x σ H1 D.nx
theorem AD {tg e:Expr}{te:TE}{g:TG}(he:PE X e te)(hg:PG X tg g)(hs:swapsWithSole [tg] e pos.line X.env=pure false:=by rfl)(hw:swappedStores [tg] e X.env=pure none:=by rfl)
  (h1:(assignEach [tg] X.env).map (·.2)=[assign tg X.env]:=by rfl):PS X (.Assign [tg] e pos) (QM te g):=by
 intro pins s σ H D I h;refine wpAny_Assign_stores (thn (he pins s σ H _ I h) λv s1 ⟨x,H1,I1,r1,q1⟩=>?_) hs hw
 rw[h1];exact thn (hg pins s1 σ H1 x v _ I1 r1 q1) λ_ s2 q=>q
theorem a4 {i:Nat}{x:Str}{e:Expr}{te:TE}{pos':Pos}(hN:X.N.Nodup)(hi:X.N[i]?=some x)(hx:Loc X.env.scope x)(he:PE X e te)(hs:swapsWith e (some (.Name x pos')) pos.line X.env=pure false:=by rfl)(hf:X.fn x=true\/X.env.scope.names.lookup x=some .local:=by first | exact .inl rfl | exact .inr rfl | assumption) :
  PS X (.Assign [.Name x pos'] e pos) (QM te (dD i)):=by
 intro pins s σ H D I h;refine wpAny_Assign_Name (thn (he pins s σ H _ I h) λv s1 ⟨y,H1,I1,r1,q1⟩=>?_) hs
 exact vJ I1 hN hi hx r1 (λs2 I2=>⟨_,H1,I2,q1⟩) hf
end
structure It where
 go:Nat->Hp->Prop
 yld:Nat->Hp->V->Hp->Prop
 stop:Nat->Hp->Prop
def lh (X:Cx)(pins:List (Addr×Obj))(H:Hp)(b:Addr):Prop :=
 H b=none/\b≠X.env.locals/\b∉X.fs/\(b∈X.ex\/X.s₀.heap.objs.size<=b)/\(∀x c,X.env.cells.lookup x=some c->c≠b)/\∀p∈X.pn++pins,p.1≠b
theorem Inv.D4 {X:Cx}{pins:List (Addr×Obj)}{σ:St}{H H':Hp}{s:Shared}{b:Addr}(I:Inv X pins σ H s)(hb:s.heap.objs.size<=b)(hn:H' b=none):lh X pins H' b:=by
 refine⟨hn,Nat.ne_of_gt (akf I.lt hb),I.ahc hb,.inr (adm I.sz hb),λx c e z=>?_,λp hp z=>?_⟩
 ·obtain⟨v,q⟩:=I.cell x c e;exact absurd (akf q.lt (by rw[z];exact hb)) (Nat.lt_irrefl _)
 ·exact absurd (akf (tm (I.pin p hp).1) (by rw[z];exact hb)) (Nat.lt_irrefl _)
structure Turn (P:sr)(w:World)(K:bo)(tg:Expr)(J:It)(fp:List Addr)(it:Addr)(tn:Nat->Heap->Prop):Prop where
 mem:it∈fp
 obj:∀i h,tn i h->∀b∈fp,∃o,h.get? b=some o/\∀v,o.data≠.cell v
 keep:∀i h h',tn i h->(∀b∈fp,∀o,h.get? b=some o->h'.get? b=some o)->tn i h'
 item:∀(X:Cx),X.prog=P->X.w=w->X.K=K->X.calm=true->∀(i:Nat) (pins:List (Addr×Obj)) (s:Shared) (σ:St) (H:Hp) (E:Value->Shared->Prop),Inv X pins σ H s->(∀b∈fp,lh X pins H b)->tn i s.heap->J.go i H ->
  wpAny (model P w) X.A (pyNext (.ref it)) (λr s1=>∃u,r=some u /\
   wpAny (model P w) X.A (letOwnedTupleGo tg (.ref it) u) (λ_ s2=>∃x H',Inv X pins σ H' s2/\RelV x u/\J.yld i H x H'/\tn (i+1) s2.heap/\∀b∈fp,H' b=none) E s1) E s
 done:∀(X:Cx),X.prog=P->X.w=w->X.K=K->X.calm=true->∀(i:Nat) (pins:List (Addr×Obj)) (s:Shared) (σ:St) (H:Hp) (E:Value->Shared->Prop),Inv X pins σ H s->(∀b∈fp,lh X pins H b)->tn i s.heap->J.stop i H ->
  wpAny (model P w) X.A (pyNext (.ref it)) (λr s1=>r=none/\Inv X pins σ H s1) E s
 self:∀(A:Around) (i:Nat) (s:Shared) (Q:Value->Shared->Prop) (E:Value->Shared->Prop),tn i s.heap->Q (.ref it) s->wpAny (model P w) A (pyIter (.ref it)) Q E s
abbrev TI:=St->Hp->(It->Hp->Prop)->Prop
def PIE (X:Cx)(pins:List (Addr×Obj))(σ:St)(tg:Expr)(R:It->Hp->Prop)(itv:Value)(s2:Shared):Prop :=
 ∃(it:Addr) (fp:List Addr) (tn:Nat->Heap->Prop) (J:It) (H':Hp),itv=.ref it/\Inv X pins σ H' s2/\Turn X.prog X.w X.K tg J fp it tn/\tn 0 s2.heap/\(∀b∈fp,lh X pins H' b)/\R J H'
def PI (X:Cx)(tg iter:Expr)(wi:TI):Prop :=
 ∀(pins:List (Addr×Obj)) (s:Shared) (σ:St) (H:Hp) (R:It->Hp->Prop),Inv X pins σ H s->wi σ H R ->
  wpAny (model X.prog X.w) X.A (eval iter X.env) (λv s1=>wpAny (model X.prog X.w) X.A (pyIter v) (PIE X pins σ tg R) X.xe s1) X.xe s
theorem Ny {M:Model}{A:Around}{E:Value->Shared->Prop}{s:Shared}{tg:Expr}{it:Addr}{u:Value}{o:Obj}{n:String}{vs:Array Value}{Q:Unit->Shared->Prop}(ho:s.heap.get? it=some o)(hc:o.cls=.type n)(hd:o.data=.fields vs)
    (hn:["enumerate","zip","dict_itemiterator","dict_reverseitemiterator","odict_iterator","itertools.zip_longest","itertools.pairwise"].contains n=false) (hQ:Q () s):wpAny M A (letOwnedTupleGo tg (.ref it) u) Q E s:=by
  unfold letOwnedTupleGo
  cases tg <;> first
    |exact ajY hQ
    | (cases u <;> first
        |exact ajY hQ
        | (refine fu (wpAny_load ho ?_)
           rw[hc,hd]
           show wpAny M A (if (["enumerate","zip","dict_itemiterator","dict_reverseitemiterator","odict_iterator","itertools.zip_longest","itertools.pairwise"].contains n && vs[0]? == some (rawInt _))=true then _ else _) Q E s
           rw[if_neg (by intro h;rw[hn,Bool.false_and]at h;cases h)]
           exact ajY hQ))
def Itl (K:bo)(a:Addr):It :=
 ⟨λi H=>∃xs x,SqL K H a xs/\xs[i]?=some x,λi H x H'=>H'=H/\∀xs,SqL K H a xs->xs[i]?=some x,λi H=>∃xs,SqL K H a xs/\xs.length<=i⟩
def Itt (K:bo)(a:Addr):It :=
 ⟨λi H=>∃xs x,SqT K H a xs/\xs[i]?=some x,λi H x H'=>H'=H/\∀xs,SqT K H a xs->xs[i]?=some x,λi H=>∃xs,SqT K H a xs/\xs.length<=i⟩
def Itr (lo:Int)(n:Nat):It:=⟨λi _=>i < n,λi H x H'=>H'=H/\x=.int (lo+i),λi _=>n<=i⟩
theorem L9 {P:sr}{w:World}{K:bo}{tg:Expr}(a it:Addr):Turn P w K tg (Itl K a) [it] it (λi h=>h.IsListIter it a i) where
 mem:=by simp
 obj:=λi h st b hb=>by
  have e:b=it:=by simpa using hb
  subst e;obtain⟨o,e,c,d⟩:=st;exact⟨o,e,λv z=>by rw[d]at z;cases z⟩
 keep:=λi h h' st k=>st.at λo e=>k it (by simp) o e
 item:=by
  intro X hP hw hK hc i pins s σ H E I hf st hg;subst hP hw hK;obtain⟨xs,x,hq,hx⟩:=hg;obtain⟨its,rv,p,hz⟩:=I.list hq;obtain⟨u,hu,ru⟩:=rv.get hx;obtain⟨f0,f1,f2,f3,f4,f5⟩:=hf it (by simp)
  refine wpAny_pyNext_list_item st p.isList (x:=u) (by simpa using hu) λh' st' sb=>?_
  have I1:Inv X pins σ H { s with heap:=h' }:=I.turned (t':=s.toks) (λb o hb e=>(sb.2 b hb).trans e) f0 f1 f3 f4 f5
  obtain⟨o,e,c,d⟩:=id st';exact⟨u,rfl,Ny (s:={ s with heap:=h' }) e c d (by decide) ⟨x,H,I1,ru,⟨rfl,λys hy=>by rw[I.Nw hy hq];exact hx⟩,st',λb hb=>(hf b hb).1⟩⟩
 done:=by
  intro X hP hw hK hc i pins s σ H E I hf st hg;subst hP hw hK;obtain⟨xs,hq,hx⟩:=hg;obtain⟨its,rv,p,hz⟩:=I.list hq;obtain⟨f0,f1,f2,f3,f4,f5⟩:=hf it (by simp)
  have hl:=rv.length;exact wpAny_pyNext_list_end (I.ok.hd hc) st p.isList (by simp;omega) λh' eb=>⟨rfl,I.turned (t':=s.toks) (λb o hb e=>eb b o hb e) f0 f1 f3 f4 f5⟩
 self:=λ_ _ _ _ _ st h=>wpAny_pyIter_listiter st h
theorem IW {P:sr}{w:World}{K:bo}{tg:Expr}(a it:Addr):Turn P w K tg (Itt K a) [it] it (λi h=>h.IsTupleIter it a i) where
 mem:=by simp
 obj:=λi h st b hb=>by
  have e:b=it:=by simpa using hb
  subst e;obtain⟨o,e,c,d⟩:=st;exact⟨o,e,λv z=>by rw[d]at z;cases z⟩
 keep:=λi h h' st k=>st.at λo e=>k it (by simp) o e
 item:=by
  intro X hP hw hK hc i pins s σ H E I hf st hg;subst hP hw hK;obtain⟨xs,x,hq,hx⟩:=hg;obtain⟨its,rv,p,hz⟩:=I.tuple hq;obtain⟨u,hu,ru⟩:=rv.get hx;obtain⟨f0,f1,f2,f3,f4,f5⟩:=hf it (by simp)
  refine wpAny_pyNext_tuple_item st (show s.heap.IsTuple a its.toArray from p) (x:=u) (by simpa using hu) λh' st' sb=>?_
  have I1:Inv X pins σ H { s with heap:=h' }:=I.turned (t':=s.toks) (λb o hb e=>(sb.2 b hb).trans e) f0 f1 f3 f4 f5
  obtain⟨o,e,c,d⟩:=id st';exact⟨u,rfl,Ny (s:={ s with heap:=h' }) e c d (by decide) ⟨x,H,I1,ru,⟨rfl,λys hy=>by rw[I.L8 hy hq];exact hx⟩,st',λb hb=>(hf b hb).1⟩⟩
 done:=by
  intro X hP hw hK hc i pins s σ H E I hf st hg;subst hP hw hK;obtain⟨xs,hq,hx⟩:=hg;obtain⟨its,rv,p,hz⟩:=I.tuple hq;obtain⟨f0,f1,f2,f3,f4,f5⟩:=hf it (by simp)
  have hl:=rv.length;exact wpAny_pyNext_tuple_end (I.ok.hd hc) st (show s.heap.IsTuple a its.toArray from p) (by simp;omega) λh' eb=>⟨rfl,I.turned (t':=s.toks) (λb o hb e=>eb b o hb e) f0 f1 f3 f4 f5⟩
 self:=λ_ _ _ _ _ st h=>wpAny_pyIter_tupleiter st h
theorem IZ {P:sr}{w:World}{K:bo}{tg:Expr}(it:Addr)(lo:Int)(n:Nat):Turn P w K tg (Itr lo n) [it] it (λi h=>IsRangeIter h it (lo+(i:Nat) * 1) ((n:Int) - (i:Nat)) 1) where
 mem:=by simp
 obj:=λi h st b hb=>by
  have e:b=it:=by simpa using hb
  subst e;exact⟨_,st,λv z=>by
   have z':Data.fields _=Data.cell v:=z;cases z'⟩
 keep:=λi h h' st k=>k it (by simp) _ st
 item:=by
  intro X hP hw hK hc i pins s σ H E I hf st hg;subst hP hw hK;obtain⟨f0,f1,f2,f3,f4,f5⟩:=hf it (by simp)
  have W:=Walks.range (prog:=X.prog) (w:=X.w) (I.ok.hd hc) it lo 1 n;refine W.item i s _ _ hg st λv h' tk hv st' kk=>?_
  obtain⟨t,rfl⟩:=hv;have I1:Inv X pins σ H { s with heap:=h',toks:=tk }:=I.turned (λb o hb e=>kk b o (by simpa using hb) e) f0 f1 f3 f4 f5
  refine⟨_,rfl,Ny (s:={ s with heap:=h',toks:=tk }) (n:="range_iterator") st' rfl rfl (by decide) ⟨.int (lo+i),H,I1,⟨t,?_⟩,⟨rfl,rfl⟩,st',λb hb=>(hf b hb).1⟩⟩
  rw[Int.mul_one]
 done:=by
  intro X hP hw hK hc i pins s σ H E I hf st hg;subst hP hw hK;obtain⟨f0,f1,f2,f3,f4,f5⟩:=hf it (by simp)
  exact wpAny_pyNext_range_end (I.ok.hd hc) st (by have:n<=i:=hg;omega) λh' eb=>⟨rfl,I.turned (t':=s.toks) (λb o hb e=>eb b o hb e) f0 f1 f3 f4 f5⟩
 self:=λ_ _ _ _ _ st h=>wpAny_pyIter_rangeiter st h
section
variable{X:Cx}{tg:Expr}
def Zz (K:bo)(tl:TE):TI:=λσ H R=>tl σ H λx H1=>∃a,x=.ref a/\(∃xs,SqL K H1 a xs)/\R (Itl K a) H1
def aho (K:bo)(tl:TE):TI:=λσ H R=>tl σ H λx H1=>∃a,x=.ref a/\(∃xs,SqT K H1 a xs)/\R (Itt K a) H1
theorem qz {l:Expr}{tl:TE}(hl:PE X l tl):PI X tg l (Zz X.K tl):=by
 intro pins s σ H R I h;refine thn (hl pins s σ H _ I h) λv s1 ⟨x,H1,I1,r1,q1⟩=>?_
 obtain⟨a,e,⟨xs,hq⟩,q⟩:=q1;subst e;cases r1;obtain⟨its,rv,p,hz⟩:=I1.list hq;refine wpAny_pyIter_list p.isList ?_;refine⟨s1.heap.objs.size,[s1.heap.objs.size],_,_,H1,rfl,I1.kept (t':=s1.toks) λb o e=>kg _ e,L9 a _,⟨_,akg _ rfl,rfl,rfl⟩,λb hb=>?_,q⟩
 have e:b=s1.heap.objs.size:=by simpa using hb
 subst e;exact I1.D4 (kq _) (I1.hok.fresh (kq _))
theorem US {l:Expr}{tl:TE}(hl:PE X l tl):PI X tg l (aho X.K tl):=by
 intro pins s σ H R I h;refine thn (hl pins s σ H _ I h) λv s1 ⟨x,H1,I1,r1,q1⟩=>?_
 obtain⟨a,e,⟨xs,hq⟩,q⟩:=q1;subst e;cases r1;obtain⟨its,rv,p,hz⟩:=I1.tuple hq;refine wpAny_pyIter_tuple (show s1.heap.IsTuple a its.toArray from p) ?_
 refine⟨s1.heap.objs.size,[s1.heap.objs.size],_,_,H1,rfl,I1.kept (t':=s1.toks) λb o e=>kg _ e,IW a _,⟨_,akg _ rfl,rfl,rfl⟩,λb hb=>?_,q⟩
 have e:b=s1.heap.objs.size:=by simpa using hb
 subst e;exact I1.D4 (kq _) (I1.hok.fresh (kq _))
theorem Nz {pins:List (Addr×Obj)}{σ:St}{H:Hp}{s:Shared}{R:It->Hp->Prop}{E:Value->Shared->Prop}{lo hi:Int}{t u v:Tok}{tk:Nat}(I:Inv X pins σ H s)(h1:-(2 ^ 62)<=lo)(h2:lo < 2 ^ 62)(h3:-(2 ^ 62)<=hi)(h4:hi < 2 ^ 62)
  (q:R (Itr lo (hi - lo).toNat) H):wpAny (model X.prog X.w) X.A (pyIter (.ref s.heap.objs.size)) (PIE X pins σ tg R) E { s with heap:=s.heap.push { cls:=.type "range",data:=.fields #[.int lo t,.int hi u,.int 1 v] },toks:=tk }:=by
 refine wpAny_pyIter_range (IsRange.new ..) (small_one h1 h2 h3 h4) ?_;have I1:Inv X pins σ H { s with heap:=s.heap.push { cls:=.type "range",data:=.fields #[.int lo t,.int hi u,.int 1 v] },toks:=tk }:=I.kept λb o e=>kg _ e
 refine⟨(s.heap.push { cls:=.type "range",data:=.fields #[.int lo t,.int hi u,.int 1 v] }).objs.size,[(s.heap.push { cls:=.type "range",data:=.fields #[.int lo t,.int hi u,.int 1 v] }).objs.size],_,_,H,rfl,
  I1.kept (t':=tk) λb o e=>kg _ e,IZ _ lo (hi - lo).toNat,?_,λb hb=>?_,q⟩
 ·have e1:lo+((0:Nat):Int) * 1=lo:=by simp
  have e2:(((hi - lo).toNat:Nat):Int) - ((0:Nat):Int)=Builtin.Range.rangeSize lo hi 1:=by rw[rangeSize_one];split <;> omega
  show IsRangeIter _ _ (lo+((0:Nat):Int) * 1) ((((hi - lo).toNat:Nat):Int) - ((0:Nat):Int)) 1;rw[e1,e2];exact akg _ rfl
 ·have e:b=(s.heap.push { cls:=.type "range",data:=.fields #[.int lo t,.int hi u,.int 1 v] }).objs.size:=by simpa using hb
  subst e;exact I1.D4 (kq _) (I1.hok.fresh (kq _))
def ZA (ta:TA):TI:=λσ H R=>ta σ H λvs H1=>∃j:Int,vs=[.int j]/\-(2 ^ 62)<=j/\j < 2 ^ 62/\R (Itr 0 j.toNat) H1
theorem xB {a:Expr}{ta:TA}{p pos:Pos}(hg:Gl X "range")(hm:X.mg "range"=none)(ha:PA X [a] ta)(hs:aj0 [a] X.env=[(false,eval a X.env)]:=by rfl):PI X tg (.Call (.Name "range" p) [a] [] pos) (ZA ta):=by
 intro pins s σ H R I h;refine Call_ (IT I hg hm boot_range (PyProof.Rows.callWith_type1 (thn (ha pos pins s σ H _ I h) λus s1 ⟨vs,H1,I1,r1,q1⟩=>?_) hs rfl))
 obtain⟨j,e,q1,q2,q⟩:=q1;subst e;cases r1 with
 |cons r rr =>
  cases rr;obtain⟨t,rfl⟩:=r;exact call_range_1 (Nz I1 (by omega) (by omega) q1 q2 (by simpa using q))
def ahp (wi:TI)(g:TG)(tb:TS):TS:=λD σ H=>wi σ H λJ H1=>∃W:Nat->Nat->St->Hp->Prop,(∃m,W 0 m σ H1)/\∀i m σ H,W i m σ H ->
 (J.stop i H/\D.nx σ H)\/(J.go i H/\∃N:St->Hp->Prop,(∀σ' H',N σ' H'->∃m',m' < m/\W (i+1) m' σ' H')/\∀x H',J.yld i H x H'->g x σ H' λσ2 H2=>tb { D with nx:=N,ct:=N,bk:=D.nx } σ2 H2)
def D5 (fp:List Addr)(h:Heap):List (Addr×Obj):=fp.filterMap λb=>(h.get? b).map λo=>(b,o)
theorem qA {fp:List Addr}{h:Heap}{b:Addr}{o:Obj}(hb:b∈fp)(e:h.get? b=some o):(b,o)∈D5 fp h:=List.mem_filterMap.mpr ⟨b,hb,by rw[e];rfl⟩
theorem Ma {fp:List Addr}{h:Heap}{p:Addr×Obj}(hp:p∈D5 fp h):p.1∈fp/\h.get? p.1=some p.2:=by
 obtain⟨b,hb,e⟩:=List.mem_filterMap.mp hp;cases q:h.get? b with
 |none=>rw[q]at e;cases e
 |some o =>
  rw[q]at e;have e':(b,o)=p:=ajZ e;subst e';exact⟨hb,q⟩
theorem Inv.pinned {pins:List (Addr×Obj)}{σ:St}{H:Hp}{s:Shared}{fp:List Addr}(I:Inv X pins σ H s)(hf:∀b∈fp,lh X pins H b)(ho:∀b∈fp,∃o,s.heap.get? b=some o/\∀v,o.data≠.cell v):Inv X (pins++D5 fp s.heap) σ H s :=
 I.D1 λp hp=>(List.mem_append.mp hp).elim (λz=>I.pin p (Lk _ z)) λz=>by
  obtain⟨hb,e⟩:=Ma z;obtain⟨f0,f1,f2,_⟩:=hf p.1 hb;obtain⟨o,e',d⟩:=ho p.1 hb;rw[e]at e';cases e';exact⟨e,f0,f1,f2,d⟩
theorem Inv.mq {pins pl:List (Addr×Obj)}{σ:St}{H:Hp}{s:Shared}(I:Inv X (pins++pl) σ H s):Inv X pins σ H s:=I.D1 λp hp=>I.pin p (Lk _ (akA _ hp))
theorem xC {iter:Expr}{body:List Stmt}{wi:TI}{g:TG}{tb:TS}{pos:Pos}(hp:PassesOwn (model X.prog X.w) X.A X.env X.xe)(hc:X.calm=true)(hi:PI X tg iter wi)(hg:PG X tg g)(hb:PSs X body tb)
  (hs:∀x,foldedSetIterable iter X.env x=pure x:=by intro _;rfl):PS X (.For tg iter body [] pos) (ahp wi g tb):=by
 intro pins s σ H D I h;refine wpAny_For (thn (hi pins s σ H _ I h) λv s1 h1=>thn h1 λitv s2 h2=>?_) hs
 obtain⟨it,fp,tn,J,H2,e,I2,T,st2,f2,W,⟨m0,w0⟩,turn⟩:=h2;subst e;have stat:∀ {H':Hp},(∀b∈fp,H' b=none)->∀b∈fp,lh X pins H' b:=λhn b hb=>⟨hn b hb,(f2 b hb).2⟩
 refine codeAny_forLoop_any (λn s'=>∃i σ' H',Inv X pins σ' H' s'/\tn i s'.heap/\(∀b∈fp,H' b=none)/\W i n σ' H') ?_ m0 ⟨0,σ,H2,I2,st2,λb hb=>(f2 b hb).1,w0⟩
 rintro n s3 ⟨i,σ3,H3,I3,st3,fr3,w3⟩;rcases turn i n σ3 H3 w3 with ⟨stop,qn⟩ | ⟨go,N,hN,step⟩
 ·refine wpAny_passesOwn hp (thn (T.done X rfl rfl rfl hc i pins s3 σ3 H3 X.xe I3 (stat fr3) st3 stop) λr s4 ⟨hr,I4⟩=>?_)
  subst hr;exact wpAny_execs_nil ⟨σ3,H3,I4,qn⟩
 ·refine wpAny_passesOwn hp (thn (T.item X rfl rfl rfl hc i pins s3 σ3 H3 X.xe I3 (stat fr3) st3 go) λr s4 ⟨u,hr,h4⟩=>?_)
  subst hr;refine wpAny_passesOwn hp (thn h4 λ_ s5 ⟨x,H5,I5,r5,y5,st5,fr5⟩=>?_)
  have I5':=I5.pinned (stat fr5) (T.obj _ _ st5);refine wpAny_passesOwn hp (thn (hg _ s5 σ3 H5 x u _ I5' r5 (step x H5 y5)) λ_ s6 ⟨σ6,H6,I6,q6⟩=>?_)
  refine wpAny_passesOwn hp (thn (hb _ s6 σ6 H6 _ I6 q6) λf s7 q7=>?_)
  have again:∀ {σ7:St} {H7:Hp},Inv X (pins++D5 fp s5.heap) σ7 H7 s7->N σ7 H7->∃m,m < n/\∃i σ' H',Inv X pins σ' H' s7/\tn i s7.heap/\(∀b∈fp,H' b=none)/\W i m σ' H':=λ{σ7 H7} I7 n7=>by
   obtain⟨m',hm,w7⟩:=hN σ7 H7 n7;refine⟨m',hm,i+1,σ7,H7,I7.mq,T.keep _ _ _ st5 λb hb o e=>(I7.pin (b,o) (Lk _ (Lk _ (qA hb e)))).1,λb hb=>?_,w7⟩
   obtain⟨o,e,d⟩:=T.obj _ _ st5 b hb;exact(I7.pin (b,o) (Lk _ (Lk _ (qA hb e)))).2.1
  cases f with
  |next=>obtain⟨σ7,H7,I7,n7⟩:=q7;exact again I7 n7
  |cont=>obtain⟨σ7,H7,I7,n7⟩:=q7;exact again I7 n7
  |brk=>obtain⟨σ7,H7,I7,q7⟩:=q7;exact⟨σ7,H7,I7.mq,q7⟩
  |ret v=>obtain⟨x7,σ7,H7,I7,r7,q7⟩:=q7;exact⟨x7,σ7,H7,I7.mq,r7,q7⟩
end
theorem vM {K:bo}{a:Addr}{xs:List V}{g:TG}{tb:TS}{D:Ends}{σ:St}{H:Hp}(Pv:Nat->St->Hp->Prop)(h0:Pv 0 σ H)(hl:∀i σ H,i<=xs.length->Pv i σ H->SqL K H a xs)
  (hs:∀i x σ H,xs[i]?=some x->Pv i σ H->g x σ H λσ2 H2=>tb { D with nx:=Pv (i+1),ct:=Pv (i+1),bk:=D.nx } σ2 H2) (hd:∀σ H,Pv xs.length σ H->D.nx σ H) :
  ∃W:Nat->Nat->St->Hp->Prop,(∃m,W 0 m σ H)/\∀i m σ H,W i m σ H ->
   ((Itl K a).stop i H/\D.nx σ H)\/((Itl K a).go i H/\∃N:St->Hp->Prop,(∀σ' H',N σ' H'->∃m',m' < m/\W (i+1) m' σ' H')/\∀x H',(Itl K a).yld i H x H'->g x σ H' λσ2 H2=>tb { D with nx:=N,ct:=N,bk:=D.nx } σ2 H2):=by
 refine⟨λi m σ H=>m=xs.length - i/\i<=xs.length/\Pv i σ H,⟨xs.length,by simp,akX _,h0⟩,?_⟩
 rintro i m σ H ⟨rfl,hi,p⟩;have q:=hl i σ H hi p
 by_cases hlt:i < xs.length
 ·refine .inr ⟨⟨xs,xs[i],q,by simp[hlt]⟩,Pv (i+1),λσ' H' p'=>⟨xs.length - (i+1),by omega,rfl,hlt,p'⟩,λx H' y=>?_⟩
  obtain⟨e,y⟩:=y;subst e;exact hs i x σ _ (y xs q) p
 ·have e:i=xs.length:=by omega
  subst e;exact .inl ⟨⟨xs,q,kq _⟩,hd σ H p⟩
theorem CU {lo:Int}{n:Nat}{g:TG}{tb:TS}{D:Ends}{σ:St}{H:Hp}(Pv:Nat->St->Hp->Prop)(h0:Pv 0 σ H)
  (hs:∀i σ H,i < n->Pv i σ H->g (.int (lo+i)) σ H λσ2 H2=>tb { D with nx:=Pv (i+1),ct:=Pv (i+1),bk:=D.nx } σ2 H2) (hd:∀σ H,Pv n σ H->D.nx σ H) :
  ∃W:Nat->Nat->St->Hp->Prop,(∃m,W 0 m σ H)/\∀i m σ H,W i m σ H ->
   ((Itr lo n).stop i H/\D.nx σ H)\/((Itr lo n).go i H/\∃N:St->Hp->Prop,(∀σ' H',N σ' H'->∃m',m' < m/\W (i+1) m' σ' H')/\∀x H',(Itr lo n).yld i H x H'->g x σ H' λσ2 H2=>tb { D with nx:=N,ct:=N,bk:=D.nx } σ2 H2):=by
 refine⟨λi m σ H=>m=n - i/\i<=n/\Pv i σ H,⟨n,by simp,akX _,h0⟩,?_⟩
 rintro i m σ H ⟨rfl,hi,p⟩
 by_cases hlt:i < n
 ·refine .inr ⟨hlt,Pv (i+1),λσ' H' p'=>⟨n - (i+1),by omega,rfl,hlt,p'⟩,λx H' y=>?_⟩
  obtain⟨e,y⟩:=y;subst e y;exact hs i σ _ hlt p
 ·have e:i=n:=by omega
  subst e;exact .inl ⟨kq _,hd σ H p⟩
abbrev R2:=V->V->Hp->VK->Prop
def OpR (X:Cx)(f:Value->Value->Sem Value)(r:R2):Prop :=
 ∀(pins:List (Addr×Obj)) (s:Shared) (σ:St) (H:Hp) (x y:V) (v u:Value) (Q:VK),Inv X pins σ H s->RelV x v->RelV y u->r x y H Q ->
  wpAny (model X.prog X.w) X.A (f v u) (EP X pins σ Q) X.xe s
def UnR (X:Cx)(f:Value->Sem Value)(r:V->Hp->VK->Prop):Prop :=
 ∀(pins:List (Addr×Obj)) (s:Shared) (σ:St) (H:Hp) (x:V) (v:Value) (Q:VK),Inv X pins σ H s->RelV x v->r x H Q ->
  wpAny (model X.prog X.w) X.A (f v) (EP X pins σ Q) X.xe s
def lF (X:Cx)(f:Value)(r:List V->Hp->VK->Prop):Prop :=
 ∀(pins:List (Addr×Obj)) (s:Shared) (σ:St) (H:Hp) (xs:List V) (us:List Value) (Q:VK),Inv X pins σ H s->Vals xs us->r xs H Q ->
  wpAny (model X.prog X.w) X.A (call f us) (EP X pins σ Q) X.xe s
def ahq (X:Cx)(r:V->Hp->(Bool->Hp->Prop)->Prop):Prop :=
 ∀(pins:List (Addr×Obj)) (s:Shared) (σ:St) (H:Hp) (x:V) (v:Value) (Q:Bool->Hp->Prop),Inv X pins σ H s->RelV x v->r x H Q ->
  wpAny (model X.prog X.w) X.A (truthy v) (TP X pins σ Q) X.xe s
def tOp (r:R2)(ta tb:TE):TE:=λσ H Q=>ta σ H λx H1=>tb σ H1 λy H2=>r x y H2 Q
def tUn (r:V->Hp->VK->Prop)(ta:TE):TE:=λσ H Q=>ta σ H λx H1=>r x H1 Q
def rI (C:Int->Int->Prop)(g:Int->Int->V):R2:=λx y H Q=>∃i j,x=.int i/\y=.int j/\C i j/\Q (g i j) H
def rI0 (g:Int->Int->V):R2:=λx y H Q=>∃i j,x=.int i/\y=.int j/\Q (g i j) H
def rU (g:Int->V):V->Hp->VK->Prop:=λx H Q=>∃i,x=.int i/\Q (g i) H
section
variable{X:Cx}{a b c:Expr}{ta tb tc:TE}{pos:Pos}
theorem UT (ha:PE X a ta)(hb:PE X b tb){pins:List (Addr×Obj)}{s:Shared}{σ:St}{H:Hp}{R:V->V->Hp->Prop}(I:Inv X pins σ H s)
  (h:ta σ H λx H1=>tb σ H1 λy H2=>R x y H2) {Q:Value->Shared->Prop} {f:Value->Value->Sem Value}
  (hf:∀v u s2 x y H2,Inv X pins σ H2 s2->RelV x v->RelV y u->R x y H2->wpAny (model X.prog X.w) X.A (f v u) Q X.xe s2) :
  wpAny (model X.prog X.w) X.A (eval a X.env) (λv s₁=>wpAny (model X.prog X.w) X.A (eval b X.env) (λu s₂=>wpAny (model X.prog X.w) X.A (f v u) Q X.xe s₂) X.xe s₁) X.xe s:=by
 refine thn (ha pins s σ H _ I h) λv s1 ⟨x,H1,I1,r1,q1⟩=>?_
 refine thn (hb pins s1 σ H1 _ I1 q1) λu s2 ⟨y,H2,I2,r2,q2⟩=>?_
 exact hf v u s2 x y H2 I2 r1 r2 q2
theorem bc {op:Operator}{r:R2}(ho:OpR X (binaryOp op) r)(ha:PE X a ta)(hb:PE X b tb):PE X (.BinOp a op b pos) (tOp r ta tb):=by
 intro pins s σ H Q I h;exact wpAny_BinOp (UT ha hb I h λv u s2 x y H2 I2 rx ry q=>ho pins s2 σ H2 x y v u Q I2 rx ry q)
theorem mr {op:UnaryOp}{r:V->Hp->VK->Prop}(ho:UnR X (unaryOp op) r)(ha:PE X a ta):PE X (.UnaryOp op a pos) (tUn r ta):=by
 intro pins s σ H Q I h;exact UnaryOp_ (thn (ha pins s σ H _ I h) λv s1 ⟨x,H1,I1,r1,q1⟩=>ho pins s1 σ H1 x v Q I1 r1 q1)
theorem opI {f:Value->Value->Sem Value}{C:Int->Int->Prop}{g:Int->Int->Int}
  (rule:∀(i j:Int) (t u:Tok) (s:Shared) (Q:Value->Shared->Prop) (E:Value->Shared->Prop),C i j->Q (.int (g i j) s.toks) { s with toks:=s.toks+1 }->wpAny (model X.prog X.w) X.A (f (.int i t) (.int j u)) Q E s) :
  OpR X f (rI C λi j=>.int (g i j)):=by
 intro pins s σ H x y v u Q I rx ry h;obtain⟨i,j,rfl,rfl,hc,q⟩:=h;obtain⟨t,rfl⟩:=rx;obtain⟨t',rfl⟩:=ry;exact rule i j t t' s _ _ hc ⟨.int (g i j),H,I.tok _,⟨_,rfl⟩,q⟩
theorem ZC {f:Value->Value->Sem Value}{g:Int->Int->Int}
  (rule:∀(i j:Int) (t u:Tok) (s:Shared) (Q:Value->Shared->Prop) (E:Value->Shared->Prop),Q (.int (g i j) s.toks) { s with toks:=s.toks+1 }->wpAny (model X.prog X.w) X.A (f (.int i t) (.int j u)) Q E s) :
  OpR X f (rI0 λi j=>.int (g i j)):=by
 intro pins s σ H x y v u Q I rx ry h;obtain⟨i,j,rfl,rfl,q⟩:=h;obtain⟨t,rfl⟩:=rx;obtain⟨t',rfl⟩:=ry;exact rule i j t t' s _ _ ⟨.int (g i j),H,I.tok _,⟨_,rfl⟩,q⟩
theorem QN {f:Value->Value->Sem Value}{g:Int->Int->Bool}
  (rule:∀(i j:Int) (t u:Tok) (s:Shared) (Q:Value->Shared->Prop) (E:Value->Shared->Prop),Q (.bool (g i j)) s->wpAny (model X.prog X.w) X.A (f (.int i t) (.int j u)) Q E s) :
  OpR X f (rI0 λi j=>.bl (g i j)):=by
 intro pins s σ H x y v u Q I rx ry h;obtain⟨i,j,rfl,rfl,q⟩:=h;obtain⟨t,rfl⟩:=rx;obtain⟨t',rfl⟩:=ry;exact rule i j t t' s _ _ ⟨.bl (g i j),H,I,rfl,q⟩
def ahr (i j:Int):Prop:=0 < j/\j < 1073741824
def ahs (i j:Int):Prop:=0<=j/\j<=1000000/\i.natAbs < 2 ^ 64
def UU (i j:Int):Prop:=(-(2 ^ 64) < i/\i < 2 ^ 64)\/(-(2 ^ 64) < j/\j < 2 ^ 64)
theorem UU.ok {i j:Int}(h:UU i j):IntMulOk i j:=by
 rcases h with ⟨h1,h2⟩ | ⟨h1,h2⟩
 ·exact .of_left (intBits_le_64 h1 h2)
 ·exact .of_right (intBits_le_64 h1 h2)
theorem eh:OpR X (binaryOp .Add) (rI0 λi j=>.int (i+j)):=ZC λ_ _ _ _ _ _ _ q=>add_int q
theorem oo:OpR X (binaryOp .Sub) (rI0 λi j=>.int (i - j)):=ZC λ_ _ _ _ _ _ _ q=>sub_int q
theorem xD:OpR X (binaryOp .Mult) (rI UU λi j=>.int (i * j)):=opI λ_ _ _ _ _ _ _ hc q=>mul_int q hc.ok
theorem dR:OpR X (binaryOp .FloorDiv) (rI ahr λi j=>.int (i / j)):=opI λi j _ _ _ _ _ hc q=>by
 have h1:(0:Int) < j:=hc.1;have h2:j < 1073741824:=hc.2;exact floordiv_int (by omega) (by rw[Int.fdiv_eq_ediv_of_nonneg i (by omega)];exact q) (.inl (PyProof.noPylong_small (by omega)))
theorem cJ:OpR X (binaryOp .Mod) (rI (λ_ j=>0 < j) λi j=>.int (i % j)):=opI λi j _ _ _ _ _ hc q=>by
 have h1:(0:Int) < j:=hc;exact mod_int' (by omega) (by rw[Int.fmod_eq_emod_of_nonneg i (by omega)];exact q)
theorem UW:OpR X (binaryOp .Pow) (rI ahs λi j=>.int (i ^ j.toNat)):=opI λ_ _ _ _ _ _ _ hc q=>pow_int_small hc.1 hc.2.1 hc.2.2 q
theorem unI {f:Value->Sem Value}{g:Int->Int}
  (rule:∀(i:Int) (t:Tok) (s:Shared) (Q:Value->Shared->Prop) (E:Value->Shared->Prop),Q (.int (g i) s.toks) { s with toks:=s.toks+1 }->wpAny (model X.prog X.w) X.A (f (.int i t)) Q E s) :
  UnR X f (rU λi=>.int (g i)):=by
 intro pins s σ H x v Q I rx h;obtain⟨i,rfl,q⟩:=h;obtain⟨t,rfl⟩:=rx;exact rule i t s _ _ ⟨.int (g i),H,I.tok _,⟨_,rfl⟩,q⟩
theorem iy:UnR X (unaryOp .USub) (rU λi=>.int (-i)):=unI λ_ _ _ _ _ q=>neg_int q
end
def ZD:V->V->Bool
 | .non,.non=>true | .non,.int _=>true | .int _,.non=>true | .non,.bl _=>true | .bl _,.non=>true | .non,.str _=>true | .str _,.non=>true
 | .int _,.int _=>true | .bl _,.bl _=>true | .str _,.str _=>true | .byt _,.byt _=>true
 | .int _,.str _=>true | .str _,.int _=>true | .bl _,.str _=>true | .str _,.bl _=>true
 |_,_=>false
def rEq:R2:=λx y H Q=>ZD x y=true/\Q (.bl (decide (x=y))) H
def rNe:R2:=λx y H Q=>ZD x y=true/\Q (.bl (!decide (x=y))) H
theorem Lh {i j:Int}:decide (V.int i=V.int j)=(i == j):=by
 rw[Bool.eq_iff_iff];simp
theorem NA {i j:Bool}:decide (V.bl i=V.bl j)=(i == j):=by
 rw[Bool.eq_iff_iff];simp
theorem Li {i j:Str}:decide (V.str i=V.str j)=(i == j):=by
 rw[Bool.eq_iff_iff];simp
theorem Lj {i j:Array UInt8}:decide (V.byt i=V.byt j)=(i.toList == j.toList):=by
 rw[Bool.eq_iff_iff];cases i;cases j;simp
section
variable{X:Cx}{a b c:Expr}{ta tb tc:TE}{pos:Pos}
theorem cx {pins:List (Addr×Obj)}{σ:St}{H:Hp}{s:Shared}{Q:VK}{k k':Bool}(I:Inv X pins σ H s)(q:Q (.bl k) H)(e:k=k'):EP X pins σ Q (.bool k') s:=by
 subst e;exact⟨.bl k,H,I,rfl,q⟩
theorem bt:OpR X (akW .Eq) rEq:=by
 intro pins s σ H x y v u Q I rx ry h;obtain⟨hs,q⟩:=h;cases x with
 |non =>
  cases rx;cases y with
  |non=>cases ry;exact PySem.EqNone.eq_none_none (cx I q (by simp))
  |bl j=>cases ry;exact PySem.EqNone.eq_none_bool (cx I q (by simp))
  |int j=>obtain⟨t',rfl⟩:=ry;exact PySem.EqNone.eq_none_int (cx I q (by simp))
  |str j=>obtain⟨t',rfl⟩:=ry;exact PySem.EqNone.eq_none_str (cx I q (by simp))
  |_=>exact absurd (show false=true from hs) ma
 |bl i =>
  cases rx;cases y with
  |non=>cases ry;exact PySem.EqNone.eq_bool_none (cx I q (by simp))
  |bl j=>cases ry;exact eq_bool (cx I q NA)
  |str j=>obtain⟨t',rfl⟩:=ry;exact PySem.EqMixed.eq_bool_str (cx I q (by simp))
  |_=>exact absurd (show false=true from hs) ma
 |int i =>
  obtain⟨t,rfl⟩:=rx;cases y with
  |non=>cases ry;exact PySem.EqNone.eq_int_none (cx I q (by simp))
  |int j=>obtain⟨t',rfl⟩:=ry;exact eq_int (cx I q Lh)
  |str j=>obtain⟨t',rfl⟩:=ry;exact PySem.EqMixed.eq_int_str (cx I q (by simp))
  |_=>exact absurd (show false=true from hs) ma
 |str i =>
  obtain⟨t,rfl⟩:=rx;cases y with
  |non=>cases ry;exact PySem.EqNone.eq_str_none (cx I q (by simp))
  |bl j=>cases ry;exact PySem.EqMixed.eq_str_bool (cx I q (by simp))
  |int j=>obtain⟨t',rfl⟩:=ry;exact PySem.EqMixed.eq_str_int (cx I q (by simp))
  |str j=>obtain⟨t',rfl⟩:=ry;exact eq_str (cx I q Li)
  |_=>exact absurd (show false=true from hs) ma
 |byt i =>
  obtain⟨t,rfl⟩:=rx;cases y with
  |byt j=>obtain⟨t',rfl⟩:=ry;exact PySem.W.eq_bytes (cx I q Lj)
  |_=>exact absurd (show false=true from hs) ma
 |_=>cases y <;> exact absurd (show false=true from hs) ma
theorem yO:OpR X (akW .NotEq) rNe:=by
 intro pins s σ H x y v u Q I rx ry h;obtain⟨hs,q⟩:=h;cases x with
 |non =>
  cases rx;cases y with
  |non=>cases ry;exact PySem.EqNone.ne_none_none (cx I q (by simp))
  |bl j=>cases ry;exact PySem.EqNone.ne_none_bool (cx I q (by simp))
  |int j=>obtain⟨t',rfl⟩:=ry;exact PySem.EqNone.ne_none_int (cx I q (by simp))
  |str j=>obtain⟨t',rfl⟩:=ry;exact PySem.EqNone.ne_none_str (cx I q (by simp))
  |_=>exact absurd (show false=true from hs) ma
 |bl i =>
  cases rx;cases y with
  |non=>cases ry;exact PySem.EqNone.ne_bool_none (cx I q (by simp))
  |bl j=>cases ry;exact ne_bool (cx I q (congrArg not NA))
  |str j=>obtain⟨t',rfl⟩:=ry;exact PySem.EqMixed.ne_bool_str (cx I q (by simp))
  |_=>exact absurd (show false=true from hs) ma
 |int i =>
  obtain⟨t,rfl⟩:=rx;cases y with
  |non=>cases ry;exact PySem.EqNone.ne_int_none (cx I q (by simp))
  |int j=>obtain⟨t',rfl⟩:=ry;exact ne_int (cx I q (congrArg not Lh))
  |str j=>obtain⟨t',rfl⟩:=ry;exact PySem.EqMixed.ne_int_str (cx I q (by simp))
  |_=>exact absurd (show false=true from hs) ma
 |str i =>
  obtain⟨t,rfl⟩:=rx;cases y with
  |non=>cases ry;exact PySem.EqNone.ne_str_none (cx I q (by simp))
  |bl j=>cases ry;exact PySem.EqMixed.ne_str_bool (cx I q (by simp))
  |int j=>obtain⟨t',rfl⟩:=ry;exact PySem.EqMixed.ne_str_int (cx I q (by simp))
  |str j=>obtain⟨t',rfl⟩:=ry;exact ne_str (cx I q (congrArg not Li))
  |_=>exact absurd (show false=true from hs) ma
 |byt i =>
  obtain⟨t,rfl⟩:=rx;cases y with
  |byt j=>obtain⟨t',rfl⟩:=ry;exact PySem.W.ne_bytes (cx I q (congrArg not Lj))
  |_=>exact absurd (show false=true from hs) ma
 |_=>cases y <;> exact absurd (show false=true from hs) ma
theorem sy:OpR X (akW .Lt) (rI0 λi j=>.bl (decide (i < j))):=QN λ_ _ _ _ _ _ _ q=>lt_int q
theorem vN:OpR X (akW .LtE) (rI0 λi j=>.bl (decide (i<=j))):=QN λ_ _ _ _ _ _ _ q=>le_int q
theorem Fv:OpR X (akW .Gt) (rI0 λi j=>.bl (decide (j < i))):=QN λ_ _ _ _ _ _ _ q=>gt_int q
theorem S9:OpR X (akW .GtE) (rI0 λi j=>.bl (decide (j<=i))):=QN λ_ _ _ _ _ _ _ q=>ge_int q
theorem NB:OpR X (akW .Is) (λx y H Q=>y=.non/\Q (.bl (decide (x=.non))) H):=by
 intro pins s σ H x y v u Q I rx ry h;obtain⟨rfl,q⟩:=h;cases ry;refine is_none_gen (cx I q ?_);cases x <;> first
  | (cases rx;rfl)
  | (obtain⟨t,rfl⟩:=rx;rfl)
theorem Ll:OpR X (akW .IsNot) (λx y H Q=>y=.non/\Q (.bl (!decide (x=.non))) H):=by
 intro pins s σ H x y v u Q I rx ry h;obtain⟨rfl,q⟩:=h;cases ry;refine isnot_none_gen (cx I q ?_);cases x <;> first
  | (cases rx;rfl)
  | (obtain⟨t,rfl⟩:=rx;rfl)
theorem OpR.or {f:Value->Value->Sem Value}{r r':R2}(h:OpR X f r)(h':OpR X f r'):OpR X f (λx y H Q=>r x y H Q\/r' x y H Q):=by
 intro pins s σ H x y v u Q I rx ry q;rcases q with q | q
 ·exact h pins s σ H x y v u Q I rx ry q
 ·exact h' pins s σ H x y v u Q I rx ry q
theorem aJ (b:Expr){op:CmpOp}(h:op≠.In:=by decide)(h2:op≠.NotIn:=by decide):behindInMarks op b=false:=by
 have e1:(op == CmpOp.In)=false:=by cases op <;> first | rfl | exact absurd rfl h
 have e2:(op == CmpOp.NotIn)=false:=by cases op <;> first | rfl | exact absurd rfl h2
 cases b <;> simp[behindInMarks,e1,e2]
theorem nP {op:CmpOp}{r:R2}(ho:OpR X (akW op) r)(ha:PE X a ta)(hb:PE X b tb)(hm:behindInMarks op b=false):PE X (.Compare a [op] [b] pos) (tOp r ta tb):=by
 intro pins s σ H Q I h;exact wpAny_Compare1 (UT ha hb I h λv u s2 x y H2 I2 rx ry q=>ho pins s2 σ H2 x y v u Q I2 rx ry q) hm
def ZE (t:TE):TT:=λσ H Q=>t σ H λx H'=>∃k,x=.bl k/\Q k H'
theorem az {op:CmpOp}{r:R2}(ho:OpR X (akW op) r)(ha:PE X a ta)(hb:PE X b tb)(hm:behindInMarks op b=false):PT X (.Compare a [op] [b] pos) (ZE (tOp r ta tb)):=by
 intro pins s σ H Q I h;refine wpAny_isTrue_Compare1 (thn (ha pins s σ H _ I h) λv s1 ⟨x,H1,I1,r1,q1⟩=>thn (hb pins s1 σ H1 _ I1 q1) λu s2 ⟨y,H2,I2,r2,q2⟩ =>
  thn (ho pins s2 σ H2 x y v u _ I2 r1 r2 q2) λc s3 ⟨z,H3,I3,r3,k,e,q3⟩=>?_) hm
 subst e;cases r3;exact wpAny_truthy_bool ⟨H3,I3,q3⟩
def UX (r r':R2)(ta tb tc:TE):TE:=λσ H Q=>ta σ H λx H1=>tb σ H1 λy H2=>r x y H2 λz H3=>∃k,z=.bl k /\
 (if k=true then tc σ H3 λw' H4=>r' y w' H4 Q else Q (.bl false) H3)
theorem AE {op op':CmpOp}{r r':R2}(ho:OpR X (akW op) r)(ho':OpR X (akW op') r')(ha:PE X a ta)(hb:PE X b tb)(hc:PE X c tc)
  (hm:lastMarks [op,op'] [b,c]=false:=by with_unfolding_all rfl):PE X (.Compare a [op,op'] [b,c] pos) (UX r r' ta tb tc):=by
 intro pins s σ H Q I h;refine Compare_chain (thn (ha pins s σ H _ I h) λv s1 ⟨x,H1,I1,r1,q1⟩=>chain_link (thn (hb pins s1 σ H1 _ I1 q1) λu s2 ⟨y,H2,I2,r2,q2⟩ =>
  thn (ho pins s2 σ H2 x y v u _ I2 r1 r2 q2) λd s3 ⟨z,H3,I3,r3,k,e,q3⟩=>?_)) hm
 subst e;cases r3;refine wpAny_truthy_bool ?_;cases k with
 |false=>exact ite_ff ⟨.bl false,H3,I3,rfl,q3⟩
 |true=>exact ite_tt (chain_last (thn (hc pins s3 σ H3 _ I3 q3) λw' s4 ⟨z',H4,I4,r4,q4⟩=>ho' pins s4 σ H4 y z' u w' Q I4 r2 r4 q4))
def ZF (K:bo)(x:V)(H:Hp)(k:Bool):Prop :=
 match x with
 | .non=>k=false
 | .bl b=>k=b
 | .int i=>k=(i != 0)
 | .str y=>y.length<=gr/\k=((y.length:Int) != 0)
 | .byt y=>y.size<=gr/\k=((y.size:Int) != 0)
 | .ref p=>(∃xs,SqL K H p xs/\k=!xs.isEmpty)\/(∃xs,SqT K H p xs/\k=!xs.isEmpty)\/∃kvs,H p=some (.dK kvs)/\k=!kvs.isEmpty
 |_=>False
theorem I0 {κ:Type}{kvs:List (κ×V)}{vs:List (κ×Value)}(r:KV kvs vs):(!vs.isEmpty)=!kvs.isEmpty:=by
 cases r <;> rfl
theorem AF {xs:List V}{its:List Value}(r:Vals xs its):(!its.toArray.isEmpty)=!xs.isEmpty:=by
 cases r <;> simp
theorem uK:(gr:Nat) < 2 ^ 63:=by rw[sizeLine_eq];decide
theorem UY:ahq X (λx H Q=>∃k,ZF X.K x H k/\Q k H):=by
 intro pins s σ H x v Q I rx h;obtain⟨k,e,q⟩:=h;have hl:=uK;have hs:gr=16777216:=sizeLine_eq;cases x with
 |non =>
  cases rx;have e':k=false:=e;subst e';exact truthy_none ⟨H,I,q⟩
 |bl b =>
  cases rx;have e':k=b:=e;subst e';exact wpAny_truthy_bool ⟨H,I,q⟩
 |int i =>
  obtain⟨t,rfl⟩:=rx;have e':k=(i != 0):=e;subst e';exact PySem.P.truthy_int ⟨H,I,q⟩
 |str y =>
  obtain⟨t,rfl⟩:=rx;obtain⟨hy,e'⟩:y.length<=gr/\k=((y.length:Int) != 0):=e;subst e';exact PySem.P.truthy_str (by omega) ⟨H,I.tok _,q⟩
 |byt y =>
  obtain⟨t,rfl⟩:=rx;obtain⟨hy,e'⟩:y.size<=gr/\k=((y.size:Int) != 0):=e;subst e';exact PySem.W.truthy_bytes (by omega) ⟨H,I.tok _,q⟩
 |ref p =>
  cases rx;have e':(∃xs,SqL X.K H p xs/\k=!xs.isEmpty)\/(∃xs,SqT X.K H p xs/\k=!xs.isEmpty)\/∃kvs,H p=some (.dK kvs)/\k=!kvs.isEmpty:=e;rcases e' with ⟨xs,hx,e'⟩ | ⟨xs,hx,e'⟩ | ⟨kvs,hx,e'⟩
  ·subst e';obtain⟨its,r,pl,hz⟩:=I.list hx;have hlen:=r.length;exact wpAny_truthy_list pl.isList (by simp only[ku];omega) ⟨H,I.tok _,by rw[AF r];exact q⟩
  ·subst e';obtain⟨its,r,pl,hz⟩:=I.tuple hx;have hlen:=r.length;exact truthy_tuple pl (by simp only[ku];omega) ⟨H,I.tok _,by rw[AF r];exact q⟩
  ·subst e';obtain⟨hz,hS,vs,r,m⟩:kvs.length<=gr/\(p == alh)=false/\∃vs,KV kvs vs/\s.heap.DictOf (dj X.prog X.w) p vs:=I.hok p _ hx;have hlen:kvs.length=vs.length:=Paired.length r;exact wpAny_truthy_dict hS m (by omega) ⟨H,I.tok _,by rw[I0 r];exact q⟩
 |_=>exact(show False from e).elim
theorem sA (ha:PE X a ta)(he:∀whole,isTrue a X.env whole=(do let v <-whole;standAt a.pos;holding [v] (truthy v))) :
  PT X a (λσ H Q=>ta σ H λx H'=>∃k,ZF X.K x H' k/\Q k H'):=by
 intro pins s σ H Q I h;exact isTrue_plain (thn (ha pins s σ H _ I h) λv s1 ⟨x,H1,I1,r1,q1⟩=>UY pins s1 σ H1 x v Q I1 r1 q1) (he _)
theorem Ja:OpR X (binaryOp .Add) (λx y H Q=>∃i j,x=.str i/\y=.str j/\i.length+j.length<=gr/\Q (.str (i++j)) H):=by
 intro pins s σ H x y v u Q I rx ry h;obtain⟨i,j,rfl,rfl,hz,q⟩:=h;obtain⟨t,rfl⟩:=rx;obtain⟨t',rfl⟩:=ry;exact add_str (λt' tk=>⟨.str (i++j),H,I.tok _,⟨_,rfl⟩,q⟩) hz
theorem vals1 {x:V}{us:List Value}(r:Vals [x] us):∃u,us=[u]/\RelV x u:=by
 cases r with
 |cons r1 r2=>cases r2;exact⟨_,rfl,r1⟩
theorem vals2 {x y:V}{us:List Value}(r:Vals [x,y] us):∃u w',us=[u,w']/\RelV x u/\RelV y w':=by
 cases r with
 |cons r1 r2 =>
  cases r2 with
  |cons r3 r4=>cases r4;exact⟨_,_,rfl,r1,r3⟩
theorem ua (hc:X.calm=true):lF X (.builtin "max") (λxs H Q=>∃i j,xs=[.int i,.int j]/\Q (.int (if j > i then j else i)) H):=by
 intro pins s σ H xs us Q I r h;obtain⟨i,j,rfl,q⟩:=h;obtain⟨u,w',rfl,⟨t,rfl⟩,⟨t',rfl⟩⟩:=vals2 r;refine max_two_ints (I.ok.hd hc) λh' tk k=>⟨_,H,I.kept k,?_,q⟩
 by_cases hj:j > i
 ·rw[if_pos hj,if_pos hj];exact⟨_,rfl⟩
 ·rw[if_neg hj,if_neg hj];exact⟨_,rfl⟩
theorem CV:lF X (.type "int") (λxs H Q=>(∃i,xs=[.int i]/\Q (.int i) H)\/∃k,xs=[.bl k]/\Q (.int (if k then 1 else 0)) H):=by
 intro pins s σ H xs us Q I r h;rcases h with ⟨i,rfl,q⟩ | ⟨k,rfl,q⟩
 ·obtain⟨u,rfl,t,rfl⟩:=vals1 r;exact call_int_int ⟨.int i,H,I,⟨_,rfl⟩,q⟩
 ·obtain⟨u,rfl,r1⟩:=vals1 r;cases r1;exact call_int_bool ⟨.int (if k then 1 else 0),H,I.tok _,⟨_,rfl⟩,q⟩
theorem vO:lF X (.type "str") (λxs H Q=>∃i,xs=[.int i]/\i.natAbs.log2 < 1920/\Q (.str (toString i)) H):=by
 intro pins s σ H xs us Q I r h;obtain⟨i,rfl,hz,q⟩:=h;obtain⟨u,rfl,t,rfl⟩:=vals1 r;exact PySem.P.str_of_int hz ⟨.str _,H,I.tok _,⟨_,rfl⟩,q⟩
end
structure Jb (h:Heap)(x dx C:Addr)(mA:Str->Option Value):Prop where
 obj:h.get? x=some (akx C dx)
 ns:h.Ns1 dx mA
 ne:dx≠x
theorem Mb {h:Heap}{dx:Addr}{mA:Str->Option Value}(n:h.Ns1 dx mA):∃od,h.get? dx=some od/\∀name,PySem.W.lookIn name od=some (mA name):=by
 obtain⟨o,es,ep,ho,hd,hk,_,hm⟩:=n;refine⟨o,ho,λname=>?_⟩
 have e:=hm name;unfold nsFind findBy at e;rw[<-Array.find?_toList]at e;unfold PySem.W.lookIn;rw[hd];dsimp only;split
 ·rename_i y q;rw[q]at e;exact congrArg some e
 ·rename_i q;rw[q]at e;have a:es.toList.any (·.refKey)=false:=by
   rw[List.any_eq_false];intro y hy;obtain⟨z,t,aht⟩:=hk y (Array.mem_toList_iff.mp hy);simp[DictEntry.refKey,aht]
  have a':¬es.toList.any (·.refKey)=true:=by rw[a];exact ma
  rw[if_neg a'];exact congrArg some e
theorem Jb.look {h:Heap}{x dx C:Addr}{mA:Str->Option Value}(I:Jb h x dx C mA):∃od,PySem.W.InstAt h x (akx C dx) C (some od)/\∀name,PySem.W.lookIn name od=some (mA name) :=
 let ⟨od,ho,hl⟩:=Mb I.ns
 ⟨od,⟨I.obj,rfl,rfl,ho⟩,hl⟩
section
variable{prog:sr}{w:World}{A:Around}{E:Value->Shared->Prop}{s:Shared}{K:bo}{x dx C f:Addr}{mA:Str->Option Value}{name:Str}{v:Value}
theorem get_map {expr:Bool}{Q:Value->Shared->Prop}(X:K.In s.heap)(I:Jb s.heap x dx C mA)(hg:aky K C name=true)(hh:akv K C=true)
  (ha:cb K (.ref C) name=some none) (hv:mA name=some v) (hv':PySem.W.handedIn v=true) (h:Q v { s with toks:=s.toks+1 }) :
  wpAny (model prog w) A (getAttr (.ref x) name expr) Q E s:=by
 obtain⟨od,J,hl⟩:=I.look;exact PySem.W.get_value X J (PySem.W.plainGet_of hg).1 (PySem.W.findObj_own hh ha rfl (by rw[hl,hv])) hv' h
theorem NC {pl:Sem Bool}{Q:Value×List Value->Shared->Prop}(X:K.In s.heap)(I:Jb s.heap x dx C mA)(hg:aky K C name=true)
  (hf:cb K (.ref C) name=some (some (.ref f))) (ht:om K (.ref f)=true) (hv:mA name=none) (h:Q (.ref f,[.ref x]) s) :
  wpAny (model prog w) A (getMethod (.ref x) name pl) Q E s:=by
 obtain⟨od,J,hl⟩:=I.look;exact PySem.W.method_fn X J (PySem.W.plainGet_of hg).1 (PySem.W.plainGet_of hg).2 hf (beq_iff_eq.mp ht) (by show (PySem.W.lookIn name od).map (·.isSome)=some false;rw[hl,hv];rfl) h
theorem QO {ns:List Str}{Q:Unit->Shared->Prop}(X:K.In s.heap)(I:Jb s.heap x dx C mA)
  (hs:cb K (.ref C) "__setattr__"=some (some (.builtin "object.__setattr__"))) (hp:akH K C=true) (ht:PySem.W.takerIn K C name=some none) (hh:akv K C=true)
  (hw:PySem.Within mA ns) (hsz:ns.length<=gr)
  (h:∀h',Jb h' x dx C (λy=>if y=name then some v else mA y)->Heap.SameBut dx s.heap h'->Q () { s with heap:=h',toks:=s.toks+2 }) :
  wpAny (model prog w) A (setAttr (.ref x) name v) Q E s:=by
 obtain⟨od,J,hl⟩:=I.look;refine PySem.W.set_plain X J hs (PySem.W.osa_open (s:={ s with toks:=s.toks+1 }) (r:=none) X J hp ht λb=>?_)
 obtain⟨cd,hc,hd'⟩:=PySem.W.any_some hh;have hx:s.heap.get? x=some ⟨.ref C,some dx,.plain,#[]⟩:=I.obj;refine fu (ajY (fu (fu (wpAny_loadPart hx (fu (PySem.W.Looks.here (s:={ s with toks:=s.toks+1 }) (PySem.W.looks_clsIn X hc) ?_))))))
 rw[hd'];refine ajY (a:=some dx) (fu (ajY (fu ?_)));refine wpAny_nsSet1 (s:={ s with toks:=s.toks+1 }) I.ns λh' hn2 hs2=>?_
 obtain⟨oD,esD,epD,hoD,hdD,hcD⟩:=hn2.count (PySem.Within.cons name v hw);refine fu (wpAny_lookBehind hoD (by rw[hdD];exact pastItsLine_dict (adm hcD (by rw[aj3];omega))) ?_)
 exact ajY (h _ ⟨(hs2.2 _ (akp I.ne)).trans I.obj,hn2,I.ne⟩ hs2)
theorem ND {R:Result->Shared->Prop}{vs:List Value}{kw:List (Str×Value)}(X:K.In s.heap)(hm:akL K C=true)
  (hi:cb K (.ref C) "__init__"=some (some (.ref f))) (hf:PySem.W.typeIn K (.ref f)=some (.type "function"))
  (h:codeAny (model prog w) (A.under (.builtin "type.__call__" ⟨.ref C::vs,kw⟩)) (.call (.ref f) ⟨.ref (s.heap.objs.size+1)::vs,kw⟩) (PySem.W.InitBack (s.heap.objs.size+1) R)
   { s with heap:=(s.heap.push akt).push (akx C s.heap.objs.size) }) :
  codeAny (model prog w) A (.call (.ref C) ⟨vs,kw⟩) R s:=by
 obtain⟨hh,g,d,t,os⟩:=s;exact PySem.W.make_core (PySem.W.makes_of X hm) (PySem.W.looks_findIn X hi) (λself=>PySem.W.bind_fn X self hf) (.inl rfl) h
end
def gx (f:Str)(v:V):List (Str×V)->List (Str×V)
 |[]=>[(f,v)]
 | (g,x)::r=>if g=f then (g,v)::r else (g,x)::gx f v r
theorem yP (f g:Str)(v:V):∀fs:List (Str×V),(gx f v fs).lookup g=if g=f then some v else fs.lookup g
 |[]=>by
  show akI g [(f,v)]=_
  by_cases h:g=f
  ·have hb:(g == f)=true:=beq_iff_eq.mpr h;simp only[akI,hb,if_pos h]
  ·have hb:(g == f)=false:=beq_eq_false_iff_ne.mpr h;simp only[akI,hb,if_neg h]
 | (k,x)::r=>by
  have ih:=yP f g v r;rw[show gx f v ((k,x)::r)=(if k=f then (k,v)::r else (k,x)::gx f v r) from rfl]
  by_cases hk:k=f
  ·rw[if_pos hk]
   by_cases h:g=k
   ·have hb:(g == k)=true:=beq_iff_eq.mpr h;simp only[akI,hb,if_pos (h.trans hk)]
   ·have hb:(g == k)=false:=beq_eq_false_iff_ne.mpr h;simp only[akI,hb,if_neg (λe:g=f=>h (e.trans hk.symm))]
  ·rw[if_neg hk]
   by_cases h:g=k
   ·have hb:(g == k)=true:=beq_iff_eq.mpr h;simp only[akI,hb,if_neg (λe:g=f=>hk (h.symm.trans e))]
   ·have hb:(g == k)=false:=beq_eq_false_iff_ne.mpr h;simp only[akI,hb];exact ih
theorem xE (f:Str)(v:V):∀fs:List (Str×V),f∈(gx f v fs).map (·.1)/\∀g,g∈fs.map (·.1)->g∈(gx f v fs).map (·.1)
 |[]=>⟨by simp[gx],λg h=>by simp at h⟩
 | (k,x)::r=>by
  obtain⟨i1,i2⟩:=xE f v r;rw[show gx f v ((k,x)::r)=(if k=f then (k,v)::r else (k,x)::gx f v r) from rfl]
  by_cases hk:k=f
  ·rw[if_pos hk];subst hk;exact⟨by simp,λg h=>by simpa using h⟩
  ·rw[if_neg hk];refine⟨?_,λg h=>?_⟩
   ·rw[km];exact ky _ i1
   ·rw[km]at h ⊢;rcases List.mem_cons.mp h with e | e
    ·exact List.mem_cons.mpr (.inl e)
    ·exact ky _ (i2 g e)
theorem yQ (f:Str)(v:V):∀fs:List (Str×V),(gx f v fs).length<=fs.length+1
 |[]=>by simp[gx]
 | (k,x)::r=>by
  have ih:=yQ f v r;rw[show gx f v ((k,x)::r)=(if k=f then (k,v)::r else (k,x)::gx f v r) from rfl]
  by_cases hk:k=f
  ·rw[if_pos hk,aj3,aj3];omega
  ·rw[if_neg hk,aj3,aj3];omega
theorem qy.some_of {v:V}{o:Option Value}(r:qy (some v) o):∃u,o=some u/\RelV v u:=by
 cases o with
 |none=>exact(show False from r).elim
 |some u=>exact⟨u,rfl,r⟩
theorem qy.none_of {o:Option Value}(r:qy none o):o=none:=by
 cases o with
 |none=>rfl
 |some u=>exact(show False from r).elim
theorem Mc {v:V}{u:Value}(r:RelV v u):PySem.W.handedIn u=true:=by
 cases v with
 |non=>cases (show u=alm from r);rfl
 |bl b=>cases (show u=Value.bool b from r);rfl
 |int i=>obtain⟨t,e⟩:=(show ∃t,u=Value.int i t from r);cases e;rfl
 |str x=>obtain⟨t,e⟩:=(show ∃t,u=Value.str x t from r);cases e;rfl
 |byt b=>obtain⟨t,e⟩:=(show ∃t,u=Value.bytes b t from r);cases e;rfl
 |flt b=>obtain⟨t,e⟩:=(show ∃t,u=Value.float b t from r);cases e;rfl
 |ref a=>cases (show u=aj6 a from r);rfl
 |ty n=>cases (show u=Value.type n from r);rfl
section
variable{P:sr}{w:World}{H H':Hp}{h h':Heap}{a C dx:Addr}{fs fs':List (Str×V)}
theorem D6 (hok:HOk P w H h)(e:H a=some (.ins C dx fs)):∃mA,Jb h a dx C mA/\(∀f,qy (fs.lookup f) (mA f))/\PySem.Within mA (fs.map (·.1))/\fs.length<=1000/\H dx=some (.own a):=by
 obtain⟨d,z,ne,ob,mA,n,r,q⟩:=(show fO P w H h a (.ins C dx fs) from hok a _ e)
 exact⟨mA,⟨ob,n,ne⟩,r,q,z,d⟩
end
structure Cls (K:bo)(C:Addr):Prop where
 pg:aky K C akw=true
 hd:akv K C=true
 po:akH K C=true
 sa:cb K (.ref C) "__setattr__"=some (some (.builtin "object.__setattr__"))
theorem Cls.get {K:bo}{C:Addr}(c:Cls K C)(f:Str):aky K C f=true:=c.pg
def d0 (K:bo)(C:Addr)(f:Str):Prop:=cb K (.ref C) f=some none
theorem d0.ZG {K:bo}{C:Addr}{f:Str}(n:d0 K C f):PySem.W.takerIn K C f=some none:=by
 unfold PySem.W.takerIn;rw[show cb K (.ref C) f=some none from n]
 rfl
structure Con (K:bo)(C:Addr)(f:Str)(v:V)(u:Value):Prop where
 at_:cb K (.ref C) f=some (some u)
 rel:RelV v u
 get:PySem.W.specialIn K u "__get__"=some none
 cp:PySem.W.copiedNames.contains f=false
structure Meth (K:bo)(C:Addr)(m:Str)(f:Addr):Prop where
 at_:cb K (.ref C) m=some (some (.ref f))
 fn:om K (.ref f)=true
 kp:da K (.ref f)=true
section
variable{X:Cx}{pins:List (Addr×Obj)}{σ:St}{H:Hp}{s:Shared}{a C dx:Addr}{fs:List (Str×V)}{f:Str}{v:V}{A:Around}{E:Value->Shared->Prop}
theorem Jc {b:Bool}{Q:Value->Shared->Prop}(I:Inv X pins σ H s)(e:H a=some (.ins C dx fs))(c:Cls X.K C)(n:d0 X.K C f)(l:fs.lookup f=some v)
  (h:∀u s',Inv X pins σ H s'->RelV v u->Q u s'):wpAny (model X.prog X.w) A (getAttr (.ref a) f b) Q E s:=by
 obtain⟨mA,O,r,_,_,_⟩:=D6 I.hok e;obtain⟨u,hu,ru⟩:=qy.some_of (v:=v) (o:=mA f) (by rw[<-l];exact r f)
 exact get_map I.kIn O (c.get f) c.hd n hu (Mc ru) (h u _ (I.tok _) ru)
theorem jB {m:Str}{g:Addr}{pl:Sem Bool}{Q:Value×List Value->Shared->Prop}(I:Inv X pins σ H s)(e:H a=some (.ins C dx fs))(c:Cls X.K C)(k:Meth X.K C m g)(l:fs.lookup m=none)
  (h:Q (.ref g,[.ref a]) s):wpAny (model X.prog X.w) A (getMethod (.ref a) m pl) Q E s:=by
 obtain⟨mA,O,r,_,_,_⟩:=D6 I.hok e;have hn:mA m=none:=qy.none_of (by rw[<-l];exact r m)
 exact NC I.kIn O (c.get m) k.at_ k.fn hn h
theorem Jd {y:V}{u:Value}{Q:Unit->Shared->Prop}(I:Inv X pins σ H s)(e:H a=some (.ins C dx fs))(c:Cls X.K C)(n:d0 X.K C f)(hl:fs.length < 1000)(ry:RelV y u)
  (h:∀s',Inv X pins σ (upd H a (.ins C dx (gx f y fs))) s'->Q () s'):wpAny (model X.prog X.w) A (setAttr (.ref a) f u) Q E s:=by
 obtain⟨mA,O,r,wi,_,ho⟩:=D6 I.hok e;have hz:(fs.map (·.1)).length<=gr:=by rw[ba,sizeLine_eq];omega
 refine QO I.kIn O c.sa c.po n.ZG c.hd wi hz λh' O' sb=>h _ ?_
 have hd:∃o,h'.get? dx=some o:=let ⟨o,_,_,e',_⟩:=O'.ns;⟨o,e'⟩
 refine I.write (x:=a) (e:=dx) (by rw[e];exact ali) (.inr ho) (λb q hb z=>(sb.2 b hb).trans z) hd ?_
 refine⟨by rw[aw O.ne];exact ho,?_,O.ne,O'.obj,_,O'.ns,λg=>?_,λg hg=>?_⟩
 ·have:=yQ f y fs;omega
 ·show qy ((gx f y fs).lookup g) (if g=f then some u else mA g)
  rw[yP]
  by_cases q:g=f
  ·rw[if_pos q,if_pos q];exact ry
  ·rw[if_neg q,if_neg q];exact r g
 ·by_cases q:g=f
  ·rw[q];exact(xE f y fs).1
  ·refine(xE f y fs).2 g (wi g λz=>hg ?_)
   show (if g=f then some u else mA g)=none
   rw[if_neg q];exact z
theorem Inv.made (I:Inv X pins σ H s):Inv X pins σ (upd (upd H s.heap.objs.size (.own (s.heap.objs.size+1))) (s.heap.objs.size+1) (.ins C s.heap.objs.size []))
  { s with heap:=(s.heap.push akt).push (akx C s.heap.objs.size) }:=by
 have e1:(s.heap.push akt).get? s.heap.objs.size=some akt:=akg s.heap rfl;have e2:((s.heap.push akt).push (akx C s.heap.objs.size)).get? (s.heap.objs.size+1)=some (akx C s.heap.objs.size):=by
  have:=akg (s.heap.push akt) (o:=akx C s.heap.objs.size) rfl
  rwa [Heap.size_push]at this
 have e3:(s.heap.push akt).Ns s.heap.objs.size (λ_=>none):=⟨akt,#[],_,e1,rfl,(λe he=>absurd he (by simp)),λ_=>rfl⟩
 have I1:=I.laid (a:=s.heap.objs.size) (o:=.own (s.heap.objs.size+1)) (h':=s.heap.push akt) (t':=s.toks) (λb u q=>kg _ q) (kq _) ⟨_,e1⟩
 refine I1.laid (a:=s.heap.objs.size+1) (o:=.ins C s.heap.objs.size []) (t':=s.toks) (λb u q=>kg _ q) (Nat.le_of_eq (Heap.size_push _ _)) ?_
 have ne:s.heap.objs.size≠s.heap.objs.size+1:=akj (Nat.lt_succ_self _);refine⟨by rw[aw ne,ae],akX _,ne,e2,λ_=>none,(Heap.Ns1.of_empty e3).at λo q=>kg _ q,λ_=>ali,λy hy=>absurd rfl hy⟩
theorem QP {prog:sr}{w:World}{env:Env}{e:Expr}{f:Str}{pos:Pos}{s:Shared}{Q:Value->Shared->Prop}(hb:attributeBase e f env (eval e env)=eval e env)
  (h:wpAny (model prog w) A (eval e env) (λo s₁=>wpAny (model prog w) A (getAttr o f true) Q E s₁) E s):wpAny (model prog w) A (eval (.Attribute e f pos) env) Q E s :=
 Attribute_any_ h (by rw[arm_eval_Attribute,hb])
end
def ZH (K:bo)(ta:TE)(f:Str):TE:=λσ H Q=>ta σ H λx H1=>∃a C dx fs v,x=.ref a/\H1 a=some (.ins C dx fs)/\Cls K C/\d0 K C f/\fs.lookup f=some v/\Q v H1
def ahu (K:bo)(ta tv:TE)(f:Str):TS:=λD σ H=>tv σ H λy H1=>ta σ H1 λx H2=>∃a C dx fs,x=.ref a/\H2 a=some (.ins C dx fs)/\Cls K C/\d0 K C f/\fs.length < 1000 /\
 D.nx σ (upd H2 a (.ins C dx (gx f y fs)))
section
variable{X:Cx}{o e value:Expr}{f:Str}{pos pos' ahv:Pos}{ta tv:TE}
theorem bh (he:PE X e ta)(hb:attributeBase e f X.env (eval e X.env)=eval e X.env):PE X (.Attribute e f pos) (ZH X.K ta f):=by
 intro pins s σ H Q I h;refine QP hb (thn (he pins s σ H _ I h) λu s1 ⟨x,H1,I1,rx,a,C,dx,fs,v,ex,ea,c,n,l,q⟩=>?_)
 subst ex;obtain rfl:u=aj6 a:=rx;exact Jc I1 ea c n l λu' s2 I2 ru=>⟨v,H1,I2,ru,q⟩
theorem eU (ha:PE X o ta)(hv:PE X value tv)(hs:swapsWith value (some (.Attribute o f pos')) pos.line X.env=pure false):PS X (.Assign [.Attribute o f pos'] value pos) (ahu X.K ta tv f):=by
 intro pins s σ H D I h;refine plainObj_wpAny_Assign_Attribute (thn (hv pins s σ H _ I h) λu s1 ⟨y,H1,I1,ry,q⟩=>thn (ha pins s1 σ H1 _ I1 q) λov s2 ⟨x,H2,I2,rx,a,C,dx,fs,ex,ea,c,n,l,q2⟩=>?_) hs
 subst ex;obtain rfl:ov=aj6 a:=rx;exact Jd I2 ea c n l ry λs3 I3=>⟨σ,_,I3,q2⟩
theorem Ta {pl:Sem Bool}{m:Str}{apos:Pos}{args:List Expr}{pins:List (Addr×Obj)}{s:Shared}{σ:St}{H:Hp}{Q:Value->Shared->Prop}{te:TE}(he:PE X e te)(I:Inv X pins σ H s)
  (h:te σ H λx H1=>∃a C dx fs g,x=.ref a/\H1 a=some (.ins C dx fs)/\Cls X.K C/\Meth X.K C m g/\fs.lookup m=none /\
   ∀s1,Inv X pins σ H1 s1->wpAny (model X.prog X.w) X.A (callWith pos (.ref g) [.ref a] (backTo pos (aj0 args X.env)) (backToKw pos (keywordEach [] X.env))) Q X.xe s1)
  (ht:eval (.Call (.Attribute e m apos) args [] pos) X.env=(do
   let ov <-eval e X.env
   standAt apos.atName
   let (f,first) <-holding [ov] (getMethod ov m pl)
   callWith pos f first (backTo pos (aj0 args X.env)) (backToKw pos (keywordEach [] X.env)))) :
  wpAny (model X.prog X.w) X.A (eval (.Call (.Attribute e m apos) args [] pos) X.env) Q X.xe s:=by
 refine akU (pl:=pl) (thn (he pins s σ H _ I h) λu s1 ⟨x,H1,I1,rx,a,C,dx,fs,g,ex,ea,c,k,l,q⟩=>?_) ht
 subst ex;obtain rfl:u=aj6 a:=rx;exact jB I1 ea c k l (q s1 I1)
end
section
variable{X:Cx}{pins:List (Addr×Obj)}{σ:St}{H:Hp}{s:Shared}{A:Around}{E:Value->Shared->Prop}{Q:Value->Shared->Prop}{c:Value}{b:Bool}
inductive AG (K:bo)(H:Hp):V->Value->Prop where
 |non:AG K H .non (.type "NoneType")
 |bl (x:Bool):AG K H (.bl x) (.type "bool")
 |int (i:Int):AG K H (.int i) (.type "int")
 |str (x:Str):AG K H (.str x) (.type "str")
 |flt (x:UInt64):AG K H (.flt x) (.type "float")
 |lst {a:Addr} {xs:List V} (e:H a=some (.lst xs)):AG K H (.ref a) (.type "list")
 |frz {a:Addr} {o:Obj} {xs:List V} (e:H a=some (.frz o (.lst xs))):AG K H (.ref a) (.type "list")
 |tup {a:Addr} {xs:List V} (e:H a=some (.tup xs)):AG K H (.ref a) (.type "tuple")
 |dK {a:Addr} {kvs:List (Key×V)} (e:H a=some (.dK kvs)):AG K H (.ref a) (.type "dict")
 |dT {a:Addr} {kvs:List (List Key×V)} (e:H a=some (.dT kvs)):AG K H (.ref a) (.type "dict")
 |ins {a C dx:Addr} {fs:List (Str×V)} (e:H a=some (.ins C dx fs)) (cl:Cls K C) (ha:cb K (.ref C) "__class__"=some (some (.builtin "object.__class__")))
   (hn:PySem.W.specialIn K (.builtin "object.__class__") "__get__"=some (some (.builtin "getset_descriptor.__get__"))) (htk:PySem.W.takesIn K (.builtin "object.__class__")=some true)
   (hm:PySem.W.mroIn K C (.type "object")=some true):AG K H (.ref a) (.ref C)
end
structure Room (k:Nat)(A:Around):Prop where
 hd:A.handled=none
 dp:A.depth+3 * k+5 < recursionLimit
 un:A.units+16 * k+200 < cLine
 gd:A.guards=some []
theorem Room.mono {j k:Nat}{A:Around}(r:Room k A)(h:j<=k):Room j A:=⟨r.hd,by have:=r.dp;omega,by have:=r.un;omega,r.gd⟩
theorem Room.deeper {k:Nat}{A:Around}(r:Room (k+1) A)(env:Env):Room k (A.deeper env) :=
 ⟨r.hd,by have:=r.dp;show A.depth+1+3 * k+5 < _;omega,by have:=r.un;show A.units+3+16 * k+200 < _;omega,r.gd⟩
theorem Room.in1 {k:Nat}{A:Around}(r:Room (k+1) A):Room k A.in1 :=
 ⟨r.hd,by have:=r.dp;show A.depth+3 * k+5 < _;omega,by have:=r.un;show A.units+1+16 * k+200 < _;omega,r.gd⟩
theorem Je {A:Around}{C:Addr}{us:List Value}{kw:List (Str×Value)}:(A.under (.builtin "type.__call__" ⟨.ref C::us,kw⟩)).depth=A.depth+1:=by
 first | rfl | simp[Around.under,Code.weight,Code.isCreation,Code.isGuard,Code.isCaller,Code.frames,Code.isFrame,guardIds]
theorem Jf {A:Around}{C:Addr}{us:List Value}{kw:List (Str×Value)}:(A.under (.builtin "type.__call__" ⟨.ref C::us,kw⟩)).units=A.units+1:=by
 first | rfl | simp[Around.under,Code.cUnits,Code.frames,Code.isFrame]
theorem Room.make {k:Nat}{A:Around}(r:Room (k+1) A)(C:Addr)(us:List Value)(kw:List (Str×Value)):Room k (A.under (.builtin "type.__call__" ⟨.ref C::us,kw⟩)) :=
 ⟨r.hd,by have:=r.dp;rw[Je];omega,by have:=r.un;rw[Jf];omega,by
  have g:=r.gd
  first | exact g | simp[Around.under,Code.guards,Code.isGuard,guardIds,pushGuards,g]⟩
theorem Room.depth {k:Nat}{A:Around}(r:Room k A):A.depth < recursionLimit:=by have:=r.dp;omega
theorem Room.units {k:Nat}{A:Around}(r:Room k A):A.units+64 < cLine:=by have:=r.un;omega
def UZ:TA:=λ_ H Q=>Q [] H
def ZI (ta:TE)(tr:TA):TA:=λσ H Q=>ta σ H λx H1=>tr σ H1 λxs H2=>Q (x::xs) H2
section
variable{X:Cx}{e:Expr}{es:List Expr}{te:TE}{t:TA}{pos:Pos}
theorem af:PA X [] UZ:=λ_ _ _ _ H Q I h=>Calls.spliced_nil ⟨[],H,I,.nil,h⟩
theorem aa (ha:PE X e te)(hr:PA X es t)(hs:aj0 (e::es) X.env=(false,eval e X.env)::aj0 es X.env:=by rfl):PA X (e::es) (ZI te t):=by
 intro pos pins s σ H Q I h;rw[hs];show wpAny _ _ (spliced ((false,eval e X.env)::backTo pos (aj0 es X.env))) _ _ s;refine Calls.spliced_cons (thn (ha pins s σ H _ I h) λu s1 ⟨x,H1,I1,r1,q1⟩=>?_)
 exact thn (hr pos pins s1 σ H1 _ I1 q1) λus s2 ⟨xs,H2,I2,r2,q2⟩=>⟨x::xs,H2,I2,.cons r1 r2,q2⟩
def ahw (t:TA):TE:=λσ H Q=>t σ H λxs H1=>xs.length<=gr/\∀p,H1 p=none->Q (.ref p) (upd H1 p (.tup xs))
def ahx (t:TA):TE:=λσ H Q=>t σ H λxs H1=>xs.length<=gr/\∀p,H1 p=none->Q (.ref p) (upd H1 p (.lst xs))
theorem bp {x1}(h:PA X es t):PE X (.Tuple es x1 pos) (ahw t):=by
 intro pins s σ H Q I hq;refine wpAny_Tuple_spliced (thn (h pos pins s σ H _ I hq) λus s1 ⟨xs,H1,I1,r,z,q⟩=>⟨by rw[<-r.length];exact z,?_⟩)
 have hf:H1 s1.heap.objs.size=none:=I1.hok.fresh (kq _);refine⟨.ref s1.heap.objs.size,upd H1 s1.heap.objs.size (.tup xs),I1.laid (t':=s1.toks) (λb u e=>kg _ e) (kq _) ?_,rfl,q _ hf⟩
 exact⟨z,us,r,⟨_,akg _ rfl,rfl,_,rfl⟩⟩
theorem bQ (h:PA X es t):PE X (.List es pos) (ahx t):=by
 intro pins s σ H Q I hq;refine wpAny_List_spliced (thn (h pos pins s σ H _ I hq) λus s1 ⟨xs,H1,I1,r,z,q⟩=>⟨by rw[<-r.length];exact z,?_⟩)
 have hf:H1 s1.heap.objs.size=none:=I1.hok.fresh (kq _);refine⟨.ref s1.heap.objs.size,upd H1 s1.heap.objs.size (.lst xs),I1.laid (t':=s1.toks) (λb u e=>kg _ e) (kq _) ?_,rfl,q _ hf⟩
 exact⟨z,us,0,r,akg _ rfl⟩
end
abbrev Sp:=List V->Hp->VK->XK->Prop
abbrev CXT:=List Env->Hp->Shared->XK->Value->Shared->Prop
structure Cs (P:sr)(w:World)(K:bo)(mg:Str->Option Value)(base:Heap)(A:Around)(outer:List Env)(s:Shared)(H:Hp):Prop where
 frames:A.frames=some outer
 mod:Mod K mg base
 bs:∀b o,base.get? b=some o->s.heap.get? b=some o/\H b=none
 bsz:base.objs.size<=s.heap.objs.size
 uJ:s.heap.FunFrames base outer
 frf:∀b∈frs outer,H b=none
 hok:HOk P w H s.heap
 bare:AllBare s.gens
def CE (outer:List Env)(P:sr)(w:World)(H:Hp)(s:Shared)(Q:VK)(u:Value)(s':Shared):Prop :=
 ∃v H',s'.os=s.os/\AllBare s'.gens/\Un (frs outer) [] H H' s.heap s'.heap/\HOk P w H' s'.heap/\RelV v u/\Q v H'
def CR (CX:CXT)(outer:List Env)(P:sr)(w:World)(H:Hp)(s:Shared)(Q:VK)(E:XK)(r:Result)(s':Shared):Prop :=
 match r with
 | .ok (.ret u)=>CE outer P w H s Q u s'
 | .ok _=>False
 | .error e=>CX outer H s E e s'
structure a7 (P:sr)(w:World)(K:bo)(mg:Str->Option Value)(base:Heap)(CX:CXT)(k:Nat)(f:Addr)(fd:kj)(ps:List Str)(sp:Sp):Prop where
 len:∀vs H Q E,sp vs H Q E->vs.length=ps.length
 run:∀(A:Around) (outer:List Env) (s:Shared) (H:Hp) (args:Args) (us:List Value) (vs:List V) (Q:VK) (E:XK),Room k A->Cs P w K mg base A outer s H->BindsTo s fd args (ps.zip us)->Vals vs us->sp vs H Q E ->
  codeAny (model P w) A (.call (.ref f) args) (CR CX outer P w H s Q E) s
theorem a7.mono {P:sr}{w:World}{K:bo}{mg:Str->Option Value}{base:Heap}{CX:CXT}{j k:Nat}{f:Addr}{fd:kj}{ps:List Str}{sp:Sp}(F:a7 P w K mg base CX j f fd ps sp)(h:j<=k) :
  a7 P w K mg base CX k f fd ps sp:=⟨F.len,λA outer s H args us vs Q E hr=>F.run A outer s H args us vs Q E (hr.mono h)⟩
theorem a7.imp {P:sr}{w:World}{K:bo}{mg:Str->Option Value}{base:Heap}{CX:CXT}{k:Nat}{f:Addr}{fd:kj}{ps:List Str}{sp sp':Sp}(F:a7 P w K mg base CX k f fd ps sp)
  (h:∀vs H Q E,sp' vs H Q E->sp vs H Q E):a7 P w K mg base CX k f fd ps sp' :=
 ⟨λvs H Q E q=>F.len vs H Q E (h _ _ _ _ q),λA outer s H args us vs Q E hr he hb hv hs=>F.run A outer s H args us vs Q E hr he hb hv (h _ _ _ _ hs)⟩
theorem Cs.make {P:sr}{w:World}{K:bo}{mg:Str->Option Value}{base:Heap}{A:Around}{outer:List Env}{s:Shared}{H:Hp}(e:Cs P w K mg base A outer s H)(C:Addr)(us:List Value)(kw:List (Str×Value)) :
  Cs P w K mg base (A.under (.builtin "type.__call__" ⟨.ref C::us,kw⟩)) outer s H:=⟨by first | exact e.frames | (simpa [Around.under,Code.envs,Code.isFrame,pushEnvs] using e.frames),e.mod,e.bs,e.bsz,e.uJ,e.frf,e.hok,e.bare⟩
theorem Cs.in1 {P:sr}{w:World}{K:bo}{mg:Str->Option Value}{base:Heap}{A:Around}{outer:List Env}{s:Shared}{H:Hp}(e:Cs P w K mg base A outer s H) :
  Cs P w K mg base A.in1 outer s H:=⟨e.frames,e.mod,e.bs,e.bsz,e.uJ,e.frf,e.hok,e.bare⟩
section
variable{X:Cx}{pins:List (Addr×Obj)}{σ:St}{H:Hp}{s s':Shared}
theorem Inv.QQ (I:Inv X pins σ H s):Cs X.prog X.w X.K X.mg X.base X.A X.stack s H :=
 ⟨I.ok.frames,I.ok.mod,I.bs,adm I.ok.bsz I.sz,I.stack,I.D0,I.hok,I.bare⟩
theorem Inv.after {Q:VK}{u:Value}(I:Inv X pins σ H s)(h:CE X.stack X.prog X.w H s Q u s'):EP X pins σ Q u s':=by
 obtain⟨v,H',os,bare,un,hok,r,q⟩:=h;obtain⟨hh,g,d,t,os'⟩:=s';obtain rfl:os'=s.os:=os;exact⟨v,H',I.call (h':=hh) (g':=g) (d':=d) (t':=t) (ch:=[]) un hok bare (λb z=>absurd z (by simp)),r,q⟩
end
def Tb (sp:Sp)(dvs:List V)(E:XK)(t:TA):TE:=λσ H Q=>t σ H λvs H1=>sp (vs++dvs) H1 Q E
def Tc (C:Addr)(m:Str)(sp:Sp)(dvs:List V)(E:XK)(ta:TE)(t:TA):TE:=λσ H Q=>ta σ H λx H1=>∃a dx fs,x=.ref a/\H1 a=some (.ins C dx fs)/\fs.lookup m=none /\
 t σ H1 λvs H2=>sp (x::(vs++dvs)) H2 Q E
def ZJ (C:Addr)(sp:Sp)(dvs:List V)(E:XK)(t:TA):TE:=λσ H Q=>t σ H λvs H1=>∀x dx,H1 x=none->H1 dx=none->dx≠x ->
 sp (.ref x::(vs++dvs)) (upd (upd H1 dx (.own x)) x (.ins C dx [])) (λv H2=>v=.non/\Q (.ref x) H2) E
def Binds (K:bo)(fd:kj)(ps:List Str)(ds:List Value):Prop :=
 ∀(s:Shared) (us:List Value),K.In s.heap->(us++ds).length=ps.length->BindsTo s fd ⟨us,[]⟩ (ps.zip (us++ds))
theorem Binds.all {K:bo}{fd:kj}{ps:List Str}(h:∀us:List Value,us.length=ps.length->bindArgs fd ⟨us,[]⟩=pure (ps.zip us)):Binds K fd ps []:=λs us _ hl=>by
 rw[akP]at hl ⊢;exact .of_eq (h us hl)
def Passes (CX:CXT)(X:Cx)(E:XK):Prop:=∀(pins:List (Addr×Obj)) (σ:St) (H:Hp) (s:Shared) (e:Value) (s':Shared),Inv X pins σ H s->CX X.stack H s E e s'->X.xe e s'
section
variable{X:Cx}{CX:CXT}{k:Nat}{f C:Addr}{fd:kj}{ps:List Str}{sp:Sp}{dvs:List V}{ds:List Value}{E:XK}{x m:Str}{p pos apos:Pos}{e o:Expr}{es:List Expr}{ta:TE}{t:TA}
theorem AH {pins:List (Addr×Obj)}{σ:St}{H:Hp}{s:Shared}{Q:VK}{us:List Value}{vs:List V}(F:a7 X.prog X.w X.K X.mg X.base CX k f fd ps sp)(hr:Room k X.A)(hb:Binds X.K fd ps ds)(hd:Vals dvs ds)(hx:Passes CX X E)
  (I:Inv X pins σ H s) (r:Vals vs us) (h:sp (vs++dvs) H Q E):wpAny (model X.prog X.w) X.A (call (.ref f) us) (EP X pins σ Q) X.xe s:=by
 have r2:Vals (vs++dvs) (us++ds):=r.append hd;have hl:(us++ds).length=ps.length:=by rw[<-r2.length];exact F.len _ _ _ _ h
 refine wpAny_call (codeAny_mono (F.run X.A X.stack s H ⟨us,[]⟩ (us++ds) (vs++dvs) Q E hr I.QQ (hb s us I.kIn hl) r2 h) λr s' hq=>?_)
 cases r with
 |error e=>exact hx pins σ H s e s' I hq
 |ok fl =>
  cases fl with
  |ret u=>exact I.after hq
  |next=>exact akr hq
  |brk=>exact akr hq
  |cont=>exact akr hq
theorem aX (F:a7 X.prog X.w X.K X.mg X.base CX k f fd ps sp)(hr:Room k X.A)(hg:Gl X x)(hm:X.mg x=some (.ref f))(hk:da X.K (.ref f)=true)(hb:Binds X.K fd ps ds)(hd:Vals dvs ds)(hx:Passes CX X E)
  (ha:PA X (e::es) t) (hdb:(x == ("__debug__":Str))=false:=by decide) (he:aj0 (e::es) X.env=(false,eval e X.env)::aj0 es X.env:=by rfl) (hpl:(backTo pos (aj0 es X.env)).any (·.1)=false:=by rfl) :
  PE X (.Call (.Name x p) (e::es) [] pos) (Tb sp dvs E t):=by
 intro pins s σ H Q I h;refine wpAny_Call_Name_kw (kh I hg hm ?_ hdb);refine alr (h₀:=X.base) I.ok.mod.kin hk (thn (ha pos pins s σ H _ I h) λus s1 ⟨vs,H1,I1,r,q⟩=>⟨I1.kIn,?_⟩) he hpl
 exact AH F hr hb hd hx I1 r q
theorem NF (F:a7 X.prog X.w X.K X.mg X.base CX k f fd ps sp)(hr:Room k X.A)(hg:Gl X x)(hm:X.mg x=some (.ref f))(hk:da X.K (.ref f)=true)(hb:Binds X.K fd ps ds)(hd:Vals dvs ds)(hx:Passes CX X E)
  (hdb:(x == ("__debug__":Str))=false:=by decide):PE X (.Call (.Name x p) [] [] pos) (Tb sp dvs E UZ):=by
 intro pins s σ H Q I h;refine wpAny_Call_Name_kw (kh I hg hm ?_ hdb);exact alo I.kIn hk (AH (us:=[]) F hr hb hd hx I .nil h)
theorem eG {pl:Sem Bool}(he:PE X o ta)(c:Cls X.K C)(hm:Meth X.K C m f)(F:a7 X.prog X.w X.K X.mg X.base CX k f fd ps sp)(hr:Room k X.A)(hb:Binds X.K fd ps ds)(hd:Vals dvs ds)(hx:Passes CX X E)(ha:PA X (e::es) t)
  (hst:aj0 (e::es) X.env=(false,eval e X.env)::aj0 es X.env:=by rfl) (hpl:(backTo pos (aj0 es X.env)).any (·.1)=false:=by rfl)
  (ht:eval (.Call (.Attribute o m apos) (e::es) [] pos) X.env=(do
   let ov <-eval o X.env
   standAt apos.atName
   let (f,first) <-holding [ov] (getMethod ov m pl)
   callWith pos f first (backTo pos (aj0 (e::es) X.env)) (backToKw pos (keywordEach [] X.env))):=by rfl) :
  PE X (.Call (.Attribute o m apos) (e::es) [] pos) (Tc C m sp dvs E ta t):=by
 intro pins s σ H Q I h;refine akU (pl:=pl) (thn (he pins s σ H _ I h) λu s1 ⟨x,H1,I1,rx,a,dx,fs,ex,ea,l,q⟩=>?_) ht
 subst ex;obtain rfl:u=aj6 a:=rx;refine jB I1 ea c hm l ?_;refine alr (first:=[.ref a]) (h₀:=X.base) I.ok.mod.kin hm.kp (thn (ha pos pins s1 σ H1 _ I1 q) λus s2 ⟨vs,H2,I2,r,q2⟩=>⟨I2.kIn,?_⟩) hst hpl
 exact AH (us:=.ref a::us) (vs:=.ref a::vs) F hr hb hd hx I2 (.cons rfl r) q2
theorem ib {pl:Sem Bool}(he:PE X o ta)(c:Cls X.K C)(hm:Meth X.K C m f)(F:a7 X.prog X.w X.K X.mg X.base CX k f fd ps sp)(hr:Room k X.A)(hb:Binds X.K fd ps ds)(hd:Vals dvs ds)(hx:Passes CX X E)
  (ht:eval (.Call (.Attribute o m apos) [] [] pos) X.env=(do
   let ov <-eval o X.env
   standAt apos.atName
   let (f,first) <-holding [ov] (getMethod ov m pl)
   callWith pos f first (backTo pos (aj0 [] X.env)) (backToKw pos (keywordEach [] X.env))):=by rfl) :
  PE X (.Call (.Attribute o m apos) [] [] pos) (Tc C m sp dvs E ta UZ):=by
 intro pins s σ H Q I h;refine akU (pl:=pl) (thn (he pins s σ H _ I h) λu s1 ⟨x,H1,I1,rx,a,dx,fs,ex,ea,l,q⟩=>?_) ht
 subst ex;obtain rfl:u=aj6 a:=rx;refine jB I1 ea c hm l ?_;exact alo (first:=[.ref a]) I1.kIn hm.kp (AH (us:=[.ref a]) (vs:=[.ref a]) F hr hb hd hx I1 (.cons rfl .nil) q)
structure Mk (K:bo)(C f:Addr):Prop where
 makes:akL K C=true
 init:cb K (.ref C) "__init__"=some (some (.ref f))
 fn:om K (.ref f)=true
 kp:da K (.ref C)=true
theorem NG {pins:List (Addr×Obj)}{σ:St}{H:Hp}{s:Shared}{Q:VK}{us:List Value}{vs:List V}(M:Mk X.K C f)(F:a7 X.prog X.w X.K X.mg X.base CX k f fd ps sp)(hr:Room (k+1) X.A)(hb:Binds X.K fd ps ds)(hd:Vals dvs ds)
  (hx:Passes CX X E) (I:Inv X pins σ H s) (r:Vals vs us)
  (h:∀x dx,H x=none->H dx=none->dx≠x->sp (.ref x::(vs++dvs)) (upd (upd H dx (.own x)) x (.ins C dx [])) (λv H2=>v=.non/\Q (.ref x) H2) E) :
  wpAny (model X.prog X.w) X.A (call (.ref C) us) (EP X pins σ Q) X.xe s:=by
 have hq:=h (s.heap.objs.size+1) s.heap.objs.size (I.hok.fresh (akY _)) (I.hok.fresh (kq _)) (akj (Nat.lt_succ_self _));have I2:=Inv.made (C:=C) I;have r2:Vals (V.ref (s.heap.objs.size+1)::(vs++dvs)) (aj6 (s.heap.objs.size+1)::(us++ds)):=.cons rfl (r.append hd);have hl:(aj6 (s.heap.objs.size+1)::us++ds).length=ps.length:=by
  have e:=r2.length;rw[F.len _ _ _ _ hq]at e;exact e.symm
 refine wpAny_call (ND (f:=f) I.kIn M.makes M.init (beq_iff_eq.mp M.fn) (codeAny_mono (F.run _ X.stack _ _ ⟨aj6 (s.heap.objs.size+1)::us,[]⟩ (aj6 (s.heap.objs.size+1)::(us++ds)) _ _ E (hr.make C us [])
  (I2.QQ.make C us []) (hb _ (aj6 (s.heap.objs.size+1)::us) I2.kIn hl) r2 hq) λr s' hq'=>?_))
 cases r with
 |error e=>exact hx pins σ _ _ e s' I2 hq'
 |ok fl =>
  cases fl with
  |ret u =>
   obtain⟨v,H',I3,rv,ev,q3⟩:=I2.after hq';subst ev;exact⟨rv,⟨V.ref (s.heap.objs.size+1),H',I3,rfl,q3⟩⟩
  |next=>exact akr hq'
  |brk=>exact akr hq'
  |cont=>exact akr hq'
theorem gS (M:Mk X.K C f)(F:a7 X.prog X.w X.K X.mg X.base CX k f fd ps sp)(hr:Room (k+1) X.A)(hg:Gl X x)(hm:X.mg x=some (.ref C))(hb:Binds X.K fd ps ds)(hd:Vals dvs ds)(hx:Passes CX X E)
  (ha:PA X (e::es) t) (hdb:(x == ("__debug__":Str))=false:=by decide) (he:aj0 (e::es) X.env=(false,eval e X.env)::aj0 es X.env:=by rfl) (hpl:(backTo pos (aj0 es X.env)).any (·.1)=false:=by rfl) :
  PE X (.Call (.Name x p) (e::es) [] pos) (ZJ C sp dvs E t):=by
 intro pins s σ H Q I h;refine wpAny_Call_Name_kw (kh I hg hm ?_ hdb);refine alr (h₀:=X.base) I.ok.mod.kin M.kp (thn (ha pos pins s σ H _ I h) λus s1 ⟨vs,H1,I1,r,q⟩=>⟨I1.kIn,?_⟩) he hpl
 exact NG M F hr hb hd hx I1 r q
end
section
variable{X:Cx}{CX:CXT}{k:Nat}{f C:Addr}{fd:kj}{ps ks:List Str}{sp:Sp}{E:XK}{x m:Str}{p pos apos ajS:Pos}{e o:Expr}{es:List Expr}{kws:List Keyword}{te ta:TE}{t tk:TA}{nm:Option Str}
structure ahy (K:bo)(fd:kj)(ps ks:List Str)(g:List Value->List Value->List Value)(gV:List V->List V->List V):Prop where
 to:∀(s:Shared) (us ws:List Value),K.In s.heap->(g us ws).length=ps.length->BindsTo s fd ⟨us,ks.zip ws⟩ (ps.zip (g us ws))
 rel:∀ {vs:List V} {us:List Value} {zs:List V} {ws:List Value},Vals vs us->Vals zs ws->Vals (gV vs zs) (g us ws)
variable{g:List Value->List Value->List Value}{gV:List V->List V->List V}
end
structure aN (N P:List Str)(sc:Scope):Prop where
 kind:sc.kind=.function
 co:sc.isCoroutine=false
 gen:sc.isGenerator=false
 nd:N.Nodup
 pre:N.take P.length=P
 par:∀x∈P,sc.names.lookup x=some .local\/sc.names.lookup x=some .cell
 U0:∀y∈sc.names,y.2≠.free
theorem CW {kindOf:Str->Option NameKind}{x:Str}:∀ {binds:List (Str×Value)} {m:Str->Option Value},(∀v,(x,v)∉binds)->bindL kindOf binds m x=m x
 |[],_,_=>rfl
 | (n,v)::r,m,h=>by
  unfold bindL;rw[CW λw hw=>h w (ky _ hw)]
  split
  ·have:x≠n:=by rintro rfl;exact h v fe
   simp[this]
  ·rfl
theorem CY {kindOf:Str->Option NameKind}{x:Str}:∀ {binds:List (Str×Value)} {m:Str->Option Value},(∀v,(x,v)∉binds)->bindC kindOf binds m x=m x
 |[],_,_=>rfl
 | (n,v)::r,m,h=>by
  unfold bindC;rw[CY λw hw=>h w (ky _ hw)]
  split
  ·rfl
  ·have:x≠n:=by rintro rfl;exact h v fe
   simp[this]
theorem CZ {kindOf:Str->Option NameKind}{x:Str}{v:Value}:∀ {P:List Str} {vs:List Value} {i:Nat} {m:Str->Option Value},P.Nodup->P[i]?=some x->vs[i]?=some v->kindOf x=some .local ->
  bindL kindOf (P.zip vs) m x=some v
 |[],_,_,_,_,h,_,_=>by simp at h
 |_::_,[],_,_,_,_,h,_=>by simp at h
 |p::P,w::vs,0,m,nd,h1,h2,hk=>by
  simp at h1 h2;subst h1;subst h2;show bindL kindOf ((p,w)::P.zip vs) m p=_;unfold bindL;rw[CW λv hv=>(List.nodup_cons.mp nd).1 (List.of_mem_zip hv).1,if_pos hk]
  simp
 |p::P,w::vs,i+1,m,nd,h1,h2,hk=>by
  show bindL kindOf ((p,w)::P.zip vs) m x=_;unfold bindL;exact CZ (i:=i) (List.nodup_cons.mp nd).2 (by simpa using h1) (by simpa using h2) hk
theorem C0 {kindOf:Str->Option NameKind}{x:Str}{v:Value}:∀ {P:List Str} {vs:List Value} {i:Nat} {m:Str->Option Value},P.Nodup->P[i]?=some x->vs[i]?=some v->kindOf x≠some .local ->
  bindC kindOf (P.zip vs) m x=some v
 |[],_,_,_,_,h,_,_=>by simp at h
 |_::_,[],_,_,_,_,h,_=>by simp at h
 |p::P,w::vs,0,m,nd,h1,h2,hk=>by
  simp at h1 h2;subst h1;subst h2;show bindC kindOf ((p,w)::P.zip vs) m p=_;unfold bindC;rw[CY λv hv=>(List.nodup_cons.mp nd).1 (List.of_mem_zip hv).1,if_neg hk]
  simp
 |p::P,w::vs,i+1,m,nd,h1,h2,hk=>by
  show bindC kindOf ((p,w)::P.zip vs) m x=_;unfold bindC;exact C0 (i:=i) (List.nodup_cons.mp nd).2 (by simpa using h1) (by simpa using h2) hk
def start (N:List Str)(vs:List V):St:=vs.map some++List.replicate (N.length - vs.length) none
def bG (CX:CXT)(P:sr)(w:World)(K:bo)(mg:Str->Option Value)(base:Heap)(N:List Str)(qual:Str)(scope:Scope)(f:Addr)(cd:Value)(A:Around)(outer:List Env)(s:Shared)(H:Hp)(E:XK):Cx where
 prog:=P
 w:=w
 K:=K
 mg:=mg
 base:=base
 A:=A.deeper (envOfC qual scope s.heap.objs.size f cd)
 N:=N
 s₀:=s
 H₀:=H
 env:=envOfC qual scope s.heap.objs.size f cd
 outer:=outer
 stack:=envOfC qual scope s.heap.objs.size f cd::outer
 ex:=[]
 calm:=true
 fn:=λ_=>true
 pn:=[]
 xe:=λe s'=>wpAny (model P w) (A.deeper (envOfC qual scope s.heap.objs.size f cd)) (leaving (envOfC qual scope s.heap.objs.size f cd) e) (λ_ s''=>CX outer H s E e s'') (λe' s''=>CX outer H s E e' s'') s'
theorem Fw {sc:Scope}{n:Nat}{x:Str}(h:sc.names.lookup x=some .cell):∃c,(cellsFrom n sc.names []).lookup x=some c:=by
 have q:=PySem.W.cellsFrom_some sc.names n [] (.inl h);exact Option.isSome_iff_exists.mp q
theorem Md {CX:CXT}{P:sr}{w:World}{K:bo}{mg:Str->Option Value}{base:Heap}{N ps:List Str}{qual:Str}{scope:Scope}{f:Addr}{cd:Value}{A:Around}{outer:List Env}{s s1:Shared}{H:Hp}{E:XK}{us:List Value}{vs:List V}
  (S:aN N ps scope) (hd:A.handled=none) (e0:Cs P w K mg base A outer s H) (hl:vs.length=ps.length) (r:Vals vs us)
  (x:InCallC s s.heap.objs.size (bindL (envOfC qual scope s.heap.objs.size f cd).kindOf (ps.zip us) λ_=>none) (cellsFrom (s.heap.objs.size+1) scope.names []) (bindC (envOfC qual scope s.heap.objs.size f cd).kindOf (ps.zip us) λ_=>none) s1) :
  Inv (bG CX P w K mg base N qual scope f cd A outer s H E) [] (start N vs) H s1:=by
 have hpl:ps.length<=N.length:=by have:=congrArg akT S.pre;rw[akF]at this;omega
 obtain⟨h1,tk,rfl,hk⟩:=x.done;have noA:∀b:Addr,b∉(bG CX P w K mg base N qual scope f cd A outer s H E).ex:=λb z=>absurd (show b∈([]:List Addr) from z) (by simp)
 refine⟨⟨e0.mod,S.kind,rfl,rfl,kq _,λy z c h1 h2=>?_,λy hy=>?_,λy c _ h=>?_,λ_=>hd,Around.frames_deeper e0.frames,.inr ⟨rfl,rfl⟩,λb z=>absurd z (noA b),e0.bs,e0.bsz,λb _ _=>noA b,λb z=>absurd z (noA b),e0.uJ,e0.frf⟩,
  rfl,e0.bare,Un.kept hk,⟨_,x.toInCall.ns,λi y v h1 h2 h3=>?_⟩,λy c h=>⟨_,x.cell y c h⟩,e0.hok.fresh (kq _),λy c h=>?_,λp hp=>absurd (show p∈([]:List (Addr×Obj)) from hp) (by simp),e0.hok.kept hk,?_⟩
 ·exact name_of_addr x.apart (ak3 h1) (ak3 h2)
 ·have hy:scope.names.lookup y=some .cell\/scope.names.lookup y=some .free:=hy;rcases hy with hy | hy
  ·exact Fw hy
  ·exact absurd rfl (S.U0 _ (ak3 hy))
 ·exact Nat.le_of_lt (x.above y c (ak3 h))
 ·have hi:i < vs.length:=by
   unfold start at h2
   by_cases hi:i < vs.length
   ·exact hi
   ·rw[List.getElem?_append_right (by simpa using hi)]at h2
    rw[List.getElem?_replicate]at h2;split at h2 <;> cases h2
  have ha:vs[i]?=some v:=by
   unfold start at h2;rw[List.getElem?_append_left (by simpa using hi),aj7]at h2
   cases e:vs[i]? with
   |none=>rw[e]at h2;cases h2
   |some a=>rw[e]at h2;cases h2;rfl
  obtain⟨u,hu,rv⟩:=r.get ha;have hp:ps[i]?=some y:=by
   rw[<-S.pre,List.getElem?_take_of_lt (by omega)];exact h1
  have ndP:ps.Nodup:=by rw[<-S.pre];exact S.nd.sublist (List.take_sublist _ _)
  refine⟨u,rv,?_⟩;rcases S.par y (akl hp) with k | k
  ·exact .inl ⟨k,CZ ndP hp hu k⟩
  ·obtain⟨c,e⟩:=Fw (n:=s.heap.objs.size+1) k;refine .inr ⟨.inl k,c,e,?_⟩;have q:=x.cell y c e;rw[C0 ndP hp hu (by show scope.names.lookup y≠_;rw[k];decide)]at q
   exact q
 ·exact e0.hok.fresh (Nat.le_of_lt (x.above y c (ak3 h)))
 ·unfold start;show _=N.length;rw[me,ba,List.length_replicate];omega
theorem Td {CX:CXT}{P:sr}{w:World}{K:bo}{mg:Str->Option Value}{base:Heap}{k:Nat}{f:Addr}{name qual:Str}{params:Arguments}{body:List Stmt}{scope:Scope}{dV kV doc pm cdv ct oc:Value}{an od:Option Addr}
  {osl:Array (Option Value)} {N ps:List Str} {sp:Sp} (lk:K.lookup f=some ⟨oc,od,.func (eg name qual params body scope dV kV doc pm an cdv ct),osl⟩) (hcd:de K cdv qual=true) (S:aN N ps scope)
  (len:∀vs H Q E,sp vs H Q E->vs.length=ps.length)
  (Fx:∀(A:Around) (outer:List Env) (s:Shared) (H:Hp) (vs:List V) (Q:VK) (E:XK),Room k (A.deeper (envOfC qual scope s.heap.objs.size f cdv))->sp vs H Q E ->
   ∃t,PSs (bG CX P w K mg base N qual scope f cdv A outer s H E) body t/\t { nx:=λ_ H'=>Q .non H',rt:=Q } (start N vs) H) :
  a7 P w K mg base CX (k+1) f (eg name qual params body scope dV kV doc pm an cdv ct) ps sp:=by
 refine⟨len,λA outer s H args us vs Q E hr e0 hb r hsp=>?_⟩
 have hl:=len _ _ _ _ hsp;have KX:K.In s.heap:=e0.mod.kin.keeps λb o e=>(e0.bs b o e).1
 have lim:s.heap.NoLimit:=e0.mod.nolimit.keeps λb o e=>(e0.bs b o e).1
 have ZK:∀y∈ps.zip us,scope.names.lookup y.1=some .local\/(scope.names.lookup y.1=some .cell/\((cellsFrom (s.heap.objs.size+1) scope.names []).lookup y.1).isSome=true):=λ⟨n,v⟩ hy=>by
  rcases S.par n (List.of_mem_zip hy).1 with q | q
  ·exact .inl q
  ·exact .inr ⟨q,PySem.W.cellsFrom_some _ _ _ (.inl q)⟩
 refine codeAny_call_function hr.depth (KX _ _ lk) rfl S.co S.gen rfl (PySem.W.codeRec_of KX hcd) (hb _ _ _ _ ?_);refine wpAny_newFunctionEnv_cells S.kind ZK λenv he s1 x=>?_
 subst he;refine⟨lim.keeps x.toInCall.keep,codeAny_func ?_⟩;obtain⟨t,ht,hq⟩:=Fx A outer s H vs Q E (hr.deeper _) hsp;have I:Inv (bG CX P w K mg base N qual scope f cdv A outer s H E) [] (start N vs) H s1:=Md S hr.hd e0 hl r x;refine aki (ht [] s1 (start N vs) H _ I hq) (λfl s' hs=>?_) λe s' hs=>hs
 have fin:∀ {σ':St} {H':Hp} {v:V} {u:Value},Inv (bG CX P w K mg base N qual scope f cdv A outer s H E) [] σ' H' s'->RelV v u->Q v H'->CE outer P w H s Q u s' :=
  λ{σ' H' v u} J rv q=>⟨v,H',J.os,J.bare,J.base,J.hok,rv,q⟩
 cases fl with
 |ret u =>
  obtain⟨v,σ',H',J,rv,q⟩:=hs;exact fin J rv q
 |next =>
  obtain⟨σ',H',J,q⟩:=hs;exact fin (v:=V.non) (u:=alm) J rfl q
 |brk =>
  obtain⟨_,_,_,q⟩:=hs;exact akr q
 |cont =>
  obtain⟨_,_,_,q⟩:=hs;exact akr q
section
variable{X:Cx}{x:Str}{p pos:Pos}{e:Expr}{es:List Expr}{t:TA}{id T:String}{r:List V->Hp->VK->Prop}
def tCB (r:List V->Hp->VK->Prop)(t:TA):TE:=λσ H Q=>t σ H λvs H1=>r vs H1 Q
theorem cD (hc:lF X (.builtin id) r)(hg:Gl X x)(hm:X.mg x=none)(hv:ak2 x=some (.builtin id))(ha:PA X (e::es) t)(hn:x≠"__name__":=by decide)(hdb:(x == ("__debug__":Str))=false:=by decide)
  (he:aj0 (e::es) X.env=(false,eval e X.env)::aj0 es X.env:=by rfl) (hpl:(backTo pos (aj0 es X.env)).any (·.1)=false:=by rfl):PE X (.Call (.Name x p) (e::es) [] pos) (tCB r t):=by
 intro pins s σ H Q I h;refine wpAny_Call_Name_kw (IT I hg hm hv ?_ hn hdb);exact PyProof.Rows.callWith_builtin1 (thn (ha pos pins s σ H _ I h) λus s1 ⟨vs,H1,I1,r1,q1⟩=>hc pins s1 σ H1 vs us Q I1 r1 q1) he hpl
theorem cE (hc:lF X (.type T) r)(hg:Gl X x)(hm:X.mg x=none)(hv:ak2 x=some (.type T))(ha:PA X (e::es) t)(hn:x≠"__name__":=by decide)(hdb:(x == ("__debug__":Str))=false:=by decide)
  (he:aj0 (e::es) X.env=(false,eval e X.env)::aj0 es X.env:=by rfl) (hpl:(backTo pos (aj0 es X.env)).any (·.1)=false:=by rfl):PE X (.Call (.Name x p) (e::es) [] pos) (tCB r t):=by
 intro pins s σ H Q I h;refine wpAny_Call_Name_kw (IT I hg hm hv ?_ hn hdb);exact PyProof.Rows.callWith_type1 (thn (ha pos pins s σ H _ I h) λus s1 ⟨vs,H1,I1,r1,q1⟩=>hc pins s1 σ H1 vs us Q I1 r1 q1) he hpl
end
end L2
namespace HT
open PySem PyProof.Rows
section
open PySem.SeqAt
open PySem.AutoSeq1 (wpAny_loadPart')
open PySem.MeetsSeq PySem.MeetsSeq2 PySem.MeetsSeq3
end
section
variable{prog:sr}{w:World}{A:Around}{E:Value->Shared->Prop}{s:Shared}
theorem QR {t b:Addr}{vs ws:List Value}{Q:Value->Shared->Prop}(ht:IsTup s.heap t vs.toArray)(hb:IsTup s.heap b ws.toArray)(hv:vs≠[])
  (h1:ws=[]->Q (.ref t) s) (h2:ws≠[]->Q (.ref s.heap.objs.size) { s with heap:=s.heap.push { cls:=.type "tuple",data:=.seq (vs++ws).toArray } })
  (hsz:vs.length+ws.length<=gr):wpAny (model prog w) A (binaryOp .Add (.ref t) (.ref b)) Q E s:=by
 obtain⟨⟨cls,dd,data,sl⟩,ho,hc,n,hd⟩:=id ht;obtain⟨⟨ajT,dd2,data2,sl2⟩,ho2,hc2,n2,hd2⟩:=id hb;simp only at hc hd hc2 hd2;subst hc hd hc2 hd2;have e:vs.toArray++ws.toArray=(vs++ws).toArray:=by simp
 by_cases hw:ws=[]
 ·exact concat_meets ⟨_,ho,rfl⟩ ⟨_,ho2,rfl⟩ noFill_tuple_add seq_tuple_add PySem.F.slot_tuple_add PySem.F.entry_tuple_add (PySem.F.args_tuple_add_2 _ _)
   (tuple_addW1 t b vs.toArray ws.toArray n n2 dd dd2 sl sl2 (by simpa using hv) (by simp[hw])) ⟨ho,ho2,h1 hw⟩
 ·refine concat_meets ⟨_,ho,rfl⟩ ⟨_,ho2,rfl⟩ noFill_tuple_add seq_tuple_add PySem.F.slot_tuple_add PySem.F.entry_tuple_add (PySem.F.args_tuple_add_2 _ _)
   (tuple_addW2 t b vs.toArray ws.toArray n n2 dd dd2 sl sl2 (by simpa using hv) (by simpa using hw) (by rw[ku,ku];exact hsz)) ⟨ho,ho2,?_⟩
  rw[e];exact h2 hw
def sIx (n d:Nat):Option Int->Nat
 |none=>d
 |some v=>if v < 0 then (v+(n:Int)).toNat else min v.toNat n
theorem Fy (n d:Nat):sIx n d none=d:=rfl
theorem vP (n d k:Nat):sIx n d (some (k:Int))=min k n:=by
 show (if (k:Int) < 0 then ((k:Int)+(n:Int)).toNat else min (k:Int).toNat n)=min k n
 rw[if_neg (by omega),Int.toNat_natCast]
theorem U4 (n d:Nat)(hd:d<=n)(o:Option Int):sIx n d o<=n:=by
 cases o with
 |none=>exact hd
 |some v =>
  show (if v < 0 then (v+(n:Int)).toNat else min v.toNat n)<=n
  by_cases hv:v < 0
  ·rw[if_pos hv];omega
  ·rw[if_neg hv];exact Nat.min_le_right _ _
theorem Lm (v:Int)(n d:Nat):(if v < 0 then max (v+(n:Int)) 0 else min v (n:Int))=((sIx n d (some v):Nat):Int):=by
 show (if v < 0 then max (v+(n:Int)) 0 else min v (n:Int))=(((if v < 0 then (v+(n:Int)).toNat else min v.toNat n):Nat):Int)
 by_cases hv:v < 0
 ·simp only[if_pos hv];omega
 ·simp only[if_neg hv];omega
theorem Jg (lo hi:Option Int)(n:Nat):Builtin.Slice.sliceAdjust lo hi 1 (n:Int)=(((sIx n 0 lo:Nat):Int),((sIx n n hi:Nat):Int)):=by
 have h1:¬((1:Int) < 0):=by omega
 unfold Builtin.Slice.sliceAdjust;simp only[h1,if_false];refine Prod.ext ?_ ?_
 ·cases lo with
  |none=>rfl
  |some v=>exact Lm v n 0
 ·cases hi with
  |none=>rfl
  |some v=>exact Lm v n n
theorem Jh (i j:Nat):alk (i:Int) (j:Int) 1=j - i:=by
 unfold alk;have h1:(1:Int) > 0:=by omega
 simp only[h1,if_true,Int.ediv_one];split <;> omega
theorem AI {v:Value}{o:Option Int}{Q:Option Int->Shared->Prop}(p:IsPart v o)(h:Q o s):wpAny (model prog w) A (Builtin.Slice.slicePartIndex v) Q E s:=by
 cases p with
 |none=>exact slicePart_none h
 |int i t=>exact slicePart_int h
theorem xF {sl:Addr}{vl vu:Value}{lo hi:Option Int}{n:Nat}{Q:Int×Int×Nat->Shared->Prop}(hs:s.heap.IsSliceOf sl vl vu .none)(pl:IsPart vl lo)(pu:IsPart vu hi)
  (h:Q (((sIx n 0 lo:Nat):Int),1,sIx n n hi - sIx n 0 lo) s):wpAny (model prog w) A (Builtin.Slice.sliceApplied (.ref sl) (pure (n:Int))) Q E s:=by
 obtain⟨os,hos,hcs,hds⟩:=id hs;unfold Builtin.Slice.sliceApplied Builtin.Slice.sliceFields;refine fu (fu (wpAny_field hos hds (x:=vl) rfl (fu (wpAny_field hos hds (x:=vu) rfl (fu (wpAny_field hos hds (x:=.none) rfl (ajY ?_)))))));refine fu (slicePart_none ?_);show wpAny _ _ (if ((1:Int) == 0)=true then _ else _) _ _ s
 rw[if_neg (by decide)]
 refine fu (AI pl (fu (AI pu (fu (ajY ?_)))));show wpAny _ _ (match Builtin.Slice.sliceAdjust lo hi 1 (n:Int) with | (lo,hi)=>pure (lo,(1:Int),alk lo hi 1)) _ _ s
 rw[Jg lo hi n];show wpAny _ _ (pure (((sIx n 0 lo:Nat):Int),(1:Int),alk ((sIx n 0 lo:Nat):Int) ((sIx n n hi:Nat):Int) 1)) _ _ s;rw[Jh];exact ajY h
theorem NH (xs:Array Value)(i k:Nat):((List.range k).filterMap λ(m:Nat)=>xs[((i:Int)+(m:Int) * 1).toNat]?).toArray=((xs.toList.drop i).take k).toArray:=by
 have e:(λ(m:Nat)=>xs[((i:Int)+(m:Int) * 1).toNat]?)=λm=>xs[i+m]?:=by
  funext m
  have:((i:Int)+(m:Int) * 1).toNat=i+m:=by omega
  rw[this]
 rw[e];have:=pick_run xs i k;rw[List.filterMap_map]at this;have e2:((λx=>xs[x]?)∘λx=>i+x)=λm=>xs[i+m]?:=rfl
 rw[e2]at this;rw[this]
theorem vQ {t sl:Addr}{items:Array Value}{vl vu:Value}{lo hi:Option Int}{Q:Value->Shared->Prop}(ht:IsTup s.heap t items)(hs:s.heap.IsSliceOf sl vl vu .none)(pl:IsPart vl lo)(pu:IsPart vu hi)
  (hw:¬(sIx items.size 0 lo=0/\sIx items.size items.size hi=items.size))
  (h:Q (.ref s.heap.objs.size) { s with heap:=s.heap.push { cls:=.type "tuple",data:=.seq ((items.toList.drop (sIx items.size 0 lo)).take (sIx items.size items.size hi - sIx items.size 0 lo)).toArray } })
  (hsz:items.size<=gr):wpAny (model prog w) A (getItem (.ref t) (.ref sl)) Q E s:=by
 have Ln:sizeOk (.seq ((items.toList.drop (sIx items.size 0 lo)).take (sIx items.size items.size hi - sIx items.size 0 lo)).toArray):=by
  show ((items.toList.drop (sIx items.size 0 lo)).take (sIx items.size items.size hi - sIx items.size 0 lo)).toArray.size<=gr;rw[ku,akF,alg,alc];omega
 have hj:sIx items.size items.size hi<=items.size:=U4 _ _ (kq _) hi;obtain⟨os,hos,hcs,hds⟩:=id hs;have hTs:s.TypeIs (.ref sl) "slice":=⟨os,hos,hcs⟩;unfold getItem
 try with_reducible refine wpAny_holding ?_
 first | refine fu (ajY ?_) | skip
 refine fu (wpAny_sequenceKey ht.typeIs (by decide) ?_)
 refine fu (wpAny_callSpecial?_slot (name:=ar "__getitem__") ht.typeIs PyProof.Rows.slot_tuple_getitem
  (wpAny_call_entry PyProof.Rows.slot_tuple_getitem ht.typeIs entry_tuple_getitem ?_ (args_tuple_getitem _ _)))
 show wpAny _ _ (Builtin.Tuple.tupleItemsOf (.ref t) >>= _) _ _ s;refine fu (tupleItemsOf_ ht ?_);refine fu (wpAny_typeOf hTs ?_);rw[if_pos (by decide)]
 refine fu (xF hs pl pu ?_);have hno:¬((((sIx items.size 0 lo:Nat):Int) == 0 && (1:Int) == 1 && (sIx items.size items.size hi - sIx items.size 0 lo) == items.size)=true):=by
  intro q;rw[akG,akG]at q;have q1:((sIx items.size 0 lo:Nat):Int)=0:=eq_of_beq q.1.1;have q2:sIx items.size items.size hi - sIx items.size 0 lo=items.size:=eq_of_beq q.2;exact hw ⟨by omega,by omega⟩
 show wpAny _ _ (if (((sIx items.size 0 lo:Nat):Int) == 0 && (1:Int) == 1 && (sIx items.size items.size hi - sIx items.size 0 lo) == items.size)=true then _ else _) _ _ s
 rw[if_neg hno,NH]
 first
  |exact fu (m:=aln _) (wpAny_newObj_type (ajY ⟨_,rfl,ajY h⟩) Ln)
  |exact fu (m:=aln _) (wpAny_newObj_type (fu (ajY (ajY ⟨_,rfl,ajY h⟩))) Ln)
  |exact fu (fu (m:=aln _) (wpAny_newObj_type (ajY (ajY ⟨_,rfl,ajY h⟩)) Ln))
  |exact fu (fu (m:=aln _) (wpAny_newObj_type (ajY ⟨_,rfl,ajY h⟩) Ln))
end
end HT
namespace L2
open PySem PySem.Spec PyProof.Rows
abbrev TO:=St->Hp->(Option Int->Hp->Prop)->Prop
def PO (X:Cx)(e:Option Expr)(t:TO):Prop :=
 ∀(pins:List (Addr×Obj)) (s:Shared) (σ:St) (H:Hp) (Q:Option Int->Hp->Prop),Inv X pins σ H s->t σ H Q ->
  wpAny (model X.prog X.w) X.A (evalPart e X.env) (λu s'=>∃o H',Inv X pins σ H' s'/\IsPart u o/\Q o H') X.xe s
def QS:TO:=λ_ H Q=>Q none H
def ZL (t:TE):TO:=λσ H Q=>t σ H λx H1=>∃i,x=.int i/\Q (some i) H1
section
variable{X:Cx}{e:Expr}{te:TE}{lo hi:Option Expr}{tl th:TO}{pos p2:Pos}
theorem vR:PO X none QS:=by
 intro pins s σ H Q I h;rw[evalPart_none];exact ajY ⟨none,H,I,.none,h⟩
theorem qB (h:PE X e te):PO X (some e) (ZL te):=by
 intro pins s σ H Q I hw;rw[evalPart_some];refine thn (h pins s σ H _ I hw) λu s1 ⟨x,H1,I1,r1,q1⟩=>?_
 obtain⟨i,rfl,q⟩:=q1;obtain⟨t,rfl⟩:=r1;exact⟨some i,H1,I1,.int i t,q⟩
def SlR (X:Cx)(r:V->Option Int->Option Int->Hp->VK->Prop):Prop :=
 ∀(pins:List (Addr×Obj)) (s:Shared) (σ:St) (H:Hp) (x:V) (v vl vu:Value) (lo hi:Option Int) (sl:Addr) (Q:VK),Inv X pins σ H s->RelV x v->s.heap.IsSliceOf sl vl vu .none->IsPart vl lo->IsPart vu hi->r x lo hi H Q ->
  ∃T id,typeLookup (.type T) "__getitem__"=pure (some (.builtin id))/\s.TypeIs v T/\wpAny (model X.prog X.w) X.A (getItem v (.ref sl)) (EP X pins σ Q) X.xe s
theorem SlR.or {r r':V->Option Int->Option Int->Hp->VK->Prop}(h:SlR X r)(h':SlR X r'):SlR X (λx lo hi H Q=>r x lo hi H Q\/r' x lo hi H Q):=by
 intro pins s σ H x v vl vu lo hi sl Q I rx hs pl pu q;rcases q with q | q
 ·exact h pins s σ H x v vl vu lo hi sl Q I rx hs pl pu q
 ·exact h' pins s σ H x v vl vu lo hi sl Q I rx hs pl pu q
def tSl (r:V->Option Int->Option Int->Hp->VK->Prop)(te:TE)(tl th:TO):TE:=λσ H Q=>te σ H λx H1=>tl σ H1 λl H2=>th σ H2 λu H3=>r x l u H3 Q
theorem pf {r:V->Option Int->Option Int->Hp->VK->Prop}(hr:SlR X r)(he:PE X e te)(hl:PO X lo tl)(hu:PO X hi th):PE X (.Subscript e (.Slice lo hi none p2) pos) (tSl r te tl th):=by
 intro pins s σ H Q I h;refine Subscript_ (thn (he pins s σ H _ I h) λv s1 ⟨x,H1,I1,r1,q1⟩=>?_)
 refine wpAny_Slice (thn (hl pins s1 σ H1 _ I1 q1) λvl s2 ⟨l,H2,I2,pl,q2⟩=>thn (hu pins s2 σ H2 _ I2 q2) λvu s3 ⟨u,H3,I3,pu,q3⟩=>?_)
 rw[evalPart_none];refine ajY ?_;have I4:Inv X pins σ H3 { s3 with heap:=s3.heap.push { cls:=.type "slice",data:=.fields #[vl,vu,.none] } }:=I3.kept (t':=s3.toks) λb ob q=>kg _ q
 obtain⟨T,id,hT,ht,hg⟩:=hr pins { s3 with heap:=s3.heap.push { cls:=.type "slice",data:=.fields #[vl,vu,.none] } } σ H3 x v vl vu l u s3.heap.objs.size Q I4 r1 (Heap.IsSliceOf.new ..) pl pu q3
 show wpAny (model X.prog X.w) X.A (subscriptTail e (.Slice lo hi none p2) v (.ref s3.heap.objs.size)) (EP X pins σ Q) X.xe { s3 with heap:=s3.heap.push { cls:=.type "slice",data:=.fields #[vl,vu,.none] } }
 exact tail_any (ops:=[.ref s3.heap.objs.size,v]) ht hT hg (by with_unfolding_all rfl)
def gy (xs:List V)(lo hi:Option Int):List V:=(xs.drop (HT.sIx xs.length 0 lo)).take (HT.sIx xs.length xs.length hi - HT.sIx xs.length 0 lo)
theorem iE (xs:List V)(lo hi:Option Int):(gy xs lo hi).length<=xs.length:=by
 unfold gy;rw[akF,alg];omega
def ahz (K:bo):V->Option Int->Option Int->Hp->VK->Prop:=λx lo hi H Q=>∃a xs,x=.ref a/\SqT K H a xs /\
 ¬(HT.sIx xs.length 0 lo=0/\HT.sIx xs.length xs.length hi=xs.length)/\∀p,H p=none->Q (.ref p) (upd H p (.tup (gy xs lo hi)))
theorem U5:SlR X (ahz X.K):=by
 intro pins s σ H x v vl vu lo hi sl Q I rx hs pl pu h;obtain⟨a,xs,rfl,hx,hw,q⟩:=h;cases rx;obtain⟨its,r,ht,hz⟩:=I.tuple hx;have hlen:its.toArray.size=xs.length:=by rw[ku];exact r.length.symm
 refine⟨"tuple",_,PyProof.Rows.slot_tuple_getitem.lookup,ht.typeIs,?_⟩;refine HT.vQ ht hs pl pu (by rw[hlen];exact hw) ?_ (by rw[hlen];exact hz)
 rw[hlen];refine⟨.ref s.heap.objs.size,_,I.laid (t':=s.toks) (o:=.tup (gy xs lo hi)) (λb ob q=>kg _ q) (kq _) ?_,rfl,q _ (I.hok.fresh (kq _))⟩
 exact⟨adm (iE xs lo hi) hz,_,(r.drop (HT.sIx xs.length 0 lo)).take (HT.sIx xs.length xs.length hi - HT.sIx xs.length 0 lo),IsTup.new _ _⟩
def ZM (K:bo):R2:=λx y H Q=>∃a b xs ys,x=.ref a/\y=.ref b/\SqT K H a xs/\SqT K H b ys/\xs≠[]/\xs.length+ys.length<=gr /\
 (ys=[]->Q (.ref a) H)/\(ys≠[]->∀p,H p=none->Q (.ref p) (upd H p (.tup (xs++ys))))
theorem Vals.D7 {xs:List V}{us:List Value}(r:Vals xs us):us=[]↔xs=[]:=by
 cases r with
 |nil=>simp
 |cons _ _=>simp
theorem QT:OpR X (binaryOp .Add) (ZM X.K):=by
 intro pins s σ H x y v u Q I rx ry h;obtain⟨a,b,xs,ys,rfl,rfl,ha,hb,hx,hz,q1,q2⟩:=h;cases rx;cases ry;obtain⟨its,r1,p1,_⟩:=I.tuple ha;obtain⟨Fz,r2,p2,_⟩:=I.tuple hb;refine HT.QR p1 p2 (λz=>hx (r1.D7.mp z)) (λz=>⟨.ref a,H,I,rfl,q1 (r2.D7.mp z)⟩) (λz=>?_) (by rw[<-r1.length,<-r2.length];exact hz)
 refine⟨.ref s.heap.objs.size,_,I.laid (t':=s.toks) (o:=.tup (xs++ys)) (λb ob q=>kg _ q) (kq _) ?_,rfl,q2 (λw=>z (r2.D7.mpr w)) _ (I.hok.fresh (kq _))⟩
 exact⟨by rw[me];exact hz,_,r1.append r2,IsTup.new _ _⟩
end
def ixN (n:Nat)(i:Int):Option Nat:=if 0<=i then (if i < n then some i.toNat else none) else if -(n:Int)<=i then some (i+n).toNat else none
def atI {α:Type}(xs:List α)(i:Int):Option α:=(ixN xs.length i).bind λj=>xs[j]?
theorem D8 {n:Nat}{i:Int}{j:Nat}(h:ixN n i=some j):seqIndex? i n=some j/\j < n/\-(n:Int)<=i/\i < n:=by
 unfold ixN at h
 by_cases h0:0<=i
 ·rw[if_pos h0]at h
  by_cases h1:i < n
  ·rw[if_pos h1]at h;have e:i.toNat=j:=ajZ h;exact⟨by rw[seqIndex_of h0 h1,e],by omega,by omega,h1⟩
  ·rw[if_neg h1]at h;cases h
 ·rw[if_neg h0]at h
  by_cases h1:-(n:Int)<=i
  ·rw[if_pos h1]at h;have e:(i+n).toNat=j:=ajZ h;exact⟨by rw[seqIndex_neg (by omega) h1,e],by omega,h1,by omega⟩
  ·rw[if_neg h1]at h;cases h
theorem D9 {α:Type}{xs:List α}{i:Int}{v:α}(h:atI xs i=some v):∃j,seqIndex? i xs.length=some j/\xs[j]?=some v/\j < xs.length/\-(xs.length:Int)<=i/\i < xs.length:=by
 unfold atI at h;cases e:ixN xs.length i with
 |none=>rw[e]at h;cases h
 |some j =>
  rw[e]at h;obtain⟨h1,h2,h3,h4⟩:=D8 e;exact⟨j,h1,h,h2,h3,h4⟩
theorem dI {α:Type}{xs:List α}{j:Nat}{v:α}(h:xs[j]?=some v):atI xs (j:Int)=some v:=by
 have hj:j < xs.length:=(List.getElem?_eq_some_iff.mp h).1;have e:ixN xs.length (j:Int)=some j:=by
  unfold ixN;rw[if_pos (by omega),if_pos (by omega)];simp
 unfold atI;rw[e];exact h
theorem ic {α:Type}(xs:List α)(v:α):atI (xs++[v]) (-1)=some v:=by
 have hl:(xs++[v]).length=xs.length+1:=by simp
 have e:ixN (xs++[v]).length (-1)=some xs.length:=by
  unfold ixN;rw[hl,if_neg (by decide),if_pos (by omega)]
  congr 1
  omega
 unfold atI;rw[e];show (xs++[v])[xs.length]?=some v;simp
def QU (b:Expr):Prop:=∀o i,subscripted b false o i=operate [o,i] (getItem o i)
def IxR (X:Cx)(r:R2):Prop :=
 ∀(value slice:Expr) (pins:List (Addr×Obj)) (s:Shared) (σ:St) (H:Hp) (x y:V) (v u:Value) (Q:VK),Inv X pins σ H s->RelV x v->RelV y u->r x y H Q ->
  subscripted slice false v u=operate [v,u] (getItem v u)->wpAny (model X.prog X.w) X.A (subscriptTail value slice v u) (EP X pins σ Q) X.xe s
def MtR (X:Cx)(id:String)(r:V->List V->Hp->VK->Prop):Prop :=
 ∀(pins:List (Addr×Obj)) (s:Shared) (σ:St) (H:Hp) (x:V) (xs:List V) (v:Value) (us:List Value) (Q:VK),Inv X pins σ H s->RelV x v->Vals xs us->r x xs H Q ->
  wpAny (model X.prog X.w) X.A (call (.builtin id) (v::us)) (EP X pins σ Q) X.xe s
section
variable{X:Cx}{a b:Expr}{ta tb:TE}{pos:Pos}
theorem IxR.or {r r':R2}(h:IxR X r)(h':IxR X r'):IxR X (λx y H Q=>r x y H Q\/r' x y H Q):=by
 intro value slice pins s σ H x y v u Q I rx ry q hs;rcases q with q | q
 ·exact h value slice pins s σ H x y v u Q I rx ry q hs
 ·exact h' value slice pins s σ H x y v u Q I rx ry q hs
theorem MtR.or {id:String}{r r':V->List V->Hp->VK->Prop}(h:MtR X id r)(h':MtR X id r'):MtR X id (λx xs H Q=>r x xs H Q\/r' x xs H Q):=by
 intro pins s σ H x xs v us Q I rx rs q;rcases q with q | q
 ·exact h pins s σ H x xs v us Q I rx rs q
 ·exact h' pins s σ H x xs v us Q I rx rs q
theorem aS {r:R2}(hr:IxR X r)(ha:PE X a ta)(hb:PE X b tb)(hs:QU b):PE X (.Subscript a b pos) (tOp r ta tb):=by
 intro pins s σ H Q I h;exact Subscript_ (UT ha hb I h λv u s2 x y H2 I2 rx ry q=>hr a b pins s2 σ H2 x y v u Q I2 rx ry q (hs _ _))
def ZN (K:bo):R2:=λx y H Q=>∃p xs i v,x=.ref p/\y=.int i/\SqL K H p xs/\atI xs i=some v/\Q v H
def ZO (K:bo):R2:=λx y H Q=>∃p xs i v,x=.ref p/\y=.int i/\SqT K H p xs/\atI xs i=some v/\Q v H
def ZP:R2:=λx y H Q=>∃z i c,x=.str z/\y=.int i/\z.length<=gr/\atI z.cps.toList i=some c/\Q (.str ⟨#[c]⟩) H
theorem bA:IxR X (ZN X.K):=by
 intro value slice pins s σ H x y v u Q I rx ry h hs;obtain⟨p,xs,i,z,rfl,rfl,hq,he,q⟩:=h;cases rx;obtain⟨t,rfl⟩:=ry;obtain⟨its,r,pl,hz⟩:=I.list hq;obtain⟨j,h1,h2,h3,h4,h5⟩:=D9 he;obtain⟨w,ew,rw'⟩:=r.get h2;have hl:=r.length;have hn:=uK;have fin:EP X pins σ Q w s:=⟨z,H,I,rw',q⟩
 by_cases h0:0<=i
 ·have hj:i.toNat=j:=by
   rw[seqIndex_of h0 h5]at h1;exact ajZ h1
  exact item_listR pl.isList h0 (by omega) (by rw[hj];simpa using ew) fin hs
 ·have hj:(i+(its.toArray.size:Int)).toNat=j:=by
   rw[seqIndex_neg (by omega) h4]at h1
   rw[ku,<-hl];exact ajZ h1
  exact subscriptTail_builtinR (x:=w) pl.isList.typeIs slot_list_getitem.lookup
   (wpAny_getItem_list_neg (Q:=λr s'=>r=w/\EP X pins σ Q r s') pl.isList (by omega) (by rw[ku] <;> omega) (by omega) (by rw[hj];simpa using ew) ⟨rfl,fin⟩) hs
theorem aU:IxR X (ZO X.K):=by
 intro value slice pins s σ H x y v u Q I rx ry h hs;obtain⟨p,xs,i,z,rfl,rfl,hq,he,q⟩:=h;cases rx;obtain⟨t,rfl⟩:=ry;obtain⟨its,r,pl,hz⟩:=I.tuple hq;obtain⟨j,h1,h2,h3,h4,h5⟩:=D9 he;obtain⟨w,ew,rw'⟩:=r.get h2;have hl:=r.length;have hn:=uK;have fin:EP X pins σ Q w s:=⟨z,H,I,rw',q⟩;exact subscriptTail_builtinR (x:=w) pl.typeIs slot_tuple_getitem.lookup
  (getItem_tuple (j:=j) (Q:=λr s'=>r=w/\EP X pins σ Q r s') pl (by omega) (by omega) (by rw[ku,<-hl];exact h1) (by simpa using ew) ⟨rfl,fin⟩) hs
theorem Ji:IxR X ZP:=by
 intro value slice pins s σ H x y v u Q I rx ry h hs;obtain⟨z,i,c,rfl,rfl,hz,he,q⟩:=h;obtain⟨t,rfl⟩:=rx;obtain⟨t',rfl⟩:=ry;obtain⟨j,h1,h2,h3,h4,h5⟩:=D9 he;have hl:z.cps.toList.length=z.length:=by simp[Str.length]
 rw[hl]at h1 h4 h5;have hn:=uK;exact tail_any (typeIs_str s z t) slot_str_getitem.lookup (getItem_str (c:=c) (by
  have e1:decide (i < -(2 ^ 63:Int))=false:=decide_eq_false (by omega)
  have e2:decide (i≥2 ^ 63)=false:=decide_eq_false (by omega)
  rw[e1,e2,Bool.or_false]) (by rw[h1];simpa using h2) ⟨.str ⟨#[c]⟩,H,I.tok _,⟨_,rfl⟩,q⟩) hs
def rIx (K:bo):R2:=λx y H Q=>ZN K x y H Q\/ZO K x y H Q\/ZP x y H Q
theorem U6:IxR X (rIx X.K):=bA.or (aU.or Ji)
theorem Jj (its:List Value)(n j:Nat)(u:Value):Obj.mapSeq (·.setIfInBounds j u) { cls:=.type "list",data:=.seq its.toArray n }={ cls:=.type "list",data:=.seq (its.set j u).toArray n }:=by
 simp[Obj.mapSeq]
theorem Inv.lst {pins:List (Addr×Obj)}{σ:St}{H:Hp}{s:Shared}{p:Addr}{xs:List V}(I:Inv X pins σ H s)(h:H p=some (.lst xs)) :
  ∃(its:List Value) (n:Nat),Vals xs its/\s.heap.get? p=some { cls:=.type "list",data:=.seq its.toArray n }/\xs.length<=gr:=by
 obtain⟨z,its,n,r,e⟩:=I.hok p _ h;exact⟨its,n,r,e,z⟩
theorem Inv.U7 {pins:List (Addr×Obj)}{σ:St}{H:Hp}{s:Shared}{p:Addr}{xs ys:List V}{its its':List Value}{n n':Nat}{f:Obj->Obj}(I:Inv X pins σ H s)(h:H p=some (.lst xs))
  (ho:s.heap.get? p=some { cls:=.type "list",data:=.seq its.toArray n }) (hf:f { cls:=.type "list",data:=.seq its.toArray n }={ cls:=.type "list",data:=.seq its'.toArray n' }) (r:Vals ys its') (hz:ys.length<=gr) (t:Nat) :
  Inv X pins σ (upd H p (.lst ys)) { s with heap:=s.heap.update p f,toks:=t }:=by
 have e:(s.heap.update p f).get? p=some { cls:=.type "list",data:=.seq its'.toArray n' }:=by
  rw[ak7 f ho (by rw[hf] <;> rfl),hf]
 refine I.write (x:=p) (e:=p) (by rw[h];trivial) (.inl rfl) (λb u hb q=>(akJ _ _ (akp hb)).trans q) ⟨_,e⟩ ?_
 exact⟨hz,its',n',r,e⟩
def ZQ:V->V->V->Hp->(Hp->Prop)->Prop:=λo i v H Q=>∃p xs k j,o=.ref p/\i=.int k/\H p=some (.lst xs)/\ixN xs.length k=some j/\Q (upd H p (.lst (xs.set j v)))
theorem set_list:Zx X ZQ:=by
 intro pins s σ H o i v ov iv u Q I ro ri rv h;obtain⟨p,xs,k,j,rfl,rfl,hp,hj,q⟩:=h;cases ro;obtain⟨t,rfl⟩:=ri;obtain⟨its,n,r,ho,hz⟩:=I.lst hp;obtain⟨h1,h2,h3,h4⟩:=D8 hj;have hl:=r.length;have hn:=uK;have I':Inv X pins σ (upd H p (.lst (xs.set j v))) { s with heap:=s.heap.update p (Obj.mapSeq (·.setIfInBounds j u)) } :=
  I.U7 hp ho (Jj its n j u) (r.set rv j) (by rw[ak4];exact hz) s.toks
 by_cases h0:0<=k
 ·have hk:k.toNat=j:=by
   rw[seqIndex_of h0 h4]at h1;exact ajZ h1
  exact PySem.W.ki_setAt ho h0 (by omega) (by rw[ku,<-hl];exact h4) (by rw[hk];exact⟨_,I',q⟩)
 ·have hk:(k+(its.toArray.size:Int)).toNat=j:=by
   rw[seqIndex_neg (by omega) h3]at h1
   rw[ku,<-hl];exact ajZ h1
  exact PySem.W.ki_setBack ho (by omega) (by rw[ku,<-hl];exact h3) (by omega) (by rw[hk];exact⟨_,I',q⟩)
theorem Ea (lo hi:Option Int)(n:Nat):(sliceBounds lo hi none n).1=((HT.sIx n 0 lo:Nat):Int)/\(sliceBounds lo hi none n).2.1=((HT.sIx n n hi:Nat):Int)/\(sliceBounds lo hi none n).2.2=1:=by
 refine⟨?_,?_,rfl⟩
 ·cases lo with
  |none=>simp[sliceBounds,HT.sIx]
  |some i =>
   simp only[sliceBounds,HT.sIx,Option.getD_none,show (1:Int) > 0 by decide,if_true]
   by_cases h:i < 0
   ·simp only[h,if_true] <;> omega
   ·simp only[h,if_false] <;> omega
 ·cases hi with
  |none=>simp[sliceBounds,HT.sIx]
  |some i =>
   simp only[sliceBounds,HT.sIx,Option.getD_none,show (1:Int) > 0 by decide,if_true]
   by_cases h:i < 0
   ·simp only[h,if_true] <;> omega
   ·simp only[h,if_false] <;> omega
theorem Ct (its:List Value)(lo hi:Option Int):slicePick its.toArray lo hi none=((its.drop (HT.sIx its.length 0 lo)).take (HT.sIx its.length its.length hi - HT.sIx its.length 0 lo)).toArray:=by
 obtain⟨h1,h2,h3⟩:=Ea lo hi its.toArray.size;unfold slicePick;rw[h1,h2,h3];simp only[sliceRange_one,pick_run,ku] <;> rfl
def ahA (K:bo):V->Option Int->Option Int->Hp->VK->Prop:=λx lo hi H Q=>∃a xs,x=.ref a/\SqL K H a xs/\∀p,H p=none->Q (.ref p) (upd H p (.lst (gy xs lo hi)))
theorem vS:SlR X (ahA X.K):=by
 intro pins s σ H x v vl vu lo hi sl Q I rx hs pl pu h;obtain⟨a,xs,rfl,hx,q⟩:=h;cases rx;obtain⟨its,r,ht,hz⟩:=I.list hx;have hlen:=r.length;refine⟨"list",_,slot_list_getitem.lookup,ht.isList.typeIs,?_⟩;refine wpAny_getItem_list_slice ht.isList hs pl pu .none (by simp) ?_ (by rw[ku] <;> omega)
 rw[Ct,<-hlen];refine⟨.ref s.heap.objs.size,_,I.laid (t':=s.toks) (o:=.lst (gy xs lo hi)) (λb ob q=>kg _ q) (kq _) ?_,rfl,q _ (I.hok.fresh (kq _))⟩
 exact⟨adm (iE xs lo hi) hz,_,0,(r.drop (HT.sIx xs.length 0 lo)).take (HT.sIx xs.length xs.length hi - HT.sIx xs.length 0 lo),akg _ rfl⟩
def vT:V->Bool
 | .non=>true
 | .bl _=>true
 | .int _=>true
 | .str _=>true
 |_=>false
def eqV:V->V->Bool
 | .non,.non=>true
 | .bl a,.bl b=>a == b
 | .bl a,.int b=>(if a then 1 else 0) == b
 | .int a,.bl b=>a == (if b then 1 else 0)
 | .int a,.int b=>a == b
 | .str a,.str b=>a == b
 |_,_=>false
theorem U8 {A:Around}{s:Shared}{y x:V}{u v:Value}(ry:RelV y u)(rx:RelV x v)(fy:vT y=true)(fx:vT x=true):SeqAt.EqAt A s u v (eqV y x):=by
 cases y with
 |non =>
  cases ry;cases x with
  |non=>cases rx;exact SeqAt.EqAt.same _
  |bl b=>cases rx;exact SeqAt.EqAt.none_bool b
  |int b=>obtain⟨t,rfl⟩:=rx;exact SeqAt.EqAt.none_int b t
  |str b=>obtain⟨t,rfl⟩:=rx;exact SeqAt.EqAt.none_str b t
  |_=>exact absurd (show false=true from fx) ma
 |bl a =>
  cases ry;cases x with
  |non=>cases rx;exact SeqAt.EqAt.bool_none a
  |bl b=>cases rx;exact SeqAt.EqAt.bool_bool a b
  |int b=>obtain⟨t,rfl⟩:=rx;exact SeqAt.EqAt.bool_int a b t
  |str b=>obtain⟨t,rfl⟩:=rx;exact SeqAt.EqAt.bool_str a b t
  |_=>exact absurd (show false=true from fx) ma
 |int a =>
  obtain⟨t',rfl⟩:=ry;cases x with
  |non=>cases rx;exact SeqAt.EqAt.int_none a t'
  |bl b=>cases rx;exact SeqAt.EqAt.int_bool a t' b
  |int b=>obtain⟨t,rfl⟩:=rx;exact SeqAt.EqAt.int_int a t' b t
  |str b=>obtain⟨t,rfl⟩:=rx;exact SeqAt.EqAt.int_str a t' b t
  |_=>exact absurd (show false=true from fx) ma
 |str a =>
  obtain⟨t',rfl⟩:=ry;cases x with
  |non=>cases rx;exact SeqAt.EqAt.str_none a t'
  |bl b=>cases rx;exact SeqAt.EqAt.str_bool a t' b
  |int b=>obtain⟨t,rfl⟩:=rx;exact SeqAt.EqAt.str_int a t' b t
  |str b=>obtain⟨t,rfl⟩:=rx;exact SeqAt.EqAt.str_str a t' b t
  |_=>exact absurd (show false=true from fx) ma
 |_=>exact absurd (show false=true from fy) ma
def eqU (x:V)(u:Value):Bool:=match u with
 | .none=>eqV .non x
 | .bool b=>eqV (.bl b) x
 | .int i _=>eqV (.int i) x
 | .str z _=>eqV (.str z) x
 |_=>false
theorem Jk {x y:V}{u:Value}(r:RelV y u)(f:vT y=true):eqU x u=eqV y x:=by
 cases y with
 |non=>cases r;rfl
 |bl b=>cases r;rfl
 |int i=>obtain⟨t,rfl⟩:=r;rfl
 |str z=>obtain⟨t,rfl⟩:=r;rfl
 |_=>exact absurd (show false=true from f) ma
theorem Eb {x:V}:∀ {xs:List V} {us:List Value},Vals xs us->xs.all vT=true->us.any (eqU x)=xs.any λy=>eqV y x
 |_,_,.nil,_=>rfl
 |y::xs,u::us,.cons r t,f=>by
  rw[List.all_cons,akG]at f;rw[List.any_cons,List.any_cons,Jk r f.1,Eb t f.2]
theorem vU {A:Around}{s:Shared}{x:V}{v:Value}(rx:RelV x v)(fx:vT x=true):∀ {xs:List V} {us:List Value},Vals xs us->xs.all vT=true->∀u∈us,SeqAt.EqAt A s u v (eqU x u)
 |_,_,.nil,_=>λu hu=>by cases hu
 |y::xs,u::us,.cons r t,f=>λu' hu=>by
  rw[List.all_cons,akG]at f;rcases List.mem_cons.mp hu with rfl | hu
  ·rw[Jk r f.1];exact U8 r rx f.1 fx
  ·exact vU rx fx t f.2 u' hu
def inV (x:V)(xs:List V):Bool:=xs.any λy=>eqV y x
def rIn (K:bo)(neg:Bool):R2:=λx y H Q=>∃p xs,y=.ref p/\(SqL K H p xs\/SqT K H p xs)/\vT x=true/\xs.all vT=true/\Q (.bl (if neg then !inV x xs else inV x xs)) H
theorem xG:OpR X (akW .In) (rIn X.K false):=by
 intro pins s σ H x y v u Q I rx ry h;obtain⟨p,xs,rfl,hq,fx,fs,q⟩:=h;cases ry;rcases hq with hq | hq
 ·obtain⟨its,r,pl,hz⟩:=I.list hq;refine SeqAt.in_listAt (eqU x) pl.isList (λw hw=>vU rx fx r fs w (by simpa using hw)) ⟨.bl _,H,I,rfl,?_⟩
  rw[show its.toArray.any (eqU x)=its.any (eqU x) by simp,Eb r fs]
  exact q
 ·obtain⟨its,r,pl,hz⟩:=I.tuple hq;refine SeqAt.in_tupleAt (eqU x) pl (λw hw=>vU rx fx r fs w (by simpa using hw)) ⟨.bl _,H,I,rfl,?_⟩
  rw[show its.toArray.any (eqU x)=its.any (eqU x) by simp,Eb r fs]
  exact q
theorem cM:lF X (.builtin "len") (λxs H Q=>∃p ys,xs=[.ref p]/\(SqL X.K H p ys\/SqT X.K H p ys)/\Q (.int ys.length) H):=by
 intro pins s σ H xs us Q I r h;obtain⟨p,ys,rfl,hq,q⟩:=h;obtain⟨u,rfl,rx⟩:=vals1 r;cases rx;have hn:=uK;rcases hq with hq | hq
 ·obtain⟨its,r',pl,hz⟩:=I.list hq;have hlen:=r'.length;exact Calls.call_len_list pl.isList (by simp only[ku] <;> omega) ⟨.int ys.length,H,I.tok _,⟨s.toks+1,by rw[ku,hlen]⟩,q⟩
 ·obtain⟨its,r',pl,hz⟩:=I.tuple hq;have hlen:=r'.length;exact len_tuple pl (by simp only[ku] <;> omega) ⟨.int ys.length,H,I.tok _,⟨s.toks+1,by rw[ku,hlen]⟩,q⟩
theorem lF.or {f:Value}{r r':List V->Hp->VK->Prop}(h:lF X f r)(h':lF X f r'):lF X f (λxs H Q=>r xs H Q\/r' xs H Q):=by
 intro pins s σ H xs us Q I rs q;rcases q with q | q
 ·exact h pins s σ H xs us Q I rs q
 ·exact h' pins s σ H xs us Q I rs q
theorem cB:lF X (.type "list") (λxs H Q=>∃p ys,xs=[.ref p]/\(SqL X.K H p ys\/SqT X.K H p ys)/\∀l,H l=none->Q (.ref l) (upd H l (.lst ys))):=by
 intro pins s σ H xs us Q I r h;obtain⟨p,ys,rfl,hq,q⟩:=h;obtain⟨u,rfl,rx⟩:=vals1 r;cases rx;have fin:∀(its:List Value),Vals ys its->ys.length<=gr->∀(h':Heap) (c':Nat),(∀b o',s.heap.get? b=some o'->h'.get? b=some o') ->
   h'.get? s.heap.objs.size=some { cls:=.type "list",dict:=none,data:=.seq its.toArray c',slots:=#[] }->EP X pins σ Q (.ref s.heap.objs.size) { s with heap:=h' }:=λits r' hz h' c' kp e =>
  ⟨.ref s.heap.objs.size,_,I.laid (t':=s.toks) kp (kq _) (show fO X.prog X.w _ h' _ (.lst ys) from ⟨hz,its,c',r',e⟩),rfl,q _ (I.hok.fresh (kq _))⟩
 rcases hq with hq | hq
 ·obtain⟨its,r',pl,hz⟩:=I.list hq;have hlen:=r'.length;obtain⟨o,ho,hc,n,hd⟩:=pl.isList;exact call_list_seq p (.inl rfl) ho hc hd (λh' c' kp e=>fin its r' hz h' c' kp e) (by simp only[ku] <;> omega)
 ·obtain⟨its,r',pl,hz⟩:=I.tuple hq;have hlen:=r'.length;obtain⟨o,ho,hc,n,hd⟩:=pl;exact call_list_seq p (.inr rfl) ho hc hd (λh' c' kp e=>fin its r' hz h' c' kp e) (by simp only[ku] <;> omega)
def tyV (K:bo)(T:String)(x:V)(H:Hp):Prop:=match x with
 | .str _=>T="str"
 | .int _=>T="int"
 | .ref p=>(T="list"/\∃xs,SqL K H p xs)\/(T="tuple"/\∃o,K.lookup p=some o/\o.cls=.type "tuple"/\o.dict=none) \/
   (T="dict"/\((∃kvs,H p=some (.dK kvs))\/∃kvs,H p=some (.dT kvs)))\/(T="set"/\∃S n,H p=some (.set S n))
 |_=>False
theorem NI {pins:List (Addr×Obj)}{σ:St}{H:Hp}{s:Shared}{T:String}{x:V}{v:Value}(I:Inv X pins σ H s)(r:RelV x v)(ty:tyV X.K T x H) :
  s.TypeIs v T/\∀a,v=.ref a->∃ob,s.heap.get? a=some ob/\ob.dict=none:=by
 cases x with
 |str z =>
  obtain⟨t,rfl⟩:=r;cases (show T="str" from ty)
  exact⟨typeIs_str s z t,λ_ e=>nomatch e⟩
 |int i =>
  obtain⟨t,rfl⟩:=r;cases (show T="int" from ty)
  exact⟨typeIs_int s i t,λ_ e=>nomatch e⟩
 |ref p =>
  cases r;rcases ty with ⟨rfl,xs,hq⟩ | ⟨rfl,o,hk,hc,hd⟩ | ⟨rfl,hk⟩ | ⟨rfl,S,n,hk⟩
  ·obtain⟨its,_,pl,_⟩:=I.list hq;refine⟨pl.isList.typeIs,λa e=>?_⟩
   cases e;obtain⟨o,n,e,c,hd,_⟩:=pl;exact⟨o,e,hd⟩
  ·refine⟨⟨o,I.kIn p o hk,hc⟩,λa e=>?_⟩
   cases e;exact⟨o,I.kIn _ o hk,hd⟩
  ·have z:∃o,s.heap.get? p=some o/\o.ExactDict:=by
    rcases hk with ⟨kvs,hk⟩ | ⟨kvs,hk⟩
    ·obtain⟨_,_,_,_,o,_,_,e,ex,_⟩:=I.hok p _ hk;exact⟨o,e,ex⟩
    ·obtain⟨_,_,_,_,o,_,_,e,ex,_⟩:=I.hok p _ hk;exact⟨o,e,ex⟩
   obtain⟨o,e,ex⟩:=z;refine⟨⟨o,e,ex.1⟩,λa e2=>?_⟩
   cases e2;exact⟨o,e,ex.2.1⟩
  ·obtain⟨o,_,_,_,e,ex,_⟩:=I.hok p _ hk;refine⟨⟨o,e,ex.1⟩,λa e2=>?_⟩
   cases e2;exact⟨o,e,ex.2.1⟩
 |_=>exact akr ty
def ahB (K:bo)(T:String)(r:V->List V->Hp->VK->Prop)(to:TE):TE:=λσ H Q=>to σ H λx H1=>tyV K T x H1/\r x [] H1 Q
def tBM (K:bo)(T:String)(r:V->List V->Hp->VK->Prop)(to:TE)(t:TA):TE:=λσ H Q=>to σ H λx H1=>tyV K T x H1/\t σ H1 λxs H2=>r x xs H2 Q
variable{o e:Expr}{es:List Expr}{to:TE}{t:TA}{name:Str}{apos gz:Pos}{T id:String}{r:V->List V->Hp->VK->Prop}
theorem NJ (pa:PlainAttrs T)(slot:Slot T name id)(hty:typeOf (.builtin id)=pure (.type "method_descriptor"))(hm:MtR X id r)(ho:PE X o to)
  (FA:attributeBase o name X.env (eval o X.env)=eval o X.env:=by rfl) (NK:(apos.endLine == gz.line)=true:=by rfl):PE X (.Call (.Attribute o name apos) [] [] gz) (ahB X.K T r to):=by
 intro pins s σ H Q I h;refine wpAny_Call_method0_late FA NK (thn (ho pins s σ H _ I h) λv s1 ⟨x,H1,I1,r1,ty,q1⟩=>?_)
 obtain⟨h1,h2⟩:=NI I1 r1 ty;exact⟨T,id,pa,slot,hty,h1,h2,Calls.callWith_builtin rfl (PySem.evalArgs_none (hm pins s1 σ H1 x [] v [] Q I1 r1 .nil q1))⟩
theorem gw (pa:PlainAttrs T)(slot:Slot T name id)(hty:typeOf (.builtin id)=pure (.type "method_descriptor"))(hm:MtR X id r)(ho:PE X o to)(ha:PA X (e::es) t)
  (FA:attributeBase o name X.env (eval o X.env)=eval o X.env:=by rfl)
  (ahC:((backTo gz (aj0 (e::es) X.env)).all (λx=>!x.1) && (backToKw gz (keywordEach [] X.env)).all (λx=>x.1.isSome)
   && decide ((e::es).length+([]:List Keyword).length+(if ([]:List Keyword).isEmpty then 0 else 1) < 30))=true:=by rfl)
  (NK:(apos.endLine == gz.line)=true:=by rfl) (hs:aj0 (e::es) X.env=(false,eval e X.env)::aj0 es X.env:=by rfl) (U9:(backTo gz (aj0 es X.env)).any (·.1)=false:=by rfl) :
  PE X (.Call (.Attribute o name apos) (e::es) [] gz) (tBM X.K T r to t):=by
 intro pins s σ H Q I h;refine wpAny_Call_method_late FA ahC NK rfl (thn (ho pins s σ H _ I h) λv s1 ⟨x,H1,I1,r1,ty,q1⟩=>?_)
 obtain⟨h1,h2⟩:=NI I1 r1 ty;refine⟨T,id,pa,slot,hty,h1,h2,?_⟩;have hA:=ha gz pins s1 σ H1 _ I1 q1;rw[hs]at hA ⊢;refine Calls.callWith_builtin (by show (false || (backTo gz (aj0 es X.env)).any (·.1))=false;rw[U9] <;> rfl) (Calls.evalArgs_plain ?_)
 exact thn hA λus s2 ⟨vs,H2,I2,r2,q2⟩=>hm pins s2 σ H2 x vs v us Q I2 r1 r2 q2
end
def MtM (X:Cx)(id:String)(r:V->List V->Hp->VK->Prop):Prop :=
 ∀(pins:List (Addr×Obj)) (s:Shared) (σ:St) (H:Hp) (x:V) (xs:List V) (v:Value) (us:List Value) (Q:VK),Inv X pins σ H s->RelV x v->Vals xs us->r x xs H Q ->
  wpAny (model X.prog X.w) X.A (call (.builtin id) (v::us)) (EP X pins σ Q) X.xe s
theorem Vals.one:∀ {x:V} {us:List Value},Vals [x] us->∃u,us=[u]/\RelV x u
 |_,_,.cons r .nil=>⟨_,rfl,r⟩
theorem Vals.two:∀ {x y:V} {us:List Value},Vals [x,y] us->∃u v,us=[u,v]/\RelV x u/\RelV y v
 |_,_,_,.cons r (.cons q .nil)=>⟨_,_,rfl,r,q⟩
theorem Vals.zero:∀ {us:List Value},Vals [] us->us=[]
 |_,.nil=>rfl
theorem Vals.dropLast {xs:List V}{us:List Value}(h:Vals xs us):Vals xs.dropLast us.dropLast:=by
 induction h with
 |nil=>exact .nil
 |cons r t ih =>
  cases t with
  |nil=>exact .nil
  |cons q t'=>exact .cons r ih
theorem Vals.eraseIdx:∀ {xs:List V} {us:List Value} (i:Nat),Vals xs us->Vals (xs.eraseIdx i) (us.eraseIdx i)
 |_,_,_,.nil=>.nil
 |_,_,0,.cons _ t=>t
 |_,_,i+1,.cons r t=>.cons r (Vals.eraseIdx i t)
theorem Vals.rep {xs:List V}{us:List Value}(h:Vals xs us):∀k:Nat,Vals (List.replicate k xs).flatten (List.replicate k us).flatten
 | 0=>.nil
 |k+1=>by
  rw[List.replicate_succ,List.replicate_succ,List.flatten_cons,List.flatten_cons];exact Vals.append h (Vals.rep h k)
theorem Jl {α:Type}(l:List α):l.eraseIdx (l.length - 1)=l.dropLast:=by
 induction l with
 |nil=>rfl
 |cons a r ih =>
  cases r with
  |nil=>rfl
  |cons b r =>
   have e:(a::b::r).length - 1=((b::r).length - 1)+1:=by
    have h1:(a::b::r).length=r.length+2:=rfl;have h2:(b::r).length=r.length+1:=rfl;omega
   rw[e,List.eraseIdx_cons_succ,ih]
   all_goals rfl
theorem C1 {α:Type}:∀(l:List α) (i:Nat),(l.eraseIdx i).length<=l.length
 |[],_=>kq _
 |_::_,0=>akY _
 |_::r,i+1=>Nat.succ_le_succ (C1 r i)
section
variable{X:Cx}{pins:List (Addr×Obj)}{σ:St}{H:Hp}{s:Shared}{l b:Addr}{xs ys zs:List V}
theorem Inv.NL {its its':List Value}{n:Nat}{f:Array Value->Array Value}{t':Nat}(I:Inv X pins σ H s)(hH:H l=some (.lst xs))
  (e:s.heap.get? l=some { cls:=.type "list",data:=.seq its.toArray n }) (hf:f its.toArray=its'.toArray) (hv:Vals ys its') (hz:ys.length<=gr) :
  Inv X pins σ (upd H l (.lst ys)) { s with heap:=s.heap.update l (Obj.mapSeq f),toks:=t' }:=by
 have q:=PySem.IsL.update e f;rw[hf]at q;refine I.write (x:=l) (e:=l) (by rw[hH];exact trivial) (.inl rfl) (λb' u hb hu=>(akJ s.heap (Obj.mapSeq f) (akp hb)).trans hu) ⟨_,q⟩ ?_
 exact⟨hz,its',_,hv,q⟩
theorem Inv.ZR {its:List Value}{t':Nat}(I:Inv X pins σ H s)(hv:Vals ys its)(hz:ys.length<=gr) :
  Inv X pins σ (upd H s.heap.objs.size (.lst ys)) { s with heap:=s.heap.push { cls:=.type "list",data:=.seq its.toArray },toks:=t' } :=
 I.laid (λ_ _ q=>kg _ q) (kq _) ⟨hz,its,0,hv,akg _ rfl⟩
theorem Inv.fresh (I:Inv X pins σ H s):H s.heap.objs.size=none:=I.hok.fresh (kq _)
theorem Inv.FC (I:Inv X pins σ H s)(hH:H l=some (.lst xs)):xs.length<=gr/\∃(its:List Value) (n:Nat),Vals xs its/\xs.length=its.length/\s.heap.get? l=some { cls:=.type "list",data:=.seq its.toArray n }:=by
 obtain⟨z,its,n,r,e⟩:=I.hok l _ hH;exact⟨z,its,n,r,r.length,e⟩
theorem NM {n:Nat}(h:n<=gr):Builtin.List.listTooLong n=false:=by
 unfold Builtin.List.listTooLong;exact decide_eq_false (by omega)
end
section
variable{X:Cx}
def QV:V->List V->Hp->VK->Prop:=λx vs H Q=>∃l xs y,x=.ref l/\vs=[y]/\H l=some (.lst xs)/\xs.length < gr/\Q .non (upd H l (.lst (xs++[y])))
theorem dn:MtM X "list.append" QV:=by
 intro pins s σ H x vs v us Q I rx rv h;obtain⟨l,xs,y,rfl,rfl,hH,hz,q⟩:=h;cases rx;obtain⟨u,rfl,ru⟩:=rv.one;obtain⟨z,its,n,r,hl,e⟩:=I.FC hH;refine call_meets F.slot_list_append ⟨_,e,rfl⟩ F.entry_list_append (F.args_list_append_2 _ _) (PySem.list_append l its.toArray n u (by rw[ku];omega)) ⟨e,?_⟩
 refine⟨.non,_,I.NL (its':=its++[u]) hH e (by simp) (r.append (.cons ru .nil)) ?_,rfl,q⟩
 rw[me,akh];omega
def QW:V->List V->Hp->VK->Prop:=λx vs H Q=>∃l b xs zs,x=.ref l/\vs=[.ref b]/\H l=some (.lst xs)/\H b=some (.lst zs)/\xs.length+zs.length<=gr/\Q .non (upd H l (.lst (xs++zs)))
theorem C2:MtM X "list.extend" QW:=by
 intro pins s σ H x vs v us Q I rx rv h;obtain⟨l,b,xs,zs,rfl,rfl,hH,hB,hz,q⟩:=h;cases rx;obtain⟨u,rfl,ru⟩:=rv.one;cases ru;obtain⟨z,its,n,r,hl,e⟩:=I.FC hH;obtain⟨z2,Fz,n2,r2,hl2,e2⟩:=I.FC hB;have hsz:its.toArray.size+Fz.toArray.size<=gr:=by rw[ku,ku];omega
 have ZS:¬(!its.toArray.isEmpty && Builtin.List.listTooLong (its.toArray.size+Fz.toArray.size))=true:=by
  rw[NM hsz,Bool.and_false];exact ma
 refine call_meets F.slot_list_extend ⟨_,e,rfl⟩ F.entry_list_extend (F.args_list_extend_2 _ _)
  (AutoSeq1.list_extend_list_list_0 l its.toArray n b Fz.toArray n2 ZS (by rw[ku];omega) (by omega)) ⟨e,e2,?_⟩
 refine⟨.non,_,I.NL (its':=its++Fz) hH e (by simp) (r.append r2) ?_,rfl,q⟩
 rw[me];omega
def ahD:V->List V->Hp->VK->Prop:=λx vs H Q=>∃l xs y,x=.ref l/\vs=[]/\H l=some (.lst xs)/\xs[xs.length - 1]?=some y/\Q y (upd H l (.lst xs.dropLast))
theorem NN:MtM X "list.pop" ahD:=by
 intro pins s σ H x vs v us Q I rx rv h;obtain⟨l,xs,y,rfl,rfl,hH,hy,q⟩:=h;cases rx;have hus:=rv.zero;subst hus;obtain⟨z,its,n,r,hl,e⟩:=I.FC hH;obtain⟨u,hu,ru⟩:=r.get hy;have hy':its.toArray[its.toArray.size - 1]?=some u:=by
  show its.toArray[its.length - 1]?=some u;rw[<-Array.getElem?_toList,<-hl];exact hu
 refine call_meets F.slot_list_pop ⟨_,e,rfl⟩ F.entry_list_pop (F.args_list_pop_1 _) (MeetsSeq.list_pop_last l its.toArray n u hy' (by rw[ku];omega)) ⟨e,?_⟩
 refine⟨y,_,I.NL (its':=its.dropLast) hH e ?_ r.dropLast ?_,ru,q⟩
 ·show its.toArray.eraseIdxIfInBounds (its.toArray.size - 1)=its.dropLast.toArray;rw[ku,List.eraseIdxIfInBounds_toArray,Jl]
 ·rw[List.length_dropLast];omega
def Va:V->List V->Hp->VK->Prop:=λx vs H Q=>∃l xs i k y,x=.ref l/\vs=[.int i]/\H l=some (.lst xs)/\-(2 ^ 63)<=i/\i < 2 ^ 63/\seqIndex? i xs.length=some k/\xs[k]?=some y/\Q y (upd H l (.lst (xs.eraseIdx k)))
theorem NO:MtM X "list.pop" Va:=by
 intro pins s σ H x vs v us Q I rx rv h;obtain⟨l,xs,i,k,y,rfl,rfl,hH,h1,h2,hk,hy,q⟩:=h;cases rx;obtain⟨u,rfl,ru⟩:=rv.one;obtain⟨t,rfl⟩:=ru;obtain⟨z,its,n,r,hl,e⟩:=I.FC hH;obtain⟨w,hw,rw'⟩:=r.get hy;refine call_meets F.slot_list_pop ⟨_,e,rfl⟩ F.entry_list_pop (F.args_list_pop_2 _ _)
  (MeetsSeq.list_pop_at l its.toArray n i t k w (fitsIndex_both h1 h2) (by rw[ku,<-hl];exact hk) (by rw[<-Array.getElem?_toList];exact hw) (by rw[ku];omega)) ⟨e,?_⟩
 refine⟨y,_,I.NL (its':=its.eraseIdx k) hH e ?_ (r.eraseIdx k) ?_,rw',q⟩
 ·show its.toArray.eraseIdxIfInBounds k=(its.eraseIdx k).toArray;rw[List.eraseIdxIfInBounds_toArray]
 ·have:=C1 xs k;omega
def ahE:R2:=λx y H Q=>∃l b xs zs,x=.ref l/\y=.ref b/\H l=some (.lst xs)/\H b=some (.lst zs)/\xs.length+zs.length<=gr/\∀p,H p=none->Q (.ref p) (upd H p (.lst (xs++zs)))
theorem Vb:OpR X (binaryOp .Add) ahE:=by
 intro pins s σ H x y v u Q I rx ry h;obtain⟨l,b,xs,zs,rfl,rfl,hH,hB,hz,q⟩:=h;cases rx;cases ry;obtain⟨z,its,n,r,hl,e⟩:=I.FC hH;obtain⟨z2,Fz,n2,r2,hl2,e2⟩:=I.FC hB;refine PySem.P.add_list e e2 ?_ (by rw[ku,ku];omega)
 have ea:its.toArray++Fz.toArray=(its++Fz).toArray:=by simp
 rw[ea];exact⟨.ref _,_,I.ZR (t':=s.toks) (r.append r2) (by rw[me];omega),rfl,q _ I.fresh⟩
end
end L2
namespace Att
open PySem PySem.W PySem.Calls PyProof.Rows
theorem zk {P:Params}{h:Heap}:∀(ns:List Int) (vs:List Value),WellAll P h vs (ns.map WData.int)->IntsAre vs ns:=by
 intro ns
 induction ns with
 |nil =>
  intro vs w;rw[akD]at w;cases w;exact .nil
 |cons n ns ih =>
  intro vs w;rw[km]at w;cases w with
  |cons a b =>
   cases a;exact .cons _ _ (ih _ b)
theorem Me {l:OpenLaw}{n:Nat}(hn:l.most=some n){P:Params}{h:Heap}{args:List WData}{vals:List Value}
  (QX:l.row.toRowW.claim.pre args=true) (hwl:WellAll P h vals args) :
  ∃a vs ns,vals=[aj6 a]/\args=[WData.list (ns.map WData.int)]/\h.get? a=some { cls:=.type "list",data:=.seq vs.toArray }/\IntsAre vs ns/\ns.length<=n:=by
 have hsh:WShape.hasAll [] args [.list .int]=true:=(pre_splitW QX).1;have hc:l.pre.holds [] { args:=args }=true:=(pre_splitW QX).2;obtain⟨d,r,rfl,h1,h2⟩:=hasAllW_cons hsh;obtain rfl:=hasAllW_nil h2;obtain⟨xs,rfl,h3⟩:=hasW_list h1;obtain⟨ns,rfl⟩:=items_int h3;have hlen:ns.length<=n:=by
  unfold OpenLaw.pre at hc;have h4:(WTm.not (.lt (.lit (.int (n:Int))) (.len (.arg 0)))).holds [] { args:=[.list (ns.map .int)] }=true:=by
   have h4:=(holds_andW hc).1;rw[hn]at h4;exact h4
  have h5:=condW_of h4 (w_not (w_lt w_lit (w_len_list (w_arg rfl))));rw[ba]at h5;refine Nat.le_of_not_lt λq=>?_
  have q':(n:Int) < ((ns.length:Nat):Int):=by omega
  first
   | (rw[decide_eq_true q']at h5;exact absurd h5 (by decide))
   | (simp at h5;omega)
 cases hwl with
 |cons w1 w2 =>
  cases w2;cases w1 with
  |list ho Vc=>exact⟨_,_,ns,rfl,rfl,ho,zk ns _ Vc,hlen⟩
theorem Mf (l:OpenLaw)(args:List WData):l.row.toRowW.claim.post args (.bool true) args=true :=
 postW_of (r:=l.row.toRowW) (X:=(true == true))
  (show WShape.has [] (.bool true) .bool=true by first | rfl | decide | simp[WShape.has,WShape.arms,WShape.armsAll])
  (show (WTm.eq .res (.lit (.bool true))).value [] { args:=args,res:=some (.bool true),after:=args }=some (.bool (true == true)) from w_eq_bool (w_res rfl) w_lit) rfl
theorem FD {l:OpenLaw}{n:Nat}{q:sr}{loose:List Str}{XP:(Str->Option Value)->Heap->Prop}{YP:World->Heap->Prop}{d:DefRec}
  (hn:l.most=some n) (hdf:d.params.defaults=[])
  (call:∀(w:World) (s₀ s₁:Shared) (mg mb:Str->Option Value) (fa:Addr) (o:Obj) (pm cd doc:Value) (a:Addr) (vs:List Value) (ns:List Int),
   Ground q loose [] XP w s₀ mg mb s₁.heap->YP w s₁.heap ->
   s₁.heap.get? fa=some o->o.data=.func (docDef d.name d.params d.body d.scope pm cd doc)->s₁.heap.CodeRec cd d.name->mg d.name=some (.ref fa) ->
   s₁.heap.get? a=some { cls:=.type "list",data:=.seq vs.toArray }->IntsAre vs ns->ns.length<=n->s₁.gens=#[] ->
   codeAny (model l.prog w) callerA (.call (.ref fa) ⟨[.ref a],[]⟩) (λr s'=>r=.ok (.ret (.bool true))/\OldK s₁.heap s'.heap/\s'.os=s₁.os/\AllBare s'.gens) s₁) :
  WalkO q loose XP YP l.row.toRowW d [] (λf vs=>PySem.call f vs):=by
 intro w s₀ s₁ mg mb G Y fa o pm cd doc dV kV ho hd hcd hD hmg hg args vals as QX ajU hrd hwl hlo;obtain rfl:dV=.none:=Dflts.none hD hdf;obtain rfl:kV=.none:=Dflts.noKw hD;obtain⟨a,vs,ns,rfl,rfl,Vd,hints,hlen⟩:=Me hn QX hwl;refine enter_call (codeAny_mono (call w s₀ s₁ mg mb fa o pm cd doc a vs ns G Y ho (fd_plain hd) hcd hmg Vd hints hlen hg) λr s' hq=>?_)
 obtain⟨rfl,h2,h3,h4⟩:=hq;exact⟨.inl ⟨.bool true,.bool true,[],rfl,λ_=>rfl,.bool true,Mf l _,λ_=>⟨List.Pairwise.nil,λ_ hm=>(nomatch hm)⟩⟩,h2,h3,h4⟩
section
variable{prog:sr}{w:World}{A:Around}{E:Value->Shared->Prop}{s:Shared}{K:Frag}
def ledger (h:Heap)(L d:Addr):List (Addr×Obj):=(List.range h.objs.size).filterMap λa=>if a=L\/a=d then none else (h.get? a).map λo=>(a,o)
end
end Att
namespace L2
open PySem PySem.Spec PyProof.Rows
theorem C3:∀ {vs:List Value} {ns:List Int},IntsAre vs ns->Vals (ns.map V.int) vs
 |_,_,.nil=>.nil
 |_,_,.cons n t h=>.cons ⟨t,rfl⟩ (C3 h)
def Ve (H:Hp):Prop:=∀b,H b=none\/∃o xs,H b=some (.frz o (.lst xs))
theorem NP {P:sr}{w:World}{K:bo}{mg mb:Str->Option Value}{CX:CXT}{k:Nat}{fa a:Addr}{fd:kj}{x:Str}{sp:Sp}{s₁:Shared}{vs:List Value}{ns:List Int}
  (KX:K.In s₁.heap) (hns:s₁.heap.Ns gn mg) (hb:s₁.heap.Ns builtinsNs mb) (hbb:∀x:Str,x≠"__name__"->mb x=ak2 x) (ahF:s₁.heap.NoLimit) (hg:s₁.gens=#[])
  (ha:s₁.heap.get? a=some { cls:=.type "list",data:=.seq vs.toArray }) (hi:IntsAre vs ns) (hl:ns.length<=gr) (hr:Room k callerA)
  (F:∀base:Heap,K.In base->base.Ns gn mg->a7 P w K mg base CX k fa fd [x] sp) (ZT:∀(s:Shared) (u:Value),BindsTo s fd ⟨[u],[]⟩ [(x,u)])
  (hsp:∀H:Hp,Ve H->SqL K H a (ns.map V.int)->sp [.ref a] H (λv _=>v=.bl true) λ_ _ _=>False)
  (hCX:∀H e s',CX [] H s₁ (λ_ _ _=>False) e s'->False) :
  codeAny (model P w) callerA (.call (.ref fa) ⟨[.ref a],[]⟩) (λr s'=>r=.ok (.ret (.bool true))/\OldK s₁.heap s'.heap/\s'.os=s₁.os/\AllBare s'.gens) s₁:=by
 have rv:=C3 hi;have ahG:=hi.length;have core:∀H:Hp,Ve H->SqL K H a (ns.map V.int)->HOk P w H s₁.heap->(∀b,H b≠none->b=a)->(H a≠none->K.lookup a=none) ->
   codeAny (model P w) callerA (.call (.ref fa) ⟨[.ref a],[]⟩) (λr s'=>r=.ok (.ret (.bool true))/\OldK s₁.heap s'.heap/\s'.os=s₁.os/\AllBare s'.gens) s₁:=by
  intro H hO hS hok hA hK;have Lo:∀ {b:Addr} {o:Obj},s₁.heap.get? b=some o->H b=none->(DY s₁.heap H).get? b=some o:=λe n=>Nr e n
  have noA:∀ {b:Addr} {o:Obj} {es:Array akZ} {ep:Nat},s₁.heap.get? b=some o->o.data=.dict es ep->H b=none:=λ{b o es ep} e d=>by
   cases q:H b with
   |none=>rfl
   |some u =>
    have e':b=a:=hA b (by rw[q];simp)
    subst e';rw[ha]at e;cases e;have d':Data.seq vs.toArray _=Data.dict es ep:=d;cases d'
  have nsK:∀ {b:Addr} {m:Str->Option Value},s₁.heap.Ns b m->(DY s₁.heap H).Ns b m:=λ{b m} ⟨o,es,ep,e,d,r⟩=>⟨o,es,ep,Lo e (noA e d),d,r⟩
  have hKb:K.In (DY s₁.heap H):=λb o e=>Lo (KX b o e) (by
   cases q:H b with
   |none=>rfl
   |some u =>
    have e':b=a:=hA b (by rw[q];simp)
    subst e';rw[hK (by rw[q];simp)]at e;cases e)
  have hM:Mod K mg (DY s₁.heap H):=⟨hKb,nsK hns,⟨mb,nsK hb,hbb⟩,let ⟨mc,h1,h2⟩:=ahF;⟨mc,nsK h1,h2⟩⟩
  have e0:Cs P w K mg (DY s₁.heap H) callerA [] s₁ H:=⟨rfl,hM,λb o e=>QK e,Nat.le_of_eq (L6 _ _),trivial,λb hb=>absurd (show b∈([]:List Addr) from hb) (by simp),hok,.of_eq hg⟩
  refine codeAny_mono ((F _ hKb (nsK hns)).run callerA [] s₁ H ⟨[.ref a],[]⟩ [.ref a] [.ref a] _ _ hr e0 (ZT s₁ (.ref a)) (.cons rfl .nil) (hsp H hO hS)) λr s' h=>?_
  cases r with
  |error e=>exact(hCX H e s' h).elim
  |ok fl =>
   cases fl with
   |next=>exact akr h
   |brk=>exact akr h
   |cont=>exact akr h
   |ret u =>
    obtain⟨v,H',os,bare,un,ahH,r',q⟩:=h;have q':v=.bl true:=q;subst q';obtain rfl:u=Value.bool true:=r';refine⟨rfl,OldK.of_keep λb o e=>?_,os,bare⟩
    cases q:H b with
    |none=>exact un.keep b o e q (by intro z;exact absurd (show b∈([]:List Addr) from z) (by simp)) (by simp)
    |some u =>
     rcases hO b with z | ⟨ob,xs,z⟩
     ·rw[q]at z;cases z
     ·have z2:=un.vI b ob _ z;obtain⟨e1,_⟩:=hok b _ z;obtain⟨e2,_⟩:=ahH b _ z2;rw[e]at e1;cases e1;exact e2
 cases hk:K.lookup a with
 |some o =>
  have e:=KX a o hk;rw[ha]at e;cases e;refine core (λ_=>none) (λ_=>.inl rfl) (.inr ⟨_,vs.toArray,_,hk,rfl,rfl,rfl,by rw[ku,ahG];exact hl,by simpa using rv⟩) (λb u z=>by have z':(none:Option HO)=some u:=z;cases z') (λb z=>absurd rfl z) λz=>absurd rfl z
 |none =>
  refine core (λb=>if b=a then some (.frz { cls:=.type "list",data:=.seq vs.toArray } (.lst (ns.map V.int))) else none) (λb=>?_) (.inl (.inr ⟨{ cls:=.type "list",data:=.seq vs.toArray },if_pos rfl⟩)) (λb u z=>?_) (λb z=>?_) λ_=>hk
  ·by_cases hb:b=a
   ·exact .inr ⟨_,_,if_pos hb⟩
   ·exact .inl (if_neg hb)
  ·by_cases hb:b=a
   ·have z':=(if_pos hb).symm.trans z;cases z';subst hb;exact⟨ha,by rw[ba];exact hl,vs,_,rv,ha⟩
   ·have z':=(if_neg hb).symm.trans z;cases z'
  ·by_cases hb:b=a
   ·exact hb
   ·exact absurd (if_neg hb) z
theorem QY {l:PySem.W.OpenLaw}{n k:Nat}{q:sr}{loose:List Str}{XP:(Str->Option Value)->Heap->Prop}{YP:World->Heap->Prop}{d:DefRec}{K:Params->bo}{CX:World->CXT}{sp:World->Sp}{x:Str}
  (hn:l.most=some n) (hn2:n<=gr) (hdf:d.params.defaults=[]) (hr:Room k callerA)
  (hY:∀(w:World) (h:Heap),YP w h->(K w.params).In h)
  (F:∀(w:World) (mg:Str->Option Value) (fa:Addr) (h:Heap),(K w.params).In h->h.Ns gn mg->mg d.name=some (.ref fa) ->
   ∃fd:kj,(∀(s:Shared) (u:Value),BindsTo s fd ⟨[u],[]⟩ [(x,u)]) /\
    ∀base:Heap,(K w.params).In base->base.Ns gn mg->a7 l.prog w (K w.params) mg base (CX w) k fa fd [x] (sp w))
  (hsp:∀(w:World) (H:Hp) (a:Addr) (ns:List Int),ns.length<=n->Ve H->SqL (K w.params) H a (ns.map V.int)->sp w [.ref a] H (λv _=>v=.bl true) λ_ _ _=>False)
  (hCX:∀(w:World) (H:Hp) (s:Shared) (e:Value) (s':Shared),CX w [] H s (λ_ _ _=>False) e s'->False) :
  PySem.W.WalkO q loose XP YP l.row.toRowW d [] (λf vs=>PySem.call f vs):=by
 refine Att.FD hn hdf λw s₀ s₁ mg mb fa o pm cd doc a vs ns G Y ho hd hcd hmg Vd hints hlen hg=>?_
 have KX:=hY w _ Y;obtain⟨fd,hb,hF⟩:=F w mg fa _ KX G.T.g hmg;exact NP KX G.T.g G.T.b G.T.builtins G.T.nolimit hg Vd hints (adm hlen hn2) hr hF hb (λH hO hS=>hsp w H a ns hlen hO hS) λH e s'=>hCX w H s₁ e s'
def inClass (s:Stmt)(j:Nat):Stmt:=match s with
 | .ClassDef _ _ _ body _ _ _ _ _ _ _=>body.getD j (.Pass ⟨0,0,0,0⟩)
 |_=>.Pass ⟨0,0,0,0⟩
def aO (s:Stmt):Arguments:=match s with
 | .FunctionDef _ a _ _ _ _ _ _ _ _=>a
 |_=>{ posonlyargs:=[],args:=[],vararg:=none,kwonlyargs:=[],kw_defaults:=[],kwarg:=none,defaults:=[] }
def aL (s:Stmt):List Stmt:=match s with
 | .FunctionDef _ _ b _ _ _ _ _ _ _=>b
 |_=>[]
def ag (s:Stmt):Scope:=match s with
 | .FunctionDef _ _ _ _ _ _ sc _ _ _=>sc
 |_=>{ kind:=.function,names:=[],isGenerator:=false,isCoroutine:=false }
abbrev CX0:CXT:=λ_ _ _ _ _ _=>False
abbrev E0:XK:=λ_ _ _=>False
theorem a5 {X:Cx}:Passes CX0 X E0:=λ_ _ _ _ _ _ _ h=>h.elim
structure Fun (K:bo)(x qual:Str)(st:Stmt)(f:Addr)(fd:kj):Prop where
 ex:∃(oc:Value) (od:Option Addr) (kV doc pm:Value) (an:Option Addr) (cdv ct:Value) (osl:Array (Option Value)),
  fd=eg x qual (aO st) (aL st) (ag st) .none kV doc pm an cdv ct/\K.lookup f=some ⟨oc,od,.func fd,osl⟩/\de K cdv qual=true
 kp:da K (.ref f)=true
section
variable{P:sr}{w:World}{K:bo}{mg:Str->Option Value}{base:Heap}
theorem Fun.ok {x qual:Str}{st:Stmt}{f:Addr}{fd:kj}{N ps:List Str}{k:Nat}{sp:Sp}(F:Fun K x qual st f fd)(S:aN N ps (ag st))(len:∀vs H Q E,sp vs H Q E->vs.length=ps.length)
  (Fx:∀(cdv:Value) (A:Around) (outer:List Env) (s:Shared) (H:Hp) (vs:List V) (Q:VK) (E:XK),Room k (A.deeper (envOfC qual (ag st) s.heap.objs.size f cdv))->sp vs H Q E ->
   ∃t,PSs (bG CX0 P w K mg base N qual (ag st) f cdv A outer s H E).nox (aL st) t/\t { nx:=λ_ H'=>Q .non H',rt:=Q } (start N vs) H):a7 P w K mg base CX0 (k+1) f fd ps sp:=by
 obtain⟨oc,od,kV,doc,pm,an,cdv,ct,osl,rfl,lk,hcd⟩:=F.ex;refine Td lk hcd S len λA outer s H vs Q E hr hsp=>?_
 obtain⟨t,h,q⟩:=Fx cdv A outer s H vs Q E hr hsp;exact⟨t,h.nox,q⟩
theorem Fun.binds {x qual:Str}{st:Stmt}{f:Addr}{fd:kj}{ps:List Str}(F:Fun K x qual st f fd)
  (h:∀(kV doc pm:Value) (an:Option Addr) (cdv ct:Value) (us:List Value),us.length=ps.length->bindArgs (eg x qual (aO st) (aL st) (ag st) .none kV doc pm an cdv ct) ⟨us,[]⟩=pure (ps.zip us)):Binds K fd ps []:=by
 obtain⟨oc,od,kV,doc,pm,an,cdv,ct,osl,rfl,lk,hcd⟩:=F.ex;exact .all (h kV doc pm an cdv ct)
theorem aY {x qual:Str}{st:Stmt}{f:Addr}{oc:Value}{od an:Option Addr}{osl:Array (Option Value)}{kV doc pm cdv ct:Value}(l:K.lookup f=some ⟨oc,od,.func (eg x qual (aO st) (aL st) (ag st) .none kV doc pm an cdv ct),osl⟩)
  (c:de K cdv qual=true) (k:da K (.ref f)=true):Fun K x qual st f (eg x qual (aO st) (aL st) (ag st) .none kV doc pm an cdv ct):=⟨⟨oc,od,kV,doc,pm,an,cdv,ct,osl,rfl,l,c⟩,k⟩
end
section
variable{X:Cx}
theorem pv (i:Nat){x:Str}{pos:Pos}(hN:X.N[i]?=some x:=by rfl)(hv:Vis X.env.scope x:=by first | exact wt rfl | exact Or.inr (wt rfl) | exact Or.inr (Or.inr rfl))(hd:(x == ("__debug__":Str))=false:=by decide)
  (hcd:(x == ("__classdict__":Str))=false:=by decide):PE X (.Name x pos) (Zt i):=UP hN hv hd hcd
end
theorem bZ {A B:Prop}(h:B):if false=true then A else B:=by
 rw[if_neg ma];exact h
theorem dW {A B:Prop}(h:A):if true=true then A else B:=by
 rw[if_pos rfl];exact h
theorem fG {c A B:Prop}[Decidable c](h1:c->A)(h2:¬c->B):if c then A else B:=by
 by_cases h:c
 ·rw[if_pos h];exact h1 h
 ·rw[if_neg h];exact h2 h
def bu (H H':Hp):Prop:=∀b o,H b=some o->H' b=some o
theorem bu.refl (H:Hp):bu H H:=λ_ _ h=>h
theorem bu.trans {H H1 H2:Hp}(a:bu H H1)(b:bu H1 H2):bu H H2:=λc o h=>b c o (a c o h)
theorem bu.free {H H':Hp}(e:bu H H'){l:Addr}(h:H' l=Option.none):H l=Option.none:=by
 cases q:H l with
 |none=>rfl
 |some o =>
  rw[e l o q]at h;cases h
theorem bu.seq {K:bo}{H H':Hp}{a:Addr}{xs:List V}(e:bu H H')(h:SqL K H a xs):SqL K H' a xs:=by
 rcases h with (h | ⟨o,h⟩) | h
 ·exact .inl (.inl (e _ _ h))
 ·exact .inl (.inr ⟨o,e _ _ h⟩)
 ·exact .inr h
theorem jC:ak2 "len"=some (.builtin "len"):=by trivial
theorem Ec:ak2 "max"=some (.builtin "max"):=by trivial
theorem Vf:ak2 "any"=some (.builtin "any"):=by trivial
theorem NQ:ak2 "int"=some (.type "int"):=by trivial
theorem NR:ak2 "str"=some (.type "str"):=by trivial
theorem gU:ak2 "list"=some (.type "list"):=by trivial
mutual
def DV (K:bo)(H:Hp):PyData->V->Prop
 | .none,x=>x=.non
 | .bool b,x=>x=.bl b
 | .int i,x=>x=.int i
 | .str y,x=>x=.str y
 | .list ds,x=>∃a xs,x=.ref a/\SqL K H a xs/\DVs K H ds xs
 | .tuple ds,x=>∃a xs,x=.ref a/\SqT K H a xs/\DVs K H ds xs
 | .dict _,_=>False
def DVs (K:bo)(H:Hp):List PyData->List V->Prop
 |[],xs=>xs=[]
 |d::ds,xs=>∃x r,xs=x::r/\DV K H d x/\DVs K H ds r
end
section
variable{X:Cx}{pins:List (Addr×Obj)}{σ:St}{H:Hp}{s:Shared}
mutual
theorem DV.reads (I:Inv X pins σ H s):∀(d:PyData) {x:V} {u:Value},DV X.K H d x->RelV x u->∃as,Reads s.heap u d as
 | .none,_,_,h,r=>by
  have h':=h;unfold DV at h';subst h';cases r;exact⟨_,.none⟩
 | .bool b,_,_,h,r=>by
  have h':=h;unfold DV at h';subst h';cases r;exact⟨_,.bool b⟩
 | .int i,_,_,h,r=>by
  have h':=h;unfold DV at h';subst h';obtain⟨t,rfl⟩:=r;exact⟨_,.int i t⟩
 | .str y,_,_,h,r=>by
  have h':=h;unfold DV at h';subst h';obtain⟨t,rfl⟩:=r;exact⟨_,.str y t⟩
 | .list ds,_,_,h,r=>by
  have h':=h;unfold DV at h';obtain⟨a,xs,rfl,hq,hs⟩:=h';cases r;obtain⟨its,rv,⟨o,n,e,c,_,dt⟩,_⟩:=I.list hq;obtain⟨as,q⟩:=DVs.reads I ds hs rv;exact⟨_,.list e c dt (by simpa using q)⟩
 | .tuple ds,_,_,h,r=>by
  have h':=h;unfold DV at h';obtain⟨a,xs,rfl,hq,hs⟩:=h';cases r;obtain⟨its,rv,⟨o,e,c,n,dt⟩,_⟩:=I.tuple hq;obtain⟨as,q⟩:=DVs.reads I ds hs rv;exact⟨_,.tuple e c dt (by simpa using q)⟩
 | .dict _,_,_,h,_=>by
  have h':=h;unfold DV at h';exact h'.elim
theorem DVs.reads (I:Inv X pins σ H s):∀(ds:List PyData) {xs:List V} {us:List Value},DVs X.K H ds xs->Vals xs us->∃as,ReadsAll s.heap us ds as
 |[],_,_,h,r=>by
  have h':=h;unfold DVs at h';subst h';cases r;exact⟨_,.nil⟩
 |d::ds,_,_,h,r=>by
  have h':=h;unfold DVs at h';obtain⟨x,q,rfl,h1,h2⟩:=h';cases r with
  |cons r1 r2 =>
   obtain⟨as,e1⟩:=DV.reads I d h1 r1;obtain⟨bs,e2⟩:=DVs.reads I ds h2 r2;exact⟨_,.cons e1 e2⟩
end
def ahI (K:bo):R2:=λx y H Q=>∃d e,DV K H d x/\DV K H e y/\ale d=true/\ale e=true/\Q (.bl (akR d e)) H
def ahJ (K:bo):R2:=λx y H Q=>∃d e,DV K H d x/\DV K H e y/\ale d=true/\ale e=true/\Q (.bl (!akR d e)) H
theorem xH (hu:X.A.units+64 < cLine):OpR X (akW .Eq) (ahI X.K):=by
 intro pins s σ H x y v u Q I rx ry h;obtain⟨d,e,hd,he,sd,se,q⟩:=h;obtain⟨as,r1⟩:=DV.reads I d hd rx;obtain⟨bs,r2⟩:=DV.reads I e he ry;exact eq_dataH r1 r2 sd se hu ⟨.bl _,H,I,rfl,q⟩
theorem mw (hu:X.A.units+64 < cLine):OpR X (akW .NotEq) (ahJ X.K):=by
 intro pins s σ H x y v u Q I rx ry h;obtain⟨d,e,hd,he,sd,se,q⟩:=h;obtain⟨as,r1⟩:=DV.reads I d hd rx;obtain⟨bs,r2⟩:=DV.reads I e he ry;exact ne_dataH r1 r2 sd se hu ⟨.bl _,H,I,rfl,q⟩
end
theorem FE (K:bo)(H:Hp):∀ws:List Str,DVs K H (ws.map akS) (ws.map V.str)
 |[]=>by unfold DVs;rfl
 |w::ws=>by
  show DVs K H (akS w::ws.map akS) _;unfold DVs;exact⟨_,_,rfl,by unfold DV;rfl,FE K H ws⟩
theorem vV {K:bo}{H:Hp}{a:Addr}{ws:List Str}(h:SqL K H a (ws.map V.str)):DV K H (.list (ws.map akS)) (.ref a):=by
 unfold DV;exact⟨a,_,rfl,h,FE K H ws⟩
theorem yR:∀vs ws:List Str,akQ (vs.map akS) (ws.map akS)=decide (vs=ws)
 |[],[]=>by simp[akQ]
 |[],_::_=>by simp[akQ]
 |_::_,[]=>by simp[akQ]
 |a::r,b::t=>by
  simp only[km,akQ,akR,yR r t]
  by_cases h:a=b <;> by_cases h':r=t <;> simp[h,h']
theorem sC:∀ws:List Str,(∀w∈ws,ako w=true)->aj1 (ws.map akS)=true
 |[],_=>by simp[aj1]
 |w::ws,h=>by
  simp only[km,aj1,akm,akG];exact⟨h w fe,sC ws λv hv=>h v (ky _ hv)⟩
theorem uL:∀ws:List Str,aks (ws.map akS)<=1
 |[]=>by simp[aks]
 |w::ws=>by
  have:=uL ws;simp only[km,aks,akE];omega
theorem nQ {ws:List Str}(h:∀w∈ws,ako w=true):ale (.list (ws.map akS))=true:=by
 have h1:=uL ws;have h2:akE (.list (ws.map akS))<=64:=by simp only[akE];omega
 show (akm (.list (ws.map akS)) && decide (akE (.list (ws.map akS))<=64))=true;rw[akG];exact⟨by simp only[akm];exact sC ws h,decide_eq_true h2⟩
theorem AJ:∀ {ys:List Str} {us:List Value},Vals (ys.map V.str) us->StrsAre us ys
 |[],_,.nil=>.nil
 |y::ys,_,.cons r t=>by
  obtain⟨tk,rfl⟩:=r;exact .cons y tk (AJ t)
theorem sD:∀l:List (Str×Tok),Vals ((l.map (·.1)).map V.str) (strValues l)
 |[]=>.nil
 |p::l=>.cons ⟨p.2,rfl⟩ (sD l)
section
variable{X:Cx}
def rJoin (K:bo):V->List V->Hp->VK->Prop:=λx vs H Q=>∃sep a ys,x=.str sep/\vs=[.ref a]/\SqL K H a (ys.map V.str)/\(ys.map (·.length)).sum+ys.length * sep.length<=16777216/\Q (.str (si sep ys)) H
theorem Ee:MtR X "str.join" (rJoin X.K):=by
 intro pins s σ H x vs v us Q I rx rv h;obtain⟨sep,a,ys,rfl,rfl,hq,hz,q⟩:=h;obtain⟨t,rfl⟩:=rx;obtain⟨u,rfl,ru⟩:=rv.one;cases ru;obtain⟨its,r,pl,_⟩:=I.list hq;refine join_list pl.isList (AJ (by simpa using r)) hz λt' k=>?_
 rw[show Txt.join sep ys=si sep ys from StrLaws.glued_eq_join sep ys]
 exact⟨.str _,H,I.tok _,⟨_,rfl⟩,q⟩
def Vg:V->List V->Hp->VK->Prop:=λx vs H Q=>∃z y,x=.str z/\vs=[.str y]/\(y.length == 0)=false/\z.length+2<=gr/\∀p,H p=none->Q (.ref p) (upd H p (.lst ((Txt.split z y).map V.str)))
theorem FF:MtR X "str.split" Vg:=by
 intro pins s σ H x vs v us Q I rx rv h;obtain⟨x,y,rfl,rfl,hy,hsz,q⟩:=h;obtain⟨t,rfl⟩:=rx;obtain⟨_,rfl,u,rfl⟩:=rv.one;have hn:(Builtin.Str.partsBetween x (ak9 x y 0 x.length (x.length+1)) y.length).length<=gr:=by
  have e1:=StrLaws.occ_length_le x y 0 x.length (x.length+1);rw[length_partsBetween];omega
 have fin:∀(l:List (Str×Tok)) (tk:Nat),l.map (·.1)=Txt.split x y->(Txt.split x y).length<=gr ->
   EP X pins σ Q (.ref s.heap.objs.size) { s with heap:=s.heap.push { cls:=.type "list",data:=.seq (strValues l).toArray },toks:=tk }:=λl tk e hz=>by
  refine⟨.ref _,_,I.ZR (t':=tk) (ys:=(Txt.split x y).map V.str) (by rw[<-e];exact sD l) (by rw[ba];exact hz),rfl,q _ I.fresh⟩
 have ZU:1<=gr:=by omega
 cases h1:(decide (x.length < y.length) || decide (Builtin.Str.strKind x < Builtin.Str.strKind y))
 ·cases hf:(ak9 x y 0 x.length (x.length+1)).isEmpty
  ·refine call_meets F.slot_str_split (typeIs_str _ _ _) F.entry_str_split (F.args_str_split_2 _ _) (meets_str_split_sep x y t u h1 hy hf (by omega) hn) ?_
   have e:Txt.split x y=Builtin.Str.partsBetween x (ak9 x y 0 x.length (x.length+1)) y.length:=(if_neg (ne_true_of_eq_false h1)).trans (if_neg (ne_true_of_eq_false hf));show wants (EP X pins σ Q) X.xe _ { s with toks:=_,heap:=s.heap.push { cls:=.type "list",data:=.seq (strsFrom s.toks (Builtin.Str.partsBetween x (ak9 x y 0 x.length (x.length+1)) y.length)).toArray } }
   rw[strsFrom_eq];exact fin (numbered s.toks _) _ ((numbered_texts _ _).trans e.symm) (by rw[e];exact hn)
  ·have e:Txt.split x y=[x]:=(if_neg (ne_true_of_eq_false h1)).trans (if_pos hf);exact call_meets F.slot_str_split (typeIs_str _ _ _) F.entry_str_split (F.args_str_split_2 _ _) (meets_str_split_not_found x y t u h1 hy hf)
    (fin [(x,t)] s.toks e.symm (by rw[e];exact ZU))
 ·have e:Txt.split x y=[x]:=if_pos h1;exact call_meets F.slot_str_split (typeIs_str _ _ _) F.entry_str_split (F.args_str_split_2 _ _) (meets_str_split_cannot_occur x y t u h1)
   (fin [(x,t)] s.toks e.symm (by rw[e];exact ZU))
theorem vW:OpR X (binaryOp .Add) (λx y H Q=>∃l b xs zs,x=.ref l/\y=.ref b/\H l=some (.lst xs)/\H b=some (.lst zs)/\xs.length+zs.length<=gr/\∀p,H p=none->Q (.ref p) (upd H p (.lst (xs++zs)))):=Vb
end
theorem fH (a b:Str):(a++b).cps.toList=a.cps.toList++b.cps.toList:=by
 show (a.cps++b.cps).toList=_;simp
theorem FG (c:Nat):∀(a b p q:List Nat),c∉a->c∉b->a++c::p=b++c::q->a=b/\p=q
 |[],[],p,q,_,_,e=>by simpa using e
 |[],y::b,p,q,_,hb,e=>by
  have e':c::p=y::(b++c::q):=e;injection e' with e1 _
  exact absurd (by rw[e1];exact fe) hb
 |x::a,[],p,q,ha,_,e=>by
  have e':x::(a++c::p)=c::q:=e;injection e' with e1 _
  exact absurd (by rw[<-e1];exact fe) ha
 |x::a,y::b,p,q,ha,hb,e=>by
  have e':x::(a++c::p)=y::(b++c::q):=e;injection e' with e1 e2
  obtain⟨h1,h2⟩:=FG c a b p q (λh=>ha (ky _ h)) (λh=>hb (ky _ h)) e2
  exact⟨by rw[e1,h1],h2⟩
theorem Eg {a b:Str}(h:a.cps.toList=b.cps.toList):a=b:=by
 cases a;cases b;have:=Array.toList_inj.mp h;subst this;rfl
theorem jD (c:Nat)(x y:Str)(r:List Str):(si ⟨#[c]⟩ (x::y::r)).cps.toList=x.cps.toList++c::(si ⟨#[c]⟩ (y::r)).cps.toList:=by
 show ((x++⟨#[c]⟩)++si ⟨#[c]⟩ (y::r)).cps.toList=_;rw[fH,fH];simp
theorem FH (c:Nat):∀(vs ws:List Str),vs≠[]->ws≠[]->(∀v∈vs,c∉v.cps.toList)->(∀w∈ws,c∉w.cps.toList)->si ⟨#[c]⟩ vs=si ⟨#[c]⟩ ws->vs=ws
 |[],_,h,_,_,_,_=>absurd rfl h
 |_,[],_,h,_,_,_=>absurd rfl h
 |[x],[y],_,_,_,_,e=>by rw[show x=y from e]
 |[x],y::z::r,_,_,hv,_,e=>by
  have e1:=congrArg (λt:Str=>t.cps.toList) e
  have e2:x.cps.toList=y.cps.toList++c::(si ⟨#[c]⟩ (z::r)).cps.toList:=e1.trans (jD c y z r);exact absurd (by rw[e2];exact Lk _ fe) (hv x fe)
 |x::z::r,[y],_,_,_,hw,e=>by
  have e1:=congrArg (λt:Str=>t.cps.toList) e
  have e2:x.cps.toList++c::(si ⟨#[c]⟩ (z::r)).cps.toList=y.cps.toList:=(jD c x z r).symm.trans e1;exact absurd (by rw[<-e2];exact Lk _ fe) (hw y fe)
 |x::x2::r,y::y2::q,_,_,hv,hw,e=>by
  have e1:=congrArg (λt:Str=>t.cps.toList) e
  have e2:=(jD c x x2 r).symm.trans (e1.trans (jD c y y2 q));obtain⟨h1,h2⟩:=FG c _ _ _ _ (hv x fe) (hw y fe) e2;have h3:=FH c (x2::r) (y2::q) (akq _ _) (akq _ _) (λv h=>hv v (ky _ h)) (λw h=>hw w (ky _ h)) (Eg h2)
  rw[Eg h1,h3]
theorem NS (x y:Str):Txt.split x y≠[]:=by
 unfold Txt.split;split
 ·exact akq _ _
 ·split
  ·exact akq _ _
  ·rw[StrLaws.partsBetween_eq];intro h;have:=congrArg akT h;revert this;cases (ak9 x y 0 x.length (x.length+1)) <;> simp[StrLaws.partsFrom]
theorem Jm {c:Nat}{ws:List Str}(h0:ws≠[])(h:∀w∈ws,c∉w.cps.toList):Txt.split (si ⟨#[c]⟩ ws) ⟨#[c]⟩=ws :=
 FH c _ _ (NS _ _) h0 (StrLaws.split_free _ c) h (StrLaws.join_split _ _)
theorem ub (c:Nat):∀ws:List Str,(si ⟨#[c]⟩ ws).length<=(ws.map (·.length)).sum+ws.length
 |[]=>akX _
 |[x]=>by show x.length<=_;simp
 |x::y::r=>by
  have ih:=ub c (y::r);have e:(si ⟨#[c]⟩ (x::y::r)).length=x.length+1+(si ⟨#[c]⟩ (y::r)).length:=by
   have:=congrArg akT (jD c x y r);rw[me,aj3]at this;have l1:∀z:Str,z.cps.toList.length=z.length:=λz=>by simp[Str.length]
   rw[l1,l1,l1]at this;omega
  simp only[km,List.sum_cons,aj3]at ih ⊢;omega
theorem Cu {c:Nat}:∀ {ws:List Str},ws≠[]->(∀w∈ws,1<=w.length)->1<=(si ⟨#[c]⟩ ws).length
 |[],h,_=>absurd rfl h
 |[x],_,h=>h x fe
 |x::y::r,_,h=>by
  have h1:=h x fe;have:=congrArg akT (jD c x y r);rw[me]at this;have l1:∀z:Str,z.cps.toList.length=z.length:=λz=>by simp[Str.length]
  rw[l1,l1]at this;omega
theorem xI {b:Bool}{A B:Prop}(hb:b=true)(h:B):if (!b)=true then A else B:=by
 subst hb;exact bZ h
theorem qX {b:Bool}{A B:Prop}(hb:b=true)(h:A):if b=true then A else B:=by
 subst hb;exact dW h
theorem qY {b:Bool}{A B:Prop}(hb:b=false)(h:B):if b=true then A else B:=by
 subst hb;exact bZ h
theorem aB {H:Hp}{p:Addr}{o:HO}(h:H p=none):bu H (upd H p o):=λb u e=>by
 rw[aw (aI e h)];exact e
theorem bu.own {H H':Hp}{p:Addr}{o:HO}(s:bu H H')(h:H p=none):bu H (upd H' p o):=λb u e=>by
 rw[aw (aI e h)];exact s b u e
theorem bu.new {H H':Hp}{p:Addr}{o:HO}(s:bu H H')(h:H' p=none):bu H (upd H' p o):=s.trans (aB h)
theorem bu.nn {H H':Hp}(s:bu H H'){p:Addr}{o:HO}(h:H p=none)(e:H' p=some o){b:Addr}{u:HO}(eb:H b=some u):b≠p:=aI eb h
theorem AK (xs:List V)(k:Nat):gy xs (some (k:Int)) none=xs.drop k:=by
 unfold gy;rw[HT.vP,HT.Fy]
 by_cases h:k<=xs.length
 ·rw[Nat.min_eq_left h];exact List.take_of_length_le (by rw[alg];exact kq _)
 ·have h':xs.length<=k:=by omega
  rw[Nat.min_eq_right h',List.drop_of_length_le h',List.drop_of_length_le (kq _)];simp
theorem Te {α:Type}{xs:List α}{i:Int}{n:Nat}(hn:xs.length=n)(h0:0<=i)(h1:i < n):∃c,atI xs i=some c/\c∈xs:=by
 have hi:i.toNat < xs.length:=by omega
 have e:((i.toNat:Nat):Int)=i:=by omega
 refine⟨xs[i.toNat],?_,List.getElem_mem hi⟩;have q:=dI (wa hi);rw[e]at q;exact q
def fP (scope outer:Scope):Scope :=
 { scope with names:=scope.names.map λ(n,k)=>if (k == .free && outer.kind == .function && outer.names.lookup n == some .cell) then (n,.cell) else (n,k) }
structure eA (scope outer:Scope)(x:Str)(N M:List Str):Prop where
 kind:scope.kind=.function
 NT:outer.kind=.function
 Eh:∀y∈scope.names,y.2≠.cell
 names:∀y∈scope.names,y.2=.local->scope.names.lookup y.1=some .local
 hx:scope.names.lookup x=some .local
 free:∀y∈scope.names,y.2=.free->outer.names.lookup y.1=some .cell
 nl:∀n∈M,(fP scope outer).names.lookup n≠some .local
 ndM:M.Nodup
 nd:N.Nodup
 len:M.length=N.length
 rel:∀i:Nat,i < N.length->M[i]?=N[i]?\/M[i]?=some akw
 em:(fP scope outer).names.lookup akw=none
theorem eA.mem {scope outer:Scope}{x:Str}{N M:List Str}(S:eA scope outer x N M){n:Str}{k:NameKind}(h:(fP scope outer).names.lookup n=some k)(hk:k=.cell\/k=.free) :
  k=.cell/\(n,ak8)∈scope.names/\outer.names.lookup n=some .cell:=by
 obtain⟨⟨n',k'⟩,hm,e⟩:=List.mem_map.mp (ak3 h);dsimp only at e
 by_cases hc:(k' == ak8 && outer.kind == .function && outer.names.lookup n' == some .cell)=true
 ·rw[if_pos hc]at e;injection e with e1 e2
  subst e1 e2;rw[akG,akG]at hc;have hk':k'=.free:=beq_iff_eq.mp hc.1.1;subst hk';exact⟨rfl,hm,beq_iff_eq.mp hc.2⟩
 ·rw[if_neg hc]at e;injection e with e1 e2
  subst e1 e2;rcases hk with z | z
  ·exact absurd z (S.Eh _ hm)
  ·subst z
   exfalso
   refine hc ?_;rw[S.free _ hm rfl,S.NT];rfl
theorem Ei {env:Env}{f:Str×NameKind->List (Str×Addr)->Sem (ForInStep (List (Str×Addr)))}
  (h1:∀n k r,k≠ak8->f (n,k) r=pure (.yield r)) (h2:∀n r c,env.cells.lookup n=some c->f (n,.free) r=pure (.yield ((n,c)::r))) :
  ∀(ns:List (Str×NameKind)) (acc:List (Str×Addr)),(∀y∈ns,y.2=.free->∃c,env.cells.lookup y.1=some c)->(∀n c,acc.lookup n=some c->env.cells.lookup n=some c) ->
   ∃cl,(forIn ns acc f:Sem (List (Str×Addr)))=pure cl/\(∀n c,cl.lookup n=some c->env.cells.lookup n=some c)/\(∀n c,acc.lookup n=some c->(cl.lookup n).isSome=true)/\∀y∈ns,y.2=.free->(cl.lookup y.1).isSome=true
 |[],acc,_,ha=>⟨acc,by simp,ha,λn c e=>by rw[e];rfl,λy hy=>nomatch hy⟩
 | (n,k)::ns,acc,hn,ha=>by
  by_cases hk:k=ak8
  ·subst hk;obtain⟨c,hc⟩:=hn (n,.free) fe rfl;have ha':∀m d,((n,c)::acc).lookup m=some d->env.cells.lookup m=some d:=λm d e=>by
    rw[List.lookup_cons]at e;split at e
    ·rename_i hb;have:m=n:=beq_iff_eq.mp hb;subst this;rw[<-ajZ e];exact hc
    ·exact ha m d e
   obtain⟨cl,e,p1,p2,p3⟩:=Ei h1 h2 ns ((n,c)::acc) (λy hy=>hn y (ky _ hy)) ha'
   have hnn:(cl.lookup n).isSome=true:=p2 n c (by simp[List.lookup_cons])
   refine⟨cl,?_,p1,λm d em=>?_,λy hy hf=>?_⟩
   ·rw[List.forIn_cons,h2 n acc c hc,pure_bind];exact e
   ·by_cases hm:m=n
    ·subst hm;exact hnn
    ·exact p2 m d (by rw[List.lookup_cons,show (m == n)=false from beq_eq_false_iff_ne.mpr hm];exact em)
   ·rcases List.mem_cons.mp hy with rfl | hy
    ·exact hnn
    ·exact p3 y hy hf
  ·obtain⟨cl,e,p1,p2,p3⟩:=Ei h1 h2 ns acc (λy hy=>hn y (ky _ hy)) ha
   refine⟨cl,?_,p1,p2,λy hy hf=>?_⟩
   ·rw[List.forIn_cons,h1 n k acc hk,pure_bind];exact e
   ·rcases List.mem_cons.mp hy with rfl | hy
    ·exact absurd hf hk
    ·exact p3 y hy hf
theorem C4 {scope:Scope}{env:Env}(h:∀y∈scope.names,y.2=.free->∃c,env.cells.lookup y.1=some c) :
  ∃cl,closureFor scope env=pure cl/\(∀n c,cl.lookup n=some c->env.cells.lookup n=some c)/\∀y∈scope.names,y.2=.free->(cl.lookup y.1).isSome=true:=by
 unfold closureFor;obtain⟨cl,e,p1,_,p3⟩:=Ei (env:=env) (f:=λx r=>match x with | (name,kind)=>if (kind == ak8)=true then do let a <-cellOf env name;pure (.yield ((name,a)::r)) else pure (.yield r))
  (λn k r hk=>by
   have:(k == ak8)=false:=beq_eq_false_iff_ne.mpr hk;simp only[this,Bool.false_eq_true,if_false])
  (λn r c hc=>by
   simp only[beq_self_eq_true,if_true];unfold cellOf;rw[hc];rw[pure_bind])
  scope.names [] h (λn c e=>by simp at e)
 refine⟨cl,?_,p1,p3⟩;have e':=congrArg (λz:Sem (List (Str×Addr))=>z >>= λcs=>pure cs) e
 simp only[pure_bind]at e';exact e'
def iX (X:Cx)(x:Str)(M:List Str)(scope:Scope)(cl:List (Str×Addr))(C:Addr)(s:Shared)(H:Hp)(fp:List Addr):Cx :=
 { X with N:=x::M,s₀:=s,H₀:=H,env:=compEnvC scope cl C X.env,outer:=X.stack,ex:=fp,fn:=λ_=>false,pn:=[],xe:=λ_ _=>False }
def vX (J:It)(te:TE)(σ:St)(D:Addr)(H1:Hp)(Q:VK):Prop:=∃W:Nat->Nat->List V->Hp->Prop,(∃m,W 0 m [] (upd H1 D (.lst [])))/\∀i m ys H2,W i m ys H2 ->
 H2 D=some (.lst ys)/\((J.stop i H2/\Q (.ref D) H2)\/(J.go i H2/\ys.length < gr/\∀x H3,J.yld i H2 x H3->te (some x::σ) H3 λy H4=>H4 D=some (.lst ys)/\∃m',m' < m/\W (i+1) m' (ys++[y]) (upd H4 D (.lst (ys++[y])))))
def NU (wi:TI)(te:TE):TE:=λσ H Q=>wi σ H λJ H1=>∀D,H1 D=none->vX J te σ D H1 Q
section
variable{X:Cx}{pins:List (Addr×Obj)}{σ:St}{H:Hp}{s:Shared}{elt iter:Expr}{x:Str}{px pos:Pos}{scope:Scope}{wi:TI}{te:TE}{Q:VK}{M:List Str}
theorem QZ {cl:List (Str×Addr)}{C:Addr}{fp:List Addr}(S:eA scope X.env.scope x X.N M)(I:Inv X pins σ H s)(hC:s.heap.objs.size<=C)(p1:∀n c,cl.lookup n=some c->X.env.cells.lookup n=some c)
  (p3:∀y∈scope.names,y.2=.free->(cl.lookup y.1).isSome=true) (f2:∀b∈fp,lh X pins H b) (fo:∀b∈fp,b < s.heap.objs.size):(iX X x M scope cl C s H fp).Ok where
 mod:=I.ok.mod
 kind:=S.kind
 glob:=I.ok.glob
 blt:=I.ok.blt
 above:=hC
 inj:=λy z c h1 h2=>I.ok.inj y z c (p1 y c h1) (p1 z c h2)
 has:=λy hy=>by
  have hy':(fP scope X.env.scope).names.lookup y=some .cell\/(fP scope X.env.scope).names.lookup y=some .free:=hy;have hm:(y,ak8)∈scope.names:=by
   rcases hy' with z | z
   ·exact(S.mem z (.inl rfl)).2.1
   ·exact(S.mem z (.inr rfl)).2.1
  exact Option.isSome_iff_exists.mp (p3 _ hm rfl)
 cab:=λy c h=>absurd h ma
 hd:=I.ok.hd
 frames:=I.ok.frames
 stk:=.inl rfl
 exf:=λb hb=>⟨akj (akf (fo b hb) hC),λy c e=>(f2 b hb).2.2.2.2.1 y c (p1 y c e)⟩
 bs:=I.bs
 bsz:=adm I.ok.bsz I.sz
 IQ:=λb o e hb=>by
  rcases (f2 b hb).2.2.2.1 with z | z
  ·exact I.ok.IQ b o e z
  ·exact absurd (akf (tm (I.ok.bs b o e).1) z) (Nat.lt_irrefl _)
 IS:=λb hb z=>by
  rcases List.mem_cons.mp (I.DZ b z) with e | e
  ·exact(f2 b hb).2.1 e
  ·exact(f2 b hb).2.2.1 e
 uJ:=I.stack
 frf:=I.D0
theorem NV {cl:List (Str×Addr)}{C D:Addr}{fp:List Addr}{h₁:Heap}{tk:Nat}{m:Str->Option Value}(S:eA scope X.env.scope x X.N M)(I:Inv X pins σ H s)(hC:s.heap.objs.size<=C)(hD:s.heap.objs.size<=D)(hDC:D≠C)
  (p1:∀n c,cl.lookup n=some c->X.env.cells.lookup n=some c)
  (p3:∀y∈scope.names,y.2=.free->(cl.lookup y.1).isSome=true) (f2:∀b∈fp,lh X pins H b) (fo:∀b∈fp,b < s.heap.objs.size)
  (old:∀b o,s.heap.get? b=some o->h₁.get? b=some o) (hn:h₁.Ns C m) (hl:h₁.get? D=some { cls:=.type "list",data:=.seq ([]:List Value).toArray }) :
  Inv (iX X x M scope cl C s H fp) [] (none::σ) (upd H D (.lst [])) { s with heap:=h₁,toks:=tk }:=by
 have cellK:∀c v,s.heap.IsCell c v->h₁.IsCell c v:=λc v ⟨o,e,d⟩=>⟨o,old c o e,d⟩
 refine⟨QZ S I hC p1 p3 f2 fo,rfl,I.bare,Un.laid old hD (I.hok.fresh hD),⟨m,hn,λi n v h1 h2 h3=>?_⟩,λy c e=>?_,?_,λy c e=>?_,λp hp=>absurd (show p∈([]:List (Addr×Obj)) from hp) (by simp),I.hok.laid old hD ⟨akX _,[],0,.nil,hl⟩,?_⟩
 ·cases i with
  |zero =>
   have h2':(none:Option V)=some v:=by simpa using h2
   cases h2'
  |succ i =>
   have h0':M[i]?=some n:=by simpa [iX] using h1
   have h2':σ[i]?=some (some v):=by simpa using h2
   have h3':(fP scope X.env.scope).names.lookup n=some .local\/(fP scope X.env.scope).names.lookup n=some .cell\/(fP scope X.env.scope).names.lookup n=some .free:=h3;have vL:(fP scope X.env.scope).names.lookup n=some .cell/\(n,ak8)∈scope.names/\X.env.scope.names.lookup n=some .cell:=by
    rcases h3' with z | z | z
    ·exact absurd z (S.nl n (akl h0'))
    ·exact⟨z,(S.mem z (.inl rfl)).2⟩
    ·exact absurd (S.mem z (.inr rfl)).1 (by decide)
   have h1':X.N[i]?=some n:=by
    have hi:i < X.N.length:=by rw[<-S.len];exact(List.getElem?_eq_some_iff.mp h0').1
    rcases S.rel i hi with z | z
    ·rw[<-z];exact h0'
    ·rw[h0']at z;have e:n=akw:=ajZ z;rw[e,S.em]at vL;cases vL.1
   obtain⟨m0,hn0,hl0⟩:=I.loc;obtain⟨u,r,l⟩:=hl0 i n v h1' h2' (.inr (.inl vL.2.2));refine⟨u,r,.inr ⟨.inl vL.1,?_⟩⟩;obtain⟨c,hc⟩:=Option.isSome_iff_exists.mp (p3 _ vL.2.1 rfl);refine⟨c,hc,?_⟩;rcases l with ⟨k,_⟩ | ⟨_,c',hc',z⟩
   ·have k':X.env.scope.names.lookup n=some .local:=k;rw[vL.2.2]at k';cases k'
   ·rw[p1 n c hc]at hc';cases hc';exact cellK c _ z
 ·obtain⟨v,z⟩:=I.cell y c (p1 y c e);exact⟨v,cellK c v z⟩
 ·show (upd H D (.lst [])) C=none;rw[aw (akp hDC)];exact I.hok.fresh hC
 ·obtain⟨v,z⟩:=I.cell y c (p1 y c e);rw[aw (akj (akf z.lt hD))];exact I.qW y c (p1 y c e)
 ·show (none::σ).length=(x::M).length;rw[aj3,aj3,I.len,S.len]
theorem C5 {cl:List (Str×Addr)}{RR:Value->Addr->Result->Shared->Prop}(S:eA scope X.env.scope x X.N M)(hc:X.calm=true)(hi:PI X (.Name x px) iter wi)
  (he:∀cl C s H fp,PE (iX X x M scope cl C s H fp) elt te) (I:Inv X pins σ H s) (h:NU wi te σ H Q)
  (p1:∀n c,cl.lookup n=some c->X.env.cells.lookup n=some c) (p3:∀y∈scope.names,y.2=.free->(cl.lookup y.1).isSome=true)
  (hRR:∀D C H' s' o m,Inv X (pins++[(C,o)]) σ H' s'->s'.heap.get? C=some o->s'.heap.Ns C m->X.s₀.heap.objs.size<=C->(∀y c,X.env.cells.lookup y=some c->c≠C)->(∀p∈X.pn++pins,p.1≠C)->Q (.ref D) H'->RR (.ref D) C (.ok .next) s') :
  wpAny (model X.prog X.w) X.A (eval iter X.env) (λxv s₁=>wpAny (model X.prog X.w) X.A (pyIter xv) (λit s₂=>wpAny (model X.prog X.w) X.A (newList []) (λacc s₃ =>
   wpAny (model X.prog X.w) X.A (newFunctionEnv scope X.env.globals cl [] X.env.qual none .none (some X.env)) (λZV s₄ =>
    codeAny (model X.prog X.w) X.A (.compStart (.ListComp elt [⟨.Name x px,iter,[],0⟩] scope pos) 0 it acc { ZV with scope:=relabel scope X.env }) (RR acc ZV.locals) s₄) X.xe s₃) X.xe s₂) X.xe s₁) X.xe s:=by
 refine thn (hi pins s σ H _ I h) λv s1 h1=>thn h1 λitv s2 h2=>?_
 obtain⟨it,fp,tn,J,H2,rfl,I2,T,st2,f2,q⟩:=h2;refine wpAny_newObj_type (wpAny_newFunctionEnv S.Eh (by intro y hy;simp at hy) (λh₁ hns₁ hsb₁=>?_) S.kind)
 dsimp only at hns₁ hsb₁ ⊢;generalize hHH:s2.heap.push { cls:=.type "list",dict:=none,data:=.seq ([]:List Value).toArray }=HH at hns₁ hsb₁ ⊢;have hCs:HH.objs.size=s2.heap.objs.size+1:=by rw[<-hHH,Heap.size_push]
 have hDC:s2.heap.objs.size≠HH.objs.size:=by rw[hCs];exact akj (Nat.lt_succ_self _)
 have ZW:s2.heap.objs.size<=HH.objs.size:=by rw[hCs];exact akY _
 have below:∀b,b < s2.heap.objs.size->b≠HH.objs.size:=λb hb=>by rw[hCs];exact akj (Nat.lt_succ_of_lt hb)
 have old:∀b o,s2.heap.get? b=some o->h₁.get? b=some o:=λb o e=>hsb₁.extBut b o (below b (tm e)) (kg _ (hHH▸kg _ e))
 have Jn:h₁.get? s2.heap.objs.size=some { cls:=.type "list",data:=.seq ([]:List Value).toArray }:=hsb₁.extBut _ _ hDC (kg _ (hHH▸akg _ rfl));have fo:∀b∈fp,b < s2.heap.objs.size:=λb hb=>by
  obtain⟨o,e,_⟩:=T.obj _ _ st2 b hb;exact tm e
 have IY:=NV (tk:=s2.toks+([]:List (Str×Value)).length) S I2 ZW (kq _) hDC p1 p3 f2 fo old hns₁ Jn;have st1:tn 0 h₁:=T.keep _ _ _ st2 λb _ o e=>old b o e
 obtain⟨W,⟨m0,w0⟩,turn⟩:=q _ (I2.hok.fresh (kq _));generalize hC:HH.objs.size=C at *;generalize hDD:s2.heap.objs.size=D at *;have ndY:(iX X x M scope cl C s2 H2 fp).N.Nodup:=by
  refine List.nodup_cons.mpr ⟨λhm=>S.nl x hm (lookup_relabel_local S.hx),S.ndM⟩
 have stat:∀ {H':Hp},(∀b∈fp,H' b=none)->∀b∈fp,lh (iX X x M scope cl C s2 H2 fp) [] H' b:=λhn b hb =>
  ⟨hn b hb,below b (fo b hb),IY.ok.IS b hb,.inl hb,λy c e=>(f2 b hb).2.2.2.2.1 y c (p1 y c e),λp hp=>absurd (show p∈([]:List (Addr×Obj)) from hp) (by simp)⟩
 have loop:codeAny (model X.prog X.w) X.A (.compLoop (.ListComp elt [⟨.Name x px,iter,[],0⟩] scope pos) 0 (.ref it) (.ref D) (compEnvC scope cl C X.env)) (RR (.ref D) C) { s2 with heap:=h₁,toks:=s2.toks+([]:List (Str×Value)).length }:=by
  refine codeAny_compLoop_tests (λn s'=>∃i v0 ys H',Inv (iX X x M scope cl C s2 H2 fp) [] (v0::σ) H' s'/\tn i s'.heap/\(∀b∈fp,H' b=none)/\W i n ys H') ?_ m0 ⟨0,none,[],_,IY,st1,λb hb=>?_,w0⟩
  ·rintro n s3 ⟨i,v0,ys,H3,I3,st3,fr3,w3⟩;obtain⟨hDl,hw⟩:=turn i n ys H3 w3;rcases hw with ⟨stop,qn⟩ | ⟨go,hsz,step⟩
   ·refine thn (T.done (iX X x M scope cl C s2 H2 fp) rfl rfl rfl hc i [] s3 _ H3 _ I3 (stat fr3) st3 stop) λr s4 ⟨hr,I4⟩=>?_
    subst hr;obtain⟨m4,hn4,_⟩:=I4.loc;obtain⟨oC,es4,ep4,e4,r4⟩:=id hn4;have ZX:s2.heap.objs.size<=C:=by rw[hDD];exact ZW
    have IX:Inv X pins σ H3 s4:=I2.Nt (ch:=fp) I4.os I4.base I4.hok I4.bare λb hb=>⟨(f2 b hb).2.2.2.1,(f2 b hb).2.1,(f2 b hb).2.2.2.2.1,(f2 b hb).2.2.2.2.2⟩
    have fC:=I2.D4 (H':=H3) ZX I4.free;have IX2:Inv X (pins++[(C,oC)]) σ H3 s4:=IX.D1 λp hp=>(List.mem_append.mp hp).elim (λz=>IX.pin p (Lk _ z)) λz=>by
     have e:p=(C,oC):=by simpa using z
     subst e;exact⟨e4,fC.1,fC.2.1,fC.2.2.1,λv z=>by rw[r4.1]at z;cases z⟩
    exact hRR D C H3 s4 oC m4 IX2 e4 hn4 (adm I2.sz ZX) fC.2.2.2.2.1 fC.2.2.2.2.2 qn
   ·refine thn (T.item (iX X x M scope cl C s2 H2 fp) rfl rfl rfl hc i [] s3 _ H3 _ I3 (stat fr3) st3 go) λr s4 ⟨u,hr,h4⟩=>?_
    subst hr;have e0:∀k:Sem Unit,(letOwnedTupleGo (.Name x px) (.ref it) u >>= λ_=>k)=k:=λk=>by
     rw[show letOwnedTupleGo (.Name x px) (.ref it) u=pure () from rfl,pure_bind]
    show wpAny _ _ (assign (.Name x px) (compEnvC scope cl C X.env) u) _ _ s4;rw[<-e0 (assign (.Name x px) (compEnvC scope cl C X.env) u)];refine fu (thn h4 λ_ s5 ⟨xv,H5,I5,r5,y5,st5,fr5⟩=>?_)
    have I5':=I5.pinned (stat fr5) (T.obj _ _ st5);have hxl:(iX X x M scope cl C s2 H2 fp).env.scope.names.lookup x=some .local:=lookup_relabel_local S.hx;refine wpAny_assign_Name (vJ (X:=iX X x M scope cl C s2 H2 fp) (i:=0) I5' ndY rfl (wt hxl) r5 (λs6 I6=>?_) (.inr hxl))
    refine wpAny_tests_nil ?_;rw[if_pos rfl];refine aki (he cl C s2 H2 fp _ s6 _ H5 _ I6 (step xv H5 y5)) (λy s7 ⟨yv,H7,I7,r7,hD7,m',hm',w7⟩=>?_) (λ_ _ f=>f.elim)
    refine aki (dn (X:=iX X x M scope cl C s2 H2 fp) _ s7 _ H7 (.ref D) [yv] (.ref D) [y] (λ_ H8=>H8=upd H7 D (.lst (ys++[yv]))) I7 rfl (.cons r7 .nil) ⟨D,ys,yv,rfl,rfl,hD7,hsz,rfl⟩)
     (λ_ s8 ⟨_,H8,I8,_,e8⟩=>?_) (λ_ _ f=>f.elim)
    subst e8;refine⟨m',hm',i+1,some xv,ys++[yv],_,I8.mq,T.keep _ _ _ st5 λb hb o e=>(I8.pin (b,o) (Lk _ (Lk _ (qA hb e)))).1,λb hb=>?_,w7⟩
    obtain⟨o,e,d⟩:=T.obj _ _ st5 b hb;exact(I8.pin (b,o) (Lk _ (Lk _ (qA hb e)))).2.1
  ·show (upd H2 D (.lst [])) b=none;rw[aw (akj (fo b hb))];exact(f2 b hb).1
 exact codeAny_compStart_list loop (T.self _ 0 _ _ _ st1 loop)
theorem An (S:eA scope X.env.scope x X.N M)(hc:X.calm=true)(hi:PI X (.Name x px) iter wi)(he:∀cl C s H fp,PE (iX X x M scope cl C s H fp) elt te)
  (hs:∀x,foldedSetIterable iter X.env x=pure x:=by intro _;rfl):PE X (.ListComp elt [⟨.Name x px,iter,[],0⟩] scope pos) (NU wi te):=by
 intro pins s σ H Q I h;obtain⟨cl,NW,p1,p3⟩:=C4 (scope:=scope) (env:=X.env) (λy hy hf=>I.ok.has y.1 (.inl (S.free y hy hf)))
 rw[eval_ListComp];refine wpAny_comprehension_free (use:=none) rfl hs NW S.kind S.names (C5 (RR:=λacc C=>compPost (model X.prog X.w) X.A X.xe none (EP X pins σ Q) acc C) S hc hi he I h p1 p3 ?_)
 intro D C H' s' o m I' e hn h0 h1 h2 q;refine⟨m,hn,λh' hs'=>?_⟩
 have pC:=I'.pin (C,o) (Lk _ (Lk _ (by simp)))
 have IX:Inv X pins σ H' s':=I'.mq;exact⟨.ref D,H',IX.turned (t':=s'.toks) (λb ob hb e=>(hs'.2 b hb).trans e) pC.2.1 pC.2.2.1 (.inr h0) h1 h2,rfl,q⟩
theorem Jo {i:Nat}{y:Str}{py ZY:Pos}(S:eA scope X.env.scope x X.N M)(hc:X.calm=true)(hj:X.N[i]?=some y)(hy:Loc X.env.scope y)(hi:PI X (.Name x px) iter wi)(he:∀cl C s H fp,PE (iX X x M scope cl C s H fp) elt te)
  (hsw:swapsWith (.ListComp elt [⟨.Name x px,iter,[],0⟩] scope pos) (some (.Name y py)) ZY.line X.env=pure true:=by rfl)
  (hf:X.fn y=true\/X.env.scope.names.lookup y=some .local:=by first | exact .inl rfl | exact .inr rfl | assumption)
  (hs:∀x,foldedSetIterable iter X.env x=pure x:=by intro _;rfl):PS X (.Assign [.Name y py] (.ListComp elt [⟨.Name x px,iter,[],0⟩] scope pos) ZY) (QM (NU wi te) (dD i)):=by
 intro pins s σ H D I h;obtain⟨cl,NW,p1,p3⟩:=C4 (scope:=scope) (env:=X.env) (λy hy hf=>I.ok.has y.1 (.inl (S.free y hy hf)))
 rw[exec_Assign_Name_used _ _ _ _ hsw];refine fu (akV (fu ?_));show wpAny _ _ (do let _ <-comprehension (.ListComp elt [⟨.Name x px,iter,[],0⟩] scope pos) scope X.env _ (newList []) false (eval iter X.env) (some (assign (.Name y py) X.env))) _ _ s
 refine fu (aki (wpAny_comprehension_free (use:=some (assign (.Name y py) X.env)) (Q:=λ_ s'=>SP X pins D .next s') rfl hs NW S.kind S.names
  (C5 (RR:=λacc C=>compPost (model X.prog X.w) X.A X.xe (some (assign (.Name y py) X.env)) (λ_ s'=>SP X pins D .next s') acc C) S hc hi he I h p1 p3 ?_)) (λ_ s' hq=>ajY (ajY hq)) λ_ _ e=>e)
 intro Dd C H' s' o m I' e hn h0 h1 h2 q;show wpAny _ _ (assign (.Name y py) X.env (.ref Dd)) _ _ s';refine wpAny_assign_Name (vJ I' S.nd hj hy (v:=.ref Dd) rfl (λs'' I''=>?_) hf)
 have pC:=I''.pin (C,o) (Lk _ (Lk _ (by simp)))
 obtain⟨o',es,ep,e0,r⟩:=hn;rw[e]at e0;cases e0;have IX:Inv X pins _ H' s'':=I''.mq;refine⟨m,⟨o,es,ep,pC.1,r⟩,λh' hs'=>?_⟩
 exact⟨_,H',IX.turned (t':=s''.toks) (λb ob hb e=>(hs'.2 b hb).trans e) pC.2.1 pC.2.2.1 (.inr h0) h1 h2,q⟩
def ie (D:Addr)(n:Nat)(Pv:Nat->List V->Hp->Prop)(i:Nat)(ys:List V):VK:=λy H4=>H4 D=some (.lst ys)/\∃m',m' < n - i/\m'=n - (i+1)/\i+1<=n/\Pv (i+1) (ys++[y]) (upd H4 D (.lst (ys++[y])))
theorem ie.mk {D:Addr}{n:Nat}{Pv:Nat->List V->Hp->Prop}{i:Nat}{ys:List V}{y:V}{H4:Hp}(hi:i < n)(h1:H4 D=some (.lst ys))(h2:Pv (i+1) (ys++[y]) (upd H4 D (.lst (ys++[y])))):ie D n Pv i ys y H4 :=
 ⟨h1,n - (i+1),by omega,rfl,hi,h2⟩
theorem xJ {K:bo}{a D:Addr}{xs:List V}{te:TE}{Q:VK}{σ:St}{H1:Hp}(Pv:Nat->List V->Hp->Prop)(h0:Pv 0 [] (upd H1 D (.lst [])))(hz:xs.length<=gr)
  (hl:∀i ys H2,i<=xs.length->Pv i ys H2->SqL K H2 a xs/\H2 D=some (.lst ys)/\ys.length=i)
  (hs:∀i x ys H2,xs[i]?=some x->Pv i ys H2->te (some x::σ) H2 (ie D xs.length Pv i ys)) (hd:∀ys H2,Pv xs.length ys H2->Q (.ref D) H2) :
  vX (Itl K a) te σ D H1 Q:=by
 refine⟨λi m ys H=>m=xs.length - i/\i<=xs.length/\Pv i ys H,⟨xs.length,by simp,akX _,h0⟩,?_⟩
 rintro i m ys H2 ⟨rfl,hi,p⟩;obtain⟨q,q2,q3⟩:=hl i ys H2 hi p;refine⟨q2,?_⟩
 by_cases hlt:i < xs.length
 ·refine .inr ⟨⟨xs,xs[i],q,by simp[hlt]⟩,by omega,λx H3 y=>?_⟩
  obtain⟨e,y⟩:=y;subst e;exact hs i x ys _ (y xs q) p
 ·have e:i=xs.length:=by omega
  subst e;exact .inl ⟨⟨xs,q,kq _⟩,hd ys H2 p⟩
theorem Jp {lo:Int}{n:Nat}{D:Addr}{te:TE}{Q:VK}{σ:St}{H1:Hp}(Pv:Nat->List V->Hp->Prop)(h0:Pv 0 [] (upd H1 D (.lst [])))(hz:n<=gr)
  (hl:∀i ys H2,i<=n->Pv i ys H2->H2 D=some (.lst ys)/\ys.length=i)
  (hs:∀i ys H2,i < n->Pv i ys H2->te (some (.int (lo+i))::σ) H2 (ie D n Pv i ys)) (hd:∀ys H2,Pv n ys H2->Q (.ref D) H2) :
  vX (Itr lo n) te σ D H1 Q:=by
 refine⟨λi m ys H=>m=n - i/\i<=n/\Pv i ys H,⟨n,by simp,akX _,h0⟩,?_⟩
 rintro i m ys H2 ⟨rfl,hi,p⟩;obtain⟨q2,q3⟩:=hl i ys H2 hi p;refine⟨q2,?_⟩
 by_cases hlt:i < n
 ·refine .inr ⟨hlt,by omega,λx H3 y=>?_⟩
  obtain⟨e,y⟩:=y;subst e y;exact hs i ys _ hlt p
 ·have e:i=n:=by omega
  subst e;exact .inl ⟨kq _,hd ys H2 p⟩
end
structure MkN (K:bo)(C:Addr):Prop where
 makes:akL K C=true
 init:cb K (.ref C) "__init__"=some (some (.builtin "object.__init__"))
 kp:da K (.ref C)=true
def Vh (C:Addr):TE:=λ_ H Q=>∀x dx,H x=none->H dx=none->dx≠x->Q (.ref x) (upd (upd H dx (.own x)) x (.ins C dx []))
section
variable{X:Cx}{C:Addr}{x:Str}{p pos:Pos}
theorem ph (M:MkN X.K C)(hg:Gl X x)(hm:X.mg x=some (.ref C))(hdb:(x == ("__debug__":Str))=false:=by decide):PE X (.Call (.Name x p) [] [] pos) (Vh C):=by
 intro pins s σ H Q I h;refine wpAny_Call_Name_kw (kh I hg hm ?_ hdb);refine alo I.kIn M.kp (wpAny_call ?_);have I2:=Inv.made (C:=C) I;have q:=h (s.heap.objs.size+1) s.heap.objs.size (I.hok.fresh (akY _)) (I.hok.fresh (kq _)) (akj (Nat.lt_succ_self _));have fin:EP X pins σ Q (.ref (s.heap.objs.size+1)) { s with heap:=(s.heap.push akt).push (akx C s.heap.objs.size) }:=⟨.ref _,_,I2,rfl,q⟩
 have X1:=I.kIn;have e2:((s.heap.push akt).push (akx C s.heap.objs.size)).get? (s.heap.objs.size+1)=some (akx C s.heap.objs.size):=by
  have:=akg (s.heap.push akt) (o:=akx C s.heap.objs.size) rfl
  rwa [Heap.size_push]at this
 clear I2 q h I;obtain⟨hh,g,d,t,os⟩:=s;have Y:=PySem.W.makes_of (M:=model X.prog X.w) X1 M.makes;refine PySem.W.make_core Y (PySem.W.looks_findIn X1 M.init) (λself=>PySem.W.Looks.of_pure (PySem.W.oi_bind self)) (.inr ⟨rfl,rfl⟩) ?_
 have t1:PySem.W.Looks (model X.prog X.w) ((hh.push akt).push (akx C hh.objs.size)) (typeOf (.ref (hh.objs.size+1))) (.ref C):=(PySem.W.Looks.ld e2).andThen .now;have t2:PySem.W.Looks (model X.prog X.w) ((hh.push akt).push (akx C hh.objs.size)) (isInstance (.ref (hh.objs.size+1)) (.type "object")) true:=t1.andThen (Y.top.keeps λb o e=>kg _ (kg _ e))
 refine codeAny_call_builtin PySem.W.oi_plain PySem.W.entry_oi (@PySem.W.check_slot (model X.prog X.w) _ _ _ "object.__init__" "object" "__init__" (.ref (hh.objs.size+1)) [] [] _ PySem.W.oi_kind PySem.W.oi_split t2 (PySem.W.oi_args (.ref (hh.objs.size+1))) ?_);show wpAny _ _ (Builtin.«object.__init__» ⟨[.ref (hh.objs.size+1)],[]⟩) _ _ _;rw[PySem.W.oi_run];exact ajY (And.intro rfl fin)
end
structure ZZ (P:Params)(K:bo)(a:Addr):Prop where
 ex:∃es n,K.lookup a=some ⟨.type "dict",none,.dict es n,#[]⟩/\PySem.W.KeysLit P es.toList
section
variable{X:Cx}
theorem NX:IxR X (λx y H Q=>∃a z v u,x=.ref a/\y=.str z/\ZZ X.w.params X.K a/\di X.K a z=some (some u)/\RelV v u/\Q v H):=by
 intro value slice pins s σ H x y v u Q I rx ry h hs;obtain⟨a,z,w',u',rfl,rfl,⟨es,n,hl,hk⟩,e,r,q⟩:=h;cases rx;obtain⟨t,rfl⟩:=ry;have hm:=PySem.W.mapOf_K (prog:=X.prog) I.kIn hl hk;exact tail_any hm.typeIs slot_dict_getitem.lookup (wpAny_getItem_of (strKind_is X.prog X.w z t) hm (PySem.W.find_K hl e) ⟨w',H,I.tok _,r,q⟩) hs
end
theorem FI (ws:List Str):akR (.list (ws.map akS)) (.list (ws.map akS))=true:=by
 show akQ _ _=true;rw[yR];exact decide_eq_true rfl
theorem Q0 (bs:List Bool):(List.range bs.length).any (λi=>bs.getD i false)=bs.any id:=by
 have e:(List.range bs.length).map (λi=>bs.getD i false)=bs:=by
  apply List.ext_getElem
  ·simp
  ·intro i h1 h2;simp[h2]
 calc _=((List.range bs.length).map (λi=>bs.getD i false)).any id:=by rw[List.any_map];rfl
  _=_:=by rw[e]
theorem FJ:∀ {bs:List Bool} {us:List Value},Vals (bs.map V.bl) us->us=bs.map Value.bool
 |[],_,.nil=>rfl
 |b::bs,_,.cons r t=>by
  cases r;rw[FJ t];rfl
section
variable{X:Cx}
theorem NY (hc:X.calm=true):lF X (.builtin "any") (λxs H Q=>∃(p:Addr) (bs:List Bool),xs=[.ref p]/\SqL X.K H p (bs.map V.bl)/\Q (.bl (bs.any id)) H):=by
 intro pins s σ H xs us Q I r h;obtain⟨p,bs,rfl,hq,q⟩:=h;obtain⟨u,rfl,rx⟩:=vals1 r;cases rx;obtain⟨its,rv,pl,hz⟩:=I.list hq;obtain rfl:=FJ rv;refine call_any_walk (wpAny_pyIter_list pl.isList ?_);obtain⟨o,n,e,_⟩:=id pl;have hlt:p < s.heap.objs.size:=tm e;refine⟨s.heap.objs.size,_,_,_,_,_,λi=>bs.getD i false,rfl,Walks.list (A:=X.A.in1) (show X.A.in1.handled=none from I.ok.hd hc) s.heap.objs.size p (akj hlt) (bs.map Value.bool).toArray,⟨⟨_,akg _ rfl,rfl,rfl⟩,pl.isList.at λo e=>kg _ e⟩,?_,λh' tk kk=>?_⟩
 ·intro i v s' Q' E' hv q';have hv':v=Value.bool (bs.getD i false):=by
   have h2:(bs.map Value.bool)[i]?=some v:=by simpa using hv
   rw[aj7]at h2;cases hb:bs[i]? with
   |none=>rw[hb]at h2;cases h2
   |some b =>
    rw[hb]at h2;rw[aj9,hb];exact(ajZ h2).symm
  rw[hv'];exact wpAny_truthy_bool q'
 ·have I1:Inv X pins σ H { s with heap:=h',toks:=tk }:=I.kept λb o e=>kk b o (by simp;exact akj (tm e)) (kg _ e)
  refine⟨.bl _,H,I1,rfl,?_⟩;have e1:(bs.map Value.bool).toArray.size=bs.length:=by simp
  rw[e1,Q0];exact q
end
def Z0 (X:Cx)(pins:List (Addr×Obj))(H:Hp)(h:Heap)(e:Addr)(vs:Array Value):Option Value->Prop
 |none=>vs[1]?=some .none
 |some m=>∃(T:Addr) (oT:Obj) (ts:Array Value),vs[1]?=some (.ref T)/\T≠e/\lh X pins H T/\h.get? T=some oT/\oT.data=.fields ts/\ts[3]?=some m
structure XAt (X:Cx)(pins:List (Addr×Obj))(H:Hp)(h:Heap)(e:Addr)(cls:Value)(xd:Option Addr)(m:Option Value):Prop where
 ok:lh X pins H e
 ex:∃(sl:Array (Option Value)) (vs:Array Value),h.get? e=some ⟨cls,xd,.fields vs,sl⟩/\1 < vs.size/\Z0 X pins H h e vs m
def MOk (_:Cx)(m:Option Value):Prop:=m=none\/m=some .none\/∃v,m=some v
def XP (X:Cx)(pins:List (Addr×Obj))(σ:St)(E:XK)(e:Value)(s':Shared):Prop :=
 ∃(ea:Addr) (cls:Value) (xd:Option Addr) (m:Option Value) (H':Hp),e=.ref ea/\Inv X pins σ H' s'/\XAt X pins H' s'.heap ea cls xd m/\MOk X m/\E cls xd H'
abbrev SXK:=St->XK
def XPS (X:Cx)(pins:List (Addr×Obj))(E:SXK)(e:Value)(s':Shared):Prop:=∃σ',XP X pins σ' (E σ') e s'
structure Fr1 (X:Cx):Prop where
 stk:X.stack=X.env::X.outer
 fr:X.env.frame=some X.env.locals
section
variable{X:Cx}{pins:List (Addr×Obj)}{σ:St}{H H':Hp}{s:Shared}{e:Addr}{cls:Value}{xd:Option Addr}{m:Option Value}
theorem lh.ahK {b:Addr}(I:Inv X pins σ H s)(f:lh X pins H' b):b∉frs X.stack:=λz=>by
 rcases List.mem_cons.mp (I.DZ b z) with q | q
 ·exact f.2.1 q
 ·exact f.2.2.1 q
theorem lh.drop {pl:List (Addr×Obj)}{b:Addr}(f:lh X (pins++pl) H b):lh X pins H b :=
 ⟨f.1,f.2.1,f.2.2.1,f.2.2.2.1,f.2.2.2.2.1,λp hp=>f.2.2.2.2.2 p ((List.mem_append.mp hp).elim (λz=>akA _ z) λz=>Lk _ (akA _ z))⟩
theorem lh.clear {b:Addr}(f:lh X pins H b):lh X [] H b :=
 ⟨f.1,f.2.1,f.2.2.1,f.2.2.2.1,f.2.2.2.2.1,λp hp=>f.2.2.2.2.2 p ((List.mem_append.mp hp).elim (λz=>akA _ z) λz=>nomatch z)⟩
theorem XAt.drop {pl:List (Addr×Obj)}{h:Heap}(x:XAt X (pins++pl) H h e cls xd m):XAt X pins H h e cls xd m:=by
 obtain⟨ok,sl,vs,he,hz,hm⟩:=x;refine⟨ok.drop,sl,vs,he,hz,?_⟩;cases m with
 |none=>exact hm
 |some m=>obtain⟨T,oT,ts,a,b,c,d⟩:=hm;exact⟨T,oT,ts,a,b,c.drop,d⟩
theorem XAt.clear {h:Heap}(x:XAt X pins H h e cls xd m):XAt X [] H h e cls xd m:=by
 obtain⟨ok,sl,vs,he,hz,hm⟩:=x;refine⟨ok.clear,sl,vs,he,hz,?_⟩;cases m with
 |none=>exact hm
 |some m=>obtain⟨T,oT,ts,a,b,c,d⟩:=hm;exact⟨T,oT,ts,a,b,c.clear,d⟩
theorem XP.drop {pl:List (Addr×Obj)}{E:XK}{v:Value}(x:XP X (pins++pl) σ E v s):XP X pins σ E v s:=by
 obtain⟨ea,cls,xd,m,H',rfl,I,hx,hm,q⟩:=x;exact⟨ea,cls,xd,m,H',rfl,I.mq,hx.drop,hm,q⟩
theorem Vi {h':Heap}(I:Inv X pins σ H s)(he:lh X pins H e)(k1:∀b o,b∉frs X.stack->b≠e->s.heap.get? b=some o->h'.get? b=some o)
  (k2:∀b o,b≠e->s.heap.get? b=some o->∃sl,h'.get? b=some { o with slots:=sl }):Un (frs X.stack) [e] H H s.heap h'/\HOk X.prog X.w H h':=by
 refine⟨⟨λb o q _ hb hx=>k1 b o hb (by simpa using hx) q,λb o q _ _ hx=>k2 b o (by simpa using hx) q,λb o _ n _=>n,λb o q hx=>?_,λ_ _ q=>q,λ_ _ _ q=>q,λ_ ps q=>⟨#[],by rw[q];simp⟩⟩,λa o q=>?_⟩
 ·obtain⟨sl,z⟩:=k2 b o (by simpa using hx) q
  exact⟨_,z⟩
 ·refine(I.hok a o q).nC (λb u hb r=>k1 b u (λz=>?_) (λz=>?_) r) (λ_ z=>z) (λ_ _ z=>z)
  ·have n:=I.D0 b z;rcases hb with rfl | hb
   ·rw[q]at n;cases n
   ·rw[hb]at n;cases n
  ·have n:=he.1;rw[<-z]at n;rcases hb with rfl | hb
   ·rw[q]at n;cases n
   ·rw[hb]at n;cases n
theorem Q1 {h':Heap}(I:Inv X pins σ H s)(he:lh X pins H e)(k1:∀b o,b∉frs X.stack->b≠e->s.heap.get? b=some o->h'.get? b=some o)
  (k2:∀b o,b≠e->s.heap.get? b=some o->∃sl,h'.get? b=some { o with slots:=sl }):Inv X pins σ H { s with heap:=h' }:=by
 obtain⟨u,ok⟩:=Vi I he k1 k2;refine I.call (g':=s.gens) (t':=s.toks) (d':=s.drawn) u ok I.bare λb hb=>?_
 obtain rfl:b=e:=by simpa using hb
 exact⟨he.2.2.2.1,he.2.1,he.2.2.2.2.1,he.2.2.2.2.2⟩
theorem Lp {M:Model}{A:Around}{E:Value->Shared->Prop}{head:Value}{Q2:Bool}{sl:Array (Option Value)}{vs:Array Value}{Q:Unit->Shared->Prop}(F:Fr1 X)(hA:A.frames=some X.stack)(I:Inv X pins σ H s)(ok:lh X pins H e)
  (he:s.heap.get? e=some ⟨cls,xd,.fields vs,sl⟩) (hz:1 < vs.size) (h:∀s',Inv X pins σ H s'->XAt X pins H s'.heap e cls xd (some (rawInt X.env.locals))->Q () s') :
  wpAny M A (do let a <-frameOf X.env;let pl <-entryPlaceOf X.env.locals Q2;let b <-EntryCells.newEntry head a .none (rawInt X.env.locals) .none pl;setField (.ref e) 1 b) Q E s:=by
 have nE:e∉frs X.stack:=ok.ahK I;have fs:=I.stack;rw[F.stk]at hA fs nE;refine fu (wpAny_frameOf_fun hA fs F.fr λh₁ so=>?_)
 refine fu (wpAny_entryPlaceOf λpl hpl=>?_)
 unfold EntryCells.newEntry newFields;refine fu (wpAny_newObj_type ?_ (hpl.sizeOk5 _ _ _ _ _));generalize ht:([head,.ref X.env.locals,.none,rawInt X.env.locals,.none]++(if pl.isEmpty then List.replicate 6 alm else pl)).toArray=ts
 have t3:ts[3]?=some (rawInt X.env.locals):=by rw[<-ht];simp
 have e1:h₁.get? e=some ⟨cls,xd,.fields vs,sl⟩:=(so.2.1 e nE).trans he;have e2:=kg (h:=h₁) { cls:=.type "traceback",dict:=none,data:=.fields ts } e1;refine wpAny_setField e2 rfl hz ?_;have sz:h₁.objs.size=s.heap.objs.size:=so.1;have nT:h₁.objs.size≠e:=Nat.ne_of_gt (tm e1);have k0:∀b o,b≠e->h₁.get? b=some o->((h₁.push { cls:=.type "traceback",dict:=none,data:=.fields ts }).update e (ak1 (·.setIfInBounds 1 (aj6 h₁.objs.size)))).get? b=some o:=λb o hb q =>
  (akJ _ _ (akp hb)).trans (kg _ q)
 have I':=Q1 (h':=(h₁.push { cls:=.type "traceback",dict:=none,data:=.fields ts }).update e (ak1 (·.setIfInBounds 1 (aj6 h₁.objs.size)))) I ok
  (λb o hb hbe q=>k0 b o hbe ((so.2.1 b (by rw[<-F.stk];exact hb)).trans q)) (λb o hbe q=>by obtain⟨sl,z⟩:=so.2.2 b o q;exact⟨sl,k0 b _ hbe z⟩)
 have fT:lh X pins H h₁.objs.size:=I.D4 (by rw[sz];exact kq _) (by rw[sz];exact I.fresh)
 have gE:((h₁.push { cls:=.type "traceback",dict:=none,data:=.fields ts }).update e (ak1 (·.setIfInBounds 1 (aj6 h₁.objs.size)))).get? e=some ⟨cls,xd,.fields (vs.setIfInBounds 1 (aj6 h₁.objs.size)),sl⟩ :=
  ak7 (ak1 (·.setIfInBounds 1 (aj6 h₁.objs.size))) e2 rfl
 have gT:((h₁.push { cls:=.type "traceback",dict:=none,data:=.fields ts }).update e (ak1 (·.setIfInBounds 1 (aj6 h₁.objs.size)))).get? h₁.objs.size=some { cls:=.type "traceback",dict:=none,data:=.fields ts } :=
  (akJ _ _ (akp nT)).trans (akg h₁ rfl)
 exact h _ I' ⟨ok,sl,_,gE,by simpa using hz,h₁.objs.size,_,ts,by simp[hz],nT,fT,gT,rfl,t3⟩
theorem vY {M:Model}{A:Around}{E:Value->Shared->Prop}{f:Option Addr}{mv:Value}{Q:Unit->Shared->Prop}(I:Inv X pins σ H s)(x:XAt X pins H s.heap e cls xd (some mv))
  (h:∀s',Inv X pins σ H s'->XAt X pins H s'.heap e cls xd (some (f.elim .none λb=>rawInt b))->Q () s'):wpAny M A (setFlight (.ref e) f) Q E s:=by
 obtain⟨ok,sl,vs,he,hz,T,oT,ts,h1,nT,fT,hT,hd,h3⟩:=x;unfold setFlight;refine fu (wpAny_field he rfl h1 ?_);rw[if_pos (show (aj6 T != alm)=true by simp)]
 have z3:3 < ts.size:=(Array.getElem?_eq_some_iff.mp h3).1;refine wpAny_setField hT hd z3 ?_;have other:∀b,b≠T->(s.heap.update T (ak1 (·.setIfInBounds 3 (f.elim alm λb=>rawInt b)))).get? b=s.heap.get? b:=λb hb=>akJ _ _ (akp hb)
 have I':=I.turned (t':=s.toks) (h':=s.heap.update T (ak1 (·.setIfInBounds 3 (f.elim alm λb=>rawInt b)))) (λb o hb q=>(other b hb).trans q) fT.1 fT.2.1 fT.2.2.2.1 fT.2.2.2.2.1 fT.2.2.2.2.2
 exact h _ I' ⟨ok,sl,vs,(other e (akp nT)).trans he,hz,T,_,_,h1,nT,fT,ak7 _ hT (Obj.isFreed_of_fields (Obj.data_mapFields hd _)),Obj.data_mapFields hd _,by simp[z3]⟩
theorem NZ {M:Model}{A:Around}{E:Value->Shared->Prop}{Q:Unit->Shared->Prop}(F:Fr1 X)(hA:A.frames=some X.stack)(I:Inv X pins σ H s)(x:XAt X pins H s.heap e cls xd m)(hm:MOk X m)
  (h:∀s',Inv X pins σ H s'->XAt X pins H s'.heap e cls xd (some (rawInt X.env.locals))->Q () s'):wpAny M A (noteFrame (.ref e) X.env) Q E s:=by
 obtain⟨ok,sl,vs,he,hz,hv⟩:=x;unfold noteFrame;simp only[F.fr];cases m with
 |none =>
  refine fu (wpAny_field he rfl hv ?_);rw[if_neg (by decide)]
  exact Lp F hA I ok he hz h
 |some mv =>
  obtain⟨T,oT,ts,h1,nT,fT,hT,hd,h3⟩:=hv;refine fu (wpAny_field he rfl h1 ?_);rw[if_pos (show (aj6 T != alm)=true by simp)]
  refine fu (wpAny_field hT hd h3 ?_)
  by_cases hmv:mv=rawInt X.env.locals
  ·subst hmv;rw[if_pos (show (rawInt X.env.locals == rawInt X.env.locals)=true by simp)]
   exact ajY (h s I ⟨ok,sl,vs,he,hz,T,oT,ts,h1,nT,fT,hT,hd,h3⟩)
  ·rw[if_neg (show ¬(mv == rawInt X.env.locals)=true from λz=>hmv (beq_iff_eq.mp z))]
   have z3:3 < ts.size:=(Array.getElem?_eq_some_iff.mp h3).1;refine fu (wpAny_setField hT hd z3 ?_);have other:∀b,b≠T->(s.heap.update T (ak1 (·.setIfInBounds 3 alm))).get? b=s.heap.get? b:=λb hb=>akJ _ _ (akp hb)
   have I':=I.turned (t':=s.toks) (h':=s.heap.update T (ak1 (·.setIfInBounds 3 alm))) (λb o hb q=>(other b hb).trans q) fT.1 fT.2.1 fT.2.2.2.1 fT.2.2.2.2.1 fT.2.2.2.2.2
   exact Lp F hA I' ok ((other e (akp nT)).trans he) hz h
end
abbrev CXX (P:sr)(w:World):CXT:=λouter H s E e s'=>∃(ea T:Addr) (cls:Value) (xd:Option Addr) (H':Hp),e=.ref ea/\s'.os=s.os/\AllBare s'.gens/\Un (frs outer) [] H H' s.heap s'.heap/\HOk P w H' s'.heap /\
 (H' ea=none/\s.heap.objs.size<=ea)/\(H' T=none/\s.heap.objs.size<=T)/\T≠ea /\
 (∃(sl:Array (Option Value)) (vs:Array Value) (oT:Obj) (ts:Array Value),s'.heap.get? ea=some ⟨cls,xd,.fields vs,sl⟩/\1 < vs.size/\vs[1]?=some (.ref T)/\s'.heap.get? T=some oT/\oT.data=.fields ts/\ts[3]?=some .none)/\E cls xd H'
section
variable{X:Cx}{pins:List (Addr×Obj)}{σ:St}{H:Hp}{s s':Shared}
theorem Vj {E:XK}{e:Value}(I:Inv X pins σ H s)(h:CXX X.prog X.w X.stack H s E e s'):XP X pins σ E e s':=by
 obtain⟨ea,T,cls,xd,H',rfl,os,bare,un,hok,⟨e1,e2⟩,⟨t1,t2⟩,ne,⟨sl,vs,oT,ts,g1,g2,g3,g4,g5,g6⟩,q⟩:=h;have I':Inv X pins σ H' s':=I.Nt (ch:=[]) os un hok bare λb z=>absurd z (by simp)
 exact⟨ea,cls,xd,some .none,H',rfl,I',⟨I.D4 e2 e1,sl,vs,g1,g2,T,oT,ts,g3,ne,I.D4 t2 t1,g4,g5,g6⟩,.inr (.inl rfl),q⟩
theorem qC:Passes (CXX X.prog X.w) X E0:=λ_ _ _ _ _ _ _ ⟨_,_,_,_,_,_,_,_,_,_,_,_,_,_,z⟩=>z.elim
end
section
variable{P:sr}{w:World}{K:bo}{mg:Str->Option Value}{base:Heap}{k:Nat}{f:Addr}{fd:kj}{ps:List Str}{sp:Sp}
theorem a7.calm (F:a7 P w K mg base (CXX P w) k f fd ps sp)(h:∀vs H Q E,sp vs H Q E->sp vs H Q E0):a7 P w K mg base CX0 k f fd ps sp:=by
 refine⟨F.len,λA outer s H args us vs Q E hr he hb hv hs=>codeAny_mono (F.run A outer s H args us vs Q E0 hr he hb hv (h _ _ _ _ hs)) λr s' q=>?_⟩
 cases r with
 |error e=>obtain⟨_,_,_,_,_,_,_,_,_,_,_,_,_,_,z⟩:=q;exact z.elim
 |ok fl=>cases fl <;> exact q
theorem Q3 {N:List Str}{qual:Str}{scope:Scope}{cd:Value}{A:Around}{outer:List Env}{s s':Shared}{H:Hp}{E:XK}{e:Value}{pins:List (Addr×Obj)}
  (h:XPS (bG (CXX P w) P w K mg base N qual scope f cd A outer s H E) pins (λ_=>E) e s'):(bG (CXX P w) P w K mg base N qual scope f cd A outer s H E).xe e s':=by
 obtain⟨σ',ea,cls,xd,m,H',rfl,I,hx,hm,q⟩:=h;have fr:(bG (CXX P w) P w K mg base N qual scope f cd A outer s H E).A.frames=some (bG (CXX P w) P w K mg base N qual scope f cd A outer s H E).stack:=I.ok.frames;have F1:Fr1 (bG (CXX P w) P w K mg base N qual scope f cd A outer s H E):=⟨rfl,rfl⟩;show wpAny _ _ (leaving (bG (CXX P w) P w K mg base N qual scope f cd A outer s H E).env (.ref ea)) _ _ s';unfold leaving;refine fu (NZ F1 fr I hx hm λs1 I1 x1=>vY I1 x1 λs2 I2 x2=>?_)
 obtain⟨ok,sl,vs,he,hz,T,oT,ts,h1,nT,fT,hT,hd,h3⟩:=x2;have old:∀ {b:Addr},lh (bG (CXX P w) P w K mg base N qual scope f cd A outer s H E) pins H' b->s.heap.objs.size<=b:=λ{b} z=>by
  rcases z.2.2.2.1 with y | y
  ·exact absurd (show b∈([]:List Addr) from y) (by simp)
  ·exact y
 exact⟨ea,T,cls,xd,H',rfl,I2.os,I2.bare,I2.base,I2.hok,⟨ok.1,old ok⟩,⟨fT.1,old fT⟩,nT,⟨sl,vs,oT,ts,he,hz,h1,hT,hd,h3⟩,q⟩
end
abbrev TEX:=St->Hp->VK->XK->Prop
abbrev TAX:=St->Hp->(List V->Hp->Prop)->XK->Prop
abbrev TSX:=Ends->SXK->St->Hp->Prop
def PEX (X:Cx)(e:Expr)(t:TEX):Prop :=
 ∀(pins:List (Addr×Obj)) (s:Shared) (σ:St) (H:Hp) (Q:VK) (E:XK),Inv X pins σ H s->t σ H Q E->wpAny (model X.prog X.w) X.A (eval e X.env) (EP X pins σ Q) (XP X pins σ E) s
def PAX (X:Cx)(es:List Expr)(t:TAX):Prop :=
 ∀(pos:Pos) (pins:List (Addr×Obj)) (s:Shared) (σ:St) (H:Hp) (Q:List V->Hp->Prop) (E:XK),Inv X pins σ H s->t σ H Q E->wpAny (model X.prog X.w) X.A (spliced (backTo pos (aj0 es X.env))) (AP X pins σ Q) (XP X pins σ E) s
def PSX (X:Cx)(st:Stmt)(t:TSX):Prop :=
 ∀(pins:List (Addr×Obj)) (s:Shared) (σ:St) (H:Hp) (D:Ends) (E:SXK),Inv X pins σ H s->t D E σ H->wpAny (model X.prog X.w) X.A (exec st X.env) (SP X pins D) (XPS X pins E) s
def FL (X:Cx)(st:List Stmt)(t:TSX):Prop :=
 ∀(pins:List (Addr×Obj)) (s:Shared) (σ:St) (H:Hp) (D:Ends) (E:SXK),Inv X pins σ H s->t D E σ H->wpAny (model X.prog X.w) X.A (execs st X.env) (SP X pins D) (XPS X pins E) s
def Vk (te:TE):TEX:=λσ H Q _=>te σ H Q
def Vl (ta:TA):TAX:=λσ H Q _=>ta σ H Q
def N0 (ts:TS):TSX:=λD _ σ H=>ts D σ H
def N1 (t1:TEX)(t2:TAX):TAX:=λσ H Q E=>t1 σ H (λx H1=>t2 σ H1 (λxs H2=>Q (x::xs) H2) E) E
def Tf (t1 t2:TSX):TSX:=λD E σ H=>t1 { D with nx:=t2 D E } E σ H
def Z1 (tc:TT)(t1 t2:TSX):TSX:=λD E σ H=>tc σ H λd H1=>if d=true then t1 D E σ H1 else t2 D E σ H1
def N3 (t:TEX):TSX:=λD E σ H=>t σ H (λ_ H1=>D.nx σ H1) (E σ)
def Tg (t:TEX):TSX:=λD E σ H=>t σ H D.rt (E σ)
def N4 (t:TAX)(sp:Sp):TEX:=λσ H Q E=>t σ H (λvs H1=>sp vs H1 Q E) E
def N5 (C:Addr)(m:Str)(ta:TEX)(t:TAX)(sp:Sp):TEX:=λσ H Q E=>ta σ H (λx H1=>∃a dx fs,x=.ref a/\H1 a=some (.ins C dx fs)/\fs.lookup m=none/\t σ H1 (λvs H2=>sp (x::vs) H2 Q E) E) E
def Lq (C:Addr)(m:Str)(ta:TEX)(sp:Sp):TEX:=λσ H Q E=>ta σ H (λx H1=>∃a dx fs,x=.ref a/\H1 a=some (.ins C dx fs)/\fs.lookup m=none/\sp [x] H1 Q E) E
section
variable{X:Cx}{e:Expr}{es:List Expr}{st:Stmt}{sts:List Stmt}{te:TE}{ta:TA}{ts:TS}{pos:Pos}
theorem EP.eT {pins:List (Addr×Obj)}{σ:St}{Q:VK}{u:Value}{s':Shared}{W:Value->Shared->Prop}(h:EP (X.pe W) pins σ Q u s'):EP X pins σ Q u s':=by
 obtain⟨v,H',I,r,q⟩:=h;exact⟨v,H',I.eT,r,q⟩
theorem px (h:PE X.nox e te):PEX X e (Vk te):=λpins s σ H Q _ I hw =>
 aki (h pins s σ H Q (I.pe _) hw) (λ_ _ q=>q.eT) λ_ _ z=>akr z
theorem pax (h:PA X.nox es ta):PAX X es (Vl ta):=λpos pins s σ H Q _ I hw =>
 aki (h pos pins s σ H Q (I.pe _) hw) (λ_ _ ⟨vs,H',I',r,q⟩=>⟨vs,H',I'.eT,r,q⟩) λ_ _ z=>akr z
theorem psx (h:PS X.nox st ts):PSX X st (N0 ts):=λpins s σ H D _ I hw =>
 aki (h pins s σ H D (I.pe _) hw) (λ_ _ q=>q.eT) λ_ _ z=>akr z
theorem uM (h:PSs X.nox sts ts):FL X sts (N0 ts):=λpins s σ H D _ I hw =>
 aki (h pins s σ H D (I.pe _) hw) (λ_ _ q=>q.eT) λ_ _ z=>akr z
theorem Ao:PAX X [] (λ_ H Q _=>Q [] H):=λ_ _ _ _ H Q _ I h=>Calls.spliced_nil ⟨[],H,I,.nil,h⟩
theorem kL {t1:TEX}{t2:TAX}(ha:PEX X e t1)(hr:PAX X es t2)(hs:aj0 (e::es) X.env=(false,eval e X.env)::aj0 es X.env:=by rfl) :
  PAX X (e::es) (N1 t1 t2):=by
 intro pos pins s σ H Q E I h;unfold N1 at h;rw[hs];refine Calls.spliced_cons (aki (ha pins s σ H _ E I h) (λu s1 ⟨x,H1,I1,r1,q1⟩=>?_) λ_ _ z=>z)
 exact aki (hr pos pins s1 σ H1 _ E I1 q1) (λus s2 ⟨xs,H2,I2,r2,q2⟩=>⟨x::xs,H2,I2,.cons r1 r2,q2⟩) λ_ _ z=>z
theorem bb {t1 t2:TSX}(h1:PSX X st t1)(h2:FL X sts t2):FL X (st::sts) (Tf t1 t2):=by
 intro pins s σ H D E I h;unfold Tf at h;refine wpAny_execs_cons (thn (h1 pins s σ H { D with nx:=t2 D E } E I h) λf s1 q=>?_)
 cases f with
 |next =>
  obtain⟨σ',H',I',q⟩:=q;exact h2 pins s1 σ' H' D E I' q
 |ret v=>exact q
 |brk=>exact q
 |cont=>exact q
theorem bw {t1:TSX}(h1:PSX X st t1):FL X [st] t1:=by
 intro pins s σ H D E I h;refine wpAny_execs_cons (thn (h1 pins s σ H D E I h) λf s1 q=>?_)
 cases f with
 |next=>exact wpAny_execs_nil q
 |ret v=>exact q
 |brk=>exact q
 |cont=>exact q
theorem gA {c:Expr}{a b:List Stmt}{tc:TT}{t1 t2:TSX}(hc:PT X.nox c tc)(ha:FL X a t1)(hb:FL X b t2):PSX X (.If c a b pos) (Z1 tc t1 t2):=by
 intro pins s σ H D E I h;unfold Z1 at h;refine wpAny_If (aki (hc pins s σ H _ (I.pe _) h) (λd s1 ⟨H1,I1,q1⟩=>?_) λ_ _ z=>akr z)
 cases d with
 |true=>exact ha pins s1 σ H1 D E I1.eT q1
 |false=>exact hb pins s1 σ H1 D E I1.eT q1
theorem iY {t:TEX}(he:PEX X e t)(hs:swapsWith e none pos.line X.env=pure false:=by rfl):PSX X (.Expr e pos) (N3 t):=by
 intro pins s σ H D E I h;unfold N3 at h;exact wpAny_Expr_any (aki (he pins s σ H _ _ I h) (λv s1 ⟨x,H1,I1,r1,q1⟩=>⟨σ,H1,I1,q1⟩) λ_ _ z=>⟨σ,z⟩) I.quiet hs
theorem Aq {t:TEX}(he:PEX X e t):PSX X (.Return (some e) pos) (Tg t):=by
 intro pins s σ H D E I h;unfold Tg at h;exact wpAny_Return_some (aki (he pins s σ H _ _ I h) (λv s1 ⟨x,H1,I1,r1,q1⟩=>⟨x,σ,H1,I1,r1,q1⟩) λ_ _ z=>⟨σ,z⟩)
end
section
variable{X:Cx}{k:Nat}{f C:Addr}{fd:kj}{ps:List Str}{sp:Sp}{x m:Str}{p pos apos:Pos}{e o:Expr}{es:List Expr}{t:TAX}
theorem Ej {pins:List (Addr×Obj)}{σ:St}{H:Hp}{s:Shared}{Q:VK}{E:XK}{us:List Value}{vs:List V}(F:a7 X.prog X.w X.K X.mg X.base (CXX X.prog X.w) k f fd ps sp)(hr:Room k X.A)(hb:Binds X.K fd ps [])
  (I:Inv X pins σ H s) (r:Vals vs us) (h:sp vs H Q E):wpAny (model X.prog X.w) X.A (call (.ref f) us) (EP X pins σ Q) (XP X pins σ E) s:=by
 have hl:(us++[]).length=ps.length:=by rw[akP,<-r.length];exact F.len _ _ _ _ h
 have b:=hb s us I.kIn hl;rw[akP]at b;refine wpAny_call (codeAny_mono (F.run X.A X.stack s H ⟨us,[]⟩ us vs Q E hr I.QQ b r h) λr s' hq=>?_)
 cases r with
 |error e=>exact Vj I hq
 |ok fl =>
  cases fl with
  |ret u=>exact I.after hq
  |next=>exact akr hq
  |brk=>exact akr hq
  |cont=>exact akr hq
theorem vZ (F:a7 X.prog X.w X.K X.mg X.base (CXX X.prog X.w) k f fd ps sp)(hr:Room k X.A)(hg:Gl X x)(hm:X.mg x=some (.ref f))(hk:da X.K (.ref f)=true)(hb:Binds X.K fd ps [])(ha:PAX X (e::es) t)
  (hdb:(x == ("__debug__":Str))=false:=by decide) (he:aj0 (e::es) X.env=(false,eval e X.env)::aj0 es X.env:=by rfl) (hpl:(backTo pos (aj0 es X.env)).any (·.1)=false:=by rfl) :
  PEX X (.Call (.Name x p) (e::es) [] pos) (N4 t sp):=by
 intro pins s σ H Q E I h;unfold N4 at h;refine wpAny_Call_Name_kw (kh I hg hm ?_ hdb);exact alr (h₀:=X.base) I.ok.mod.kin hk (thn (ha pos pins s σ H _ E I h) λus s1 ⟨vs,H1,I1,r,q⟩=>⟨I1.kIn,Ej F hr hb I1 r q⟩) he hpl
theorem pj {pl:Sem Bool}{ta:TEX}(he:PEX X o ta)(c:Cls X.K C)(hm:Meth X.K C m f)(F:a7 X.prog X.w X.K X.mg X.base (CXX X.prog X.w) k f fd ps sp)(hr:Room k X.A)(hb:Binds X.K fd ps [])(ha:PAX X (e::es) t)
  (hst:aj0 (e::es) X.env=(false,eval e X.env)::aj0 es X.env:=by rfl) (hpl:(backTo pos (aj0 es X.env)).any (·.1)=false:=by rfl)
  (ht:eval (.Call (.Attribute o m apos) (e::es) [] pos) X.env=(do
   let ov <-eval o X.env
   standAt apos.atName
   let (f,first) <-holding [ov] (getMethod ov m pl)
   callWith pos f first (backTo pos (aj0 (e::es) X.env)) (backToKw pos (keywordEach [] X.env))):=by rfl) :
  PEX X (.Call (.Attribute o m apos) (e::es) [] pos) (N5 C m ta t sp):=by
 intro pins s σ H Q E I h;unfold N5 at h;refine akU (pl:=pl) (thn (he pins s σ H _ E I h) λu s1 ⟨x,H1,I1,rx,a,dx,fs,ex,ea,l,q⟩=>?_) ht
 subst ex;obtain rfl:u=aj6 a:=rx;refine jB I1 ea c hm l ?_;exact alr (first:=[.ref a]) (h₀:=X.base) I.ok.mod.kin hm.kp (thn (ha pos pins s1 σ H1 _ E I1 q) λus s2 ⟨vs,H2,I2,r,q2⟩=>⟨I2.kIn,Ej (us:=.ref a::us) (vs:=.ref a::vs) F hr hb I2 (.cons rfl r) q2⟩) hst hpl
theorem xK {pl:Sem Bool}{ta:TEX}(he:PEX X o ta)(c:Cls X.K C)(hm:Meth X.K C m f)(F:a7 X.prog X.w X.K X.mg X.base (CXX X.prog X.w) k f fd ps sp)(hr:Room k X.A)(hb:Binds X.K fd ps [])
  (ht:eval (.Call (.Attribute o m apos) [] [] pos) X.env=(do
   let ov <-eval o X.env
   standAt apos.atName
   let (f,first) <-holding [ov] (getMethod ov m pl)
   callWith pos f first (backTo pos (aj0 [] X.env)) (backToKw pos (keywordEach [] X.env))):=by rfl) :
  PEX X (.Call (.Attribute o m apos) [] [] pos) (Lq C m ta sp):=by
 intro pins s σ H Q E I h;unfold Lq at h;refine akU (pl:=pl) (thn (he pins s σ H _ E I h) λu s1 ⟨x,H1,I1,rx,a,dx,fs,ex,ea,l,q⟩=>?_) ht
 subst ex;obtain rfl:u=aj6 a:=rx;refine jB I1 ea c hm l ?_;exact alo (first:=[.ref a]) I1.kIn hm.kp (Ej (us:=[.ref a]) (vs:=[.ref a]) F hr hb I1 (.cons rfl .nil) q)
end
section
variable{P:sr}{w:World}{K:bo}{mg:Str->Option Value}{base:Heap}
theorem Fun.okX {x qual:Str}{st:Stmt}{f:Addr}{fd:kj}{N ps:List Str}{k:Nat}{sp:Sp}(F:Fun K x qual st f fd)(S:aN N ps (ag st))(len:∀vs H Q E,sp vs H Q E->vs.length=ps.length)
  (Fx:∀(cdv:Value) (A:Around) (outer:List Env) (s:Shared) (H:Hp) (vs:List V) (Q:VK) (E:XK),Room k (A.deeper (envOfC qual (ag st) s.heap.objs.size f cdv))->sp vs H Q E ->
   ∃t,FL (bG (CXX P w) P w K mg base N qual (ag st) f cdv A outer s H E) (aL st) t/\t { nx:=λ_ H'=>Q .non H',rt:=Q } (λ_=>E) (start N vs) H):a7 P w K mg base (CXX P w) (k+1) f fd ps sp:=by
 obtain⟨oc,od,kV,doc,pm,an,cdv,ct,osl,rfl,lk,hcd⟩:=F.ex;refine Td lk hcd S len λA outer s H vs Q E hr hsp=>?_
 obtain⟨t,h,q⟩:=Fx cdv A outer s H vs Q E hr hsp;exact⟨λD σ H=>t D (λ_=>E) σ H,λpins s1 σ H1 D I hw=>aki (h pins s1 σ H1 D _ I hw) (λ_ _ z=>z) λ_ _ z=>Q3 z,q⟩
end
abbrev hcx (X:Cx)(e:Addr):Cx:={ X with A:=X.A.mark (some (.ref e)),calm:=false,xe:=λ_ _=>False }
section
variable{X:Cx}{pins:List (Addr×Obj)}{σ:St}{H:Hp}{s:Shared}{e:Addr}{cls:Value}{xd:Option Addr}{m:Option Value}
theorem N6 (I:Inv X pins σ H s)(e:Addr):Inv (hcx X e) pins σ H s :=
 ⟨⟨I.ok.mod,I.ok.kind,I.ok.glob,I.ok.blt,I.ok.above,I.ok.inj,I.ok.has,I.ok.cab,λz=>absurd (show false=true from z) ma,I.ok.frames,I.ok.stk,I.ok.exf,I.ok.bs,I.ok.bsz,I.ok.IQ,I.ok.IS,I.ok.uJ,I.ok.frf⟩,I.os,I.bare,I.base,I.loc,I.cell,I.free,I.qW,I.pin,I.hok,I.len⟩
theorem Ar (ok:X.Ok)(I:Inv (hcx X e) pins σ H s):Inv X pins σ H s:=⟨ok,I.os,I.bare,I.base,I.loc,I.cell,I.free,I.qW,I.pin,I.hok,I.len⟩
end
abbrev THX:=Ends->SXK->St->XK
def Th (K:bo)(C:Addr)(ts:TS)(tr:THX):THX:=λD E σ cls xd H=>∃b,ake K cls (.ref C)=some b/\if b=true then ts D σ H else tr D E σ cls xd H
def Ti (tb:TSX)(th:THX):TSX:=λD E σ H=>tb D (λσ' cls xd H'=>th D E σ' cls xd H') σ H
def PHX (X:Cx)(hs:List ExceptHandler)(t:THX):Prop :=
 ∀(pins:List (Addr×Obj)) (s:Shared) (σ:St) (H:Hp) (D:Ends) (E:SXK) (ea:Addr) (cls:Value) (xd:Option Addr),Inv X pins σ H s->XAt X pins H s.heap ea cls xd (some .none)->t D E σ cls xd H ->
  wpAny (model X.prog X.w) X.A (handleBy (.ref ea) X.env hs) (SP X pins D) (XPS X pins E) s
section
variable{X:Cx}{x n:Str}{C:Addr}{np pos:Pos}{b₀:Stmt}{Tj:List Stmt}{rest:List ExceptHandler}{ts:TS}{tr:THX}
theorem Q4 (F:Fr1 X):PHX X [] (λ_ E σ cls xd H=>E σ cls xd H):=by
 intro pins s σ H D E ea cls xd I hx h;refine wpAny_handleBy_nil ?_;unfold PySem.passOn;obtain⟨ok,sl,vs,he,hz,T,oT,ts,h1,r⟩:=id hx;refine fu (wpAny_field he rfl h1 ?_);rw[if_neg (show ¬((aj6 T == alm)=true) by simp)]
 have step:wpAny (model X.prog X.w) X.A (do setFlight (.ref ea) X.env.frame;throw (.ref ea):Sem Flow) (SP X pins D) (XPS X pins E) s :=
  fu (vY I hx λs2 I2 x2=>wpAny_throw ⟨σ,ea,cls,xd,_,H,rfl,I2,x2,by rw[F.fr];exact .inr (.inr ⟨_,rfl⟩),h⟩)
 first
  |exact step
  |exact fu (ajY step)
theorem Z2 {pins:List (Addr×Obj)}{s:Shared}{σ:St}{H:Hp}{ea:Addr}{cls:Value}{xd:Option Addr}{b:Bool}{E:Value->Shared->Prop}{R:Bool->Shared->Prop}(I:Inv X pins σ H s)(hx:XAt X pins H s.heap ea cls xd (some .none))
  (hg:Gl X x) (hm:X.mg x=some (.ref C)) (eb:ake X.K cls (.ref C)=some b) (h:R b s) (hd:(x == ("__debug__":Str))=false:=by decide) :
  wpAny (model X.prog X.w) (X.A.mark (some (.ref ea))) (eval (.Name x np) X.env) (λc s₁=>wpAny (model X.prog X.w) (X.A.mark (some (.ref ea))) (excMatches (.ref ea) c) R E s₁) E s:=by
 obtain⟨_,sl,vs,he,_⟩:=hx;refine kh (N6 I ea) hg hm ?_ hd;have lt:PySem.W.Looks (model X.prog X.w) s.heap (typeOf (.ref ea)) cls:=(PySem.W.Looks.ld he).andThen .now;exact PySem.W.exm_one I.kIn lt eb _ _ _ s (λ_ _ q=>q) h
theorem N7 (hg:Gl X x)(hm:X.mg x=some (.ref C))(hs:∀e,PSs (hcx X e) (b₀::Tj) ts)(hr:PHX X rest tr)(hd:(x == ("__debug__":Str))=false:=by decide) :
  PHX X (.ExceptHandler (some (.Name x np)) none (b₀::Tj) pos::rest) (Th X.K C ts tr):=by
 intro pins s σ H D E ea cls xd I hx h;unfold Th at h;obtain⟨b,eb,h⟩:=h;refine wpAny_handleBy_cons (codeAny_handlers_test (Z2 I hx hg hm eb ?_ hd)) (by intro q;cases q)
 cases b with
 |true =>
  refine codeAny_handlers_suite (vY I hx λs1 I1 x1=>?_)
  refine aki (hs ea pins s1 σ H D (N6 I1 ea) h) (λf s2 q=>?_) λ_ _ z=>akr z
  cases f with
  |next=>obtain⟨σ',H',I',q⟩:=q;exact⟨σ',H',Ar I.ok I',q⟩
  |brk=>obtain⟨σ',H',I',q⟩:=q;exact⟨σ',H',Ar I.ok I',q⟩
  |cont=>obtain⟨σ',H',I',q⟩:=q;exact⟨σ',H',Ar I.ok I',q⟩
  |ret u=>obtain⟨v,σ',H',I',r,q⟩:=q;exact⟨v,σ',H',Ar I.ok I',r,q⟩
 |false=>exact hr pins s σ H D E ea cls xd I hx h
theorem Q5 {body:List Stmt}{h₀:ExceptHandler}{hs:List ExceptHandler}{tb:TSX}{th:THX}(F:Fr1 X)(hb:FL X body tb)(hh:PHX X (h₀::hs) th) :
  PSX X (.Try body (h₀::hs) [] [] pos) (Ti tb th):=by
 intro pins s σ H D E I h;unfold Ti at h;refine wpAny_Try_except (aki (hb pins s σ H D _ I h) (λf s1 q=>?_) (λv s1 q=>?_))
 ·cases f with
  |next=>exact wpAny_execs_nil q
  |ret v=>exact q
  |brk=>exact q
  |cont=>exact q
 ·obtain⟨σ',ea,cls,xd,m,H',rfl,I1,hx,hm,q⟩:=q;exact NZ F I1.ok.frames I1 hx hm λs2 I2 x2=>vY I2 x2 λs3 I3 x3=>hh pins s3 σ' H' D E ea cls xd I3 x3 q
end
structure GaX (K:bo)(C:Addr):Prop where
 ga:cb K (.ref C) "__getattribute__"=some (some (.builtin "BaseException.__getattribute__"))
 hk:cb K (.ref C) "__getattr__"=some none
 mb:PySem.W.mroIn K C (.type "BaseException")=some true
structure ajQ (K:bo)(C:Addr):Prop where
 ga:GaX K C
 cd:(PySem.W.clsIn K C).isSome=true
 ha:cb K (.ref C) "__class__"=some (some (.builtin "object.__class__"))
 hn:PySem.W.specialIn K (.builtin "object.__class__") "__get__"=some (some (.builtin "getset_descriptor.__get__"))
 htk:PySem.W.takesIn K (.builtin "object.__class__")=some true
 hm:PySem.W.mroIn K C (.type "object")=some true
section
variable{prog:sr}{w:World}{A:Around}{E:Value->Shared->Prop}{h:Heap}{g:Array GenState}{d:Drawn}{t:Nat}{os:OsState}
variable{nm q:Str}{C N:Addr}{bs bm bmB:List Value}{hdct:Bool}{sn:List Str}{sub:List Value}{ab:Bool}{col:Option Bool}{dd:Option Addr}{k0 k1 k2 k3 k5:Option Value}{B nid iid:String}
abbrev nR (h:Heap)(C:Addr)(us:List Value):Heap:=(h.push { cls:=.type "tuple",data:=.seq us.toArray }).push ⟨.ref C,none,.fields #[.ref h.objs.size,.none,.none,.none,.bool false,.none],#[]⟩
theorem fR {us:List Value}{b:Addr}{o:Obj}(e:h.get? b=some o):(nR h C us).get? b=some o:=kg _ (kg _ e)
theorem AL {us:List Value}:(nR h C us).get? (h.objs.size+1)=some ⟨.ref C,none,.fields #[.ref h.objs.size,.none,.none,.none,.bool false,.none],#[]⟩:=by
 have:=akg (h.push { cls:=.type "tuple",data:=.seq us.toArray }) (o:=⟨.ref C,none,.fields #[.ref h.objs.size,.none,.none,.none,.bool false,.none],#[]⟩) rfl
 rwa [Heap.size_push]at this
theorem Jq (F:ExcBaseFacts B nid iid bmB)(T:OwnTail h bmB bm){mN:Str->Option Value}{us:List Value}{Q:Fin->Shared->Prop}
  (kC:h.get? C=some (akB nm q C N bs bm hdct sn sub ab col dd k0 k1 k2 k3 k5 nid)) (kN:h.Ns N mN) (kI:mN "__init__"=none) (hz:us.length<=gr)
  (hq:∀h',(∀b o,h.get? b=some o->h'.get? b=some o)->(∃tp,h'.get? (h.objs.size+1)=some ⟨.ref C,none,.fields #[.ref tp,.none,.none,.none,.bool false,.none],#[]⟩)->Q (.done (.ret (.ref (h.objs.size+1)))) ⟨h',g,d,t,os⟩) :
  wpAny (model prog w) A (Builtin.«type.__call__» ⟨.ref C::us,[]⟩) Q E ⟨h,g,d,t,os⟩:=by
 repeat (first | with_reducible refine wpAny_loadPart_at kC ?_ | with_reducible refine wpAny_madeBy_exc kC ?_ | wp_step)
 refine codeAny_call_builtin_code (Code.quiet_builtin _ F.quiet) (wpAny_check_new_subT F T kC (codeAny_exc_new_subT F T kC ?_ hz));show wpAny _ _ _ _ _ _;have kC1:(nR h C us).get? C=_:=fR kC;have kN1:(nR h C us).Ns N mN:=kN.keeps λb o e=>fR e
 have T1:OwnTail (nR h C us) bmB bm:=T.keeps λb o e=>fR e
 have kE:=AL (h:=h) (C:=C) (us:=us);have self:(aj6 C::bm).contains (.ref C)=true:=by simp
 unfold isInstance
 repeat (first | with_reducible refine wpAny_loadPart_at kE ?_ | (with_reducible refine wpAny_isSubtype_exc kC1 ?_;rw[self]) | wp_step)
 show wpAny _ _ (typeLookup (.ref C) _) _ _ _;refine wpAny_typeLookup_tail kC1 kN1 T1 F.mroIs F.init.lookup ?_;rw[kI];refine wpAny_holding (fu (wpAny_of_eq (F.init.bind _) ?_));refine fu (wpAny_call (codeAny_call_builtin F.init.plain F.initEntry (wpAny_check_init_subT F T1 kC1 kE rfl ?_)))
 wp_walk
 refine hq _ (λb o e=>?_) ⟨h.objs.size+2,?_⟩
 ·rw[akJ _ _ (Nat.ne_of_gt (Nat.lt_succ_of_lt (tm e)))];exact kg _ (fR e)
 ·refine(ak7 _ (kg _ kE) rfl).trans ?_;simp only[Heap.size_push];rfl
theorem Mg (F:ExcBaseFacts B nid iid bmB)(T:OwnTail h bmB bm){mN:Str->Option Value}{us:List Value}{Q:Value->Shared->Prop}
  (kC:h.get? C=some (akB nm q C N bs bm hdct sn sub ab col dd k0 k1 k2 k3 k5 nid)) (kN:h.Ns N mN) (kI:mN "__init__"=none) (hz:us.length<=gr)
  (hq:∀h',(∀b o,h.get? b=some o->h'.get? b=some o)->(∃tp,h'.get? (h.objs.size+1)=some ⟨.ref C,none,.fields #[.ref tp,.none,.none,.none,.bool false,.none],#[]⟩)->Q (.ref (h.objs.size+1)) ⟨h',g,d,t,os⟩) :
  wpAny (model prog w) A (call (.ref C) us) Q E ⟨h,g,d,t,os⟩:=by
 have l1:=tc_lookup;have l2:=tc_bind (.ref C);have ty:(⟨h,g,d,t,os⟩:Shared).TypeIs (.ref C) "type":=⟨_,kC,rfl⟩;refine wpAny_call (codeAny_of_tree ?_);show wpAny _ _ (callAny (.ref C) _) _ _ _
 repeat (any_goals (first | assumption | with_reducible refine wpAny_loadPart_at kC ?_ | wp_step))
 refine⟨rfl,codeAny_call_builtin_at (Code.quiet_builtin _ (by trivial)) entry_typeCall (wpAny_check_type_call_sub kC (Jq F T kC kN kI hz λh' k e=>?_))⟩
 exact hq h' k e
theorem uc {M:Model}{env:Env}{s:Shared}{x:Sem Value}{Q:Flow->Shared->Prop}(FA:bm.contains (.type "BaseException")=true)(hh:A.handled=none)
  (hx:wpAny M A x (λv s₁=>∃(e:Addr) (xd:Option Addr) (a0:Value) (sl:Array (Option Value)),v=.ref e/\s₁.heap.get? C=some (akB nm q C N bs bm hdct sn sub ab col dd k0 k1 k2 k3 k5 nid) /\
   s₁.heap.get? e=some ⟨.ref C,xd,.fields #[a0,.none,.none,.none,.bool false,.none],sl⟩/\E (.ref e) s₁) E s):wpAny M A (raiseStmt env (some x) none) Q E s:=by
 have top:(aj6 C::bm).contains (.type "BaseException")=true:=by rw[List.contains_cons,FA,Bool.or_true]
 unfold raiseStmt;refine fu (aki hx (λv s₁ h₁=>?_) λ_ _ z=>z)
 obtain⟨e,xd,a0,sl,rfl,kC,kE,fin⟩:=h₁;obtain⟨hp,g',d',tk,os'⟩:=s₁
 repeat (first | with_reducible refine wpAny_loadPart_at kE ?_ | with_reducible refine wpAny_loadPart_at kC ?_ | (with_reducible refine wpAny_isSubtype_exc kC ?_;rw[top]) | wp_step)
 exact wpAny_raiseNew_none hh fin
end
abbrev qZ:List Value:=[.type "ValueError",.type "Exception",.type "BaseException",.type "object"]
def strKeys (es:Array akZ):Bool:=es.toList.all λe=>match e.key with | .str _ _=>true | _=>false
structure Ek (K:bo)(N:Addr):Prop where
 ex:∃(c:Value) (dd:Option Addr) (es:Array akZ) (n:Nat) (sl:Array (Option Value)),K.lookup N=some ⟨c,dd,.dict es n,sl⟩/\strKeys es=true
 no:di K N "__init__"=some none
theorem Ek.ns {K:bo}{N:Addr}(x:Ek K N){h:Heap}(X:K.In h):∃mN,h.Ns N mN/\mN "__init__"=none:=by
 obtain⟨⟨c,dd,es,n,sl,l,sk⟩,no⟩:=x;have ns:h.Ns N (nsFind es):=⟨_,es,n,X _ _ l,rfl,λe he=>by
  have z:=List.all_eq_true.mp sk e (Array.mem_toList_iff.mpr he);cases hk:e.key with
  |str y t=>exact⟨y,t,rfl⟩
  |_=>rw[hk]at z;exact absurd z ma,λ_=>rfl⟩
 refine⟨_,ns,?_⟩;unfold di at no;rw[l]at no;dsimp only at no;unfold nsFind findBy;rw[<-Array.find?_toList];cases hf:es.toList.find? (λe=>e.key.isStr "__init__") with
 |none=>rfl
 |some e=>rw[hf]at no;cases no
inductive iZ (K:bo):List Value->Prop
 |base:iZ K qZ
 |own {D:Addr} {c0:Value} {dd:Option Addr} {cd:ClassData} {sl:Array (Option Value)} {tl:List Value}:K.lookup D=some ⟨c0,dd,.cls cd,sl⟩->Ek K cd.ns->iZ K tl->iZ K (.ref D::tl)
theorem iZ.tail {K:bo}{bm:List Value}(x:iZ K bm){h:Heap}(X:K.In h):OwnTail h qZ bm:=by
 induction x with
 |base=>exact .base
 |own l n _ ih =>
  obtain⟨mA,a,b⟩:=n.ns X;exact .own (X _ _ l) a b ih
structure FN (K:bo)(C:Addr):Prop where
 ex:∃(nm q:Str) (N:Addr) (bs bm:List Value) (hdct:Bool) (sn:List Str) (sub:List Value) (ab:Bool) (col:Option Bool) (dd:Option Addr) (k0 k1 k2 k3 k5:Option Value),
  K.lookup C=some (akB nm q C N bs bm hdct sn sub ab col dd k0 k1 k2 k3 k5 "ValueError.__new__")/\Ek K N/\iZ K bm
section
variable{X:Cx}{x:Str}{C:Addr}{np gz pos:Pos}{e₀:Expr}{rest:List Expr}{ta:TA}
theorem iF (ek:FN X.K C)(hc:X.calm=true)(hg:Gl X x)(hm:X.mg x=some (.ref C))(ha:PA X.nox (e₀::rest) ta)(hdb:(x == ("__debug__":Str))=false:=by decide)
  (he:aj0 (e₀::rest) X.env=(false,eval e₀ X.env)::aj0 rest X.env:=by rfl) (hpl:(backTo gz (aj0 rest X.env)).any (·.1)=false:=by rfl) :
  PSX X (.Raise (some (.Call (.Name x np) (e₀::rest) [] gz)) none pos) (λ_ E σ H=>ta σ H λvs H1=>vs.length<=gr/\E σ (.ref C) none H1):=by
 intro pins s σ H D E I h;obtain⟨nm,q,N,bs,bm,hdct,sn,sub,ab,col,dd,k0,k1,k2,k3,k5,l,n,T⟩:=ek.ex;have go:wpAny (model X.prog X.w) X.A (eval (.Call (.Name x np) (e₀::rest) [] gz) X.env) (λv s₁=>∃(e:Addr) (xd:Option Addr) (a0:Value) (sl:Array (Option Value)),v=.ref e/\s₁.heap.get? C=some (akB nm q C N bs bm hdct sn sub ab col dd k0 k1 k2 k3 k5 "ValueError.__new__") /\
   s₁.heap.get? e=some ⟨.ref C,xd,.fields #[a0,.none,.none,.none,.bool false,.none],sl⟩/\XPS X pins E (.ref e) s₁) (XPS X pins E) s:=by
  refine wpAny_Call_Name_kw (kh I hg hm ?_ hdb);unfold callWith;rw[he];refine fu (wpAny_holding (Calls.evalArgs_plain ?_));have ha':=ha gz pins s σ H _ (I.pe _) h;rw[show X.nox.env=X.env from rfl,he]at ha'
  refine aki ha' (λus s₁ ⟨vs,H1,I1,r,hz,q1⟩=>fu (akV ?_)) λ_ _ z=>akr z
  have I1':=I1.eT;have kC:=I1'.kIn _ _ l;obtain⟨mN,kN,kI⟩:=n.ns I1'.kIn;have T1:=T.tail I1'.kIn;have pl:(backTo gz ((false,eval e₀ X.env)::aj0 rest X.env)).any (·.1)=false:=by
   show (false || (backTo gz (aj0 rest X.env)).any (·.1))=false
   rw[hpl];rfl
  obtain⟨hp,g',d',tk,os'⟩:=s₁;simp only[pl];refine fu (wpAny_keeperOf_exc kC ?_);refine fu (Mg (F:=PySem.F.excBase_ValueError) T1 kC kN kI (by rw[als,<-r.length];exact hz) λh' k ⟨tp,ke⟩=>fu (wpAny_holding (wpAny_point (ajY ?_))))
  have I2:Inv X pins σ H1 ⟨h',g',d',tk,os'⟩:=I1'.kept (t':=tk) k;refine⟨_,none,_,#[],rfl,k _ _ kC,ke,σ,_,_,none,none,H1,rfl,I2,⟨I1'.D4 (akY _) (I1'.hok.fresh (akY _)),_,_,ke,(by show 1 < 6;decide),rfl⟩,.inl rfl,q1⟩
 rw[arm_exec_Raise];have hb:bm.contains (.type "BaseException")=true:=(T.tail I.kIn).hasType (b:=true) (by trivial)
 first
  |exact fu (akV (uc (C:=C) (nm:=nm) (q:=q) (N:=N) (bs:=bs) (bm:=bm) (hdct:=hdct) (sn:=sn) (sub:=sub) (ab:=ab) (col:=col) (dd:=dd) (k0:=k0) (k1:=k1) (k2:=k2) (k3:=k3) (k5:=k5) hb (I.ok.hd hc) (fu (aki go (λv s₃ h₃=>fu (akV (ajY h₃))) λ_ _ z=>z))))
  | (simp only[evalOpt,Option.map];exact fu (akV (uc (C:=C) (nm:=nm) (q:=q) (N:=N) (bs:=bs) (bm:=bm) (hdct:=hdct) (sn:=sn) (sub:=sub) (ab:=ab) (col:=col) (dd:=dd) (k0:=k0) (k1:=k1) (k2:=k2) (k3:=k3) (k5:=k5) hb (I.ok.hd hc) (fu (aki go (λv s₃ h₃=>fu (akV (ajY h₃))) λ_ _ z=>z)))))
end
theorem C6 {α β:Type}(f:α->β):∀(xs:List α) (n:Nat),(xs.eraseIdx n).map f=(xs.map f).eraseIdx n
 |[],_=>rfl
 |_::_,0=>rfl
 |x::xs,n+1=>by
  show f x::(xs.eraseIdx n).map f=f x::(xs.map f).eraseIdx n;rw[C6 f xs n]
section
variable{X:Cx}{pos:Pos}
theorem Vals.insert {xs:List V}{us:List Value}(r:Vals xs us){y:V}{u:Value}(ry:RelV y u)(k:Nat):Vals (xs.take k++y::xs.drop k) (us.take k++u::us.drop k):=(r.take k).append (.cons ry (r.drop k))
def Q6:V->List V->Hp->VK->Prop:=λx vs H Q=>∃(l:Addr) (xs:List V) (i:Int) (k:Nat) (y:V),x=.ref l/\vs=[.int i,y]/\i=(k:Int)/\H l=some (.lst xs)/\k<=xs.length/\xs.length < gr/\Q .non (upd H l (.lst (xs.take k++y::xs.drop k)))
theorem Mh:MtM X "list.insert" Q6:=by
 intro pins s σ H x vs v us Q I rx rv h;obtain⟨l,xs,i,k,y,rfl,rfl,hi,hH,hk,hz,q⟩:=h;cases rx;obtain⟨u1,u2,rfl,r1,r2⟩:=rv.two;obtain⟨t,rfl⟩:=r1;obtain⟨z,its,n,r,hl,e⟩:=I.FC hH;have lim:gr=16777216:=by decide
 have a2:its.toArray.size<=gr:=by rw[ku];omega
 have b:Builtin.List.listFitsIndex i=true:=fitsIndex_both (by omega) (by omega)
 have nb:¬(!Builtin.List.listFitsIndex i)=true:=by rw[b];decide
 refine call_meets F.slot_list_insert ⟨_,e,rfl⟩ F.entry_list_insert (F.args_list_insert_3 _ _ _) (AutoSeq1.list_insert_list_int_val_1 l its.toArray n i t u2 nb a2) ⟨e,?_⟩;refine⟨.non,_,I.NL (its':=its.take k++u2::its.drop k) hH e ?_ (r.insert r2 k) ?_,rfl,q⟩
 ·show (its.toArray.extract 0 (if i < 0 then (i+(its.toArray.size:Int)).toNat else min i.toNat its.toArray.size)).push u2++its.toArray.extract (if i < 0 then (i+(its.toArray.size:Int)).toNat else min i.toNat its.toArray.size)=_
  have e1:(if i < 0 then (i+(its.toArray.size:Int)).toNat else min i.toNat its.toArray.size)=k:=by
   rw[ku,if_neg (by omega)]
   omega
  rw[e1];apply Array.toList_inj.mp;simp;exact List.take_of_length_le (by rw[alg];omega)
 ·rw[me,aj3,akF,alg];omega
end
section
variable{X:Cx}{e:Expr}{te:TE}{y:Str}{j:Nat}{p1 p2 pos:Pos}
def tFR (K:bo)(te:TE)(y:Str):TE:=λσ H Q=>te σ H λx H1=>∃(a:Addr) (d:PyData),x=.ref a/\DV K H1 d x/\d.showable=true/\d.hasDict=false/\d.depth<=60/\d.shown.length+y.length<=gr/\∀z:Str,Q (.str z) H1
theorem len_app (a b:Str):(a++b).length=a.length+b.length:=by
 show (a.cps++b.cps).size=_;simp[Str.length]
theorem Z3 (hg:X.A.guards=some [])(hu:X.A.units+64 < cLine)(he:PE X e te):PE X (.JoinedStr [.FormattedValue e 114 none p1,.Constant (.str y) j p2] pos) (tFR X.K te y):=by
 intro pins s σ H Q I h;refine wpAny_JoinedStr ?_;show Joins _ _ _ [eval (.FormattedValue e 114 none p1) X.env,eval (.Constant (.str y) j p2) X.env] _ _ _;refine wpAny_FormattedValue_repr (thn (he pins s σ H _ I h) λv s1 ⟨x,H1,I1,r1,a,d,e1,hd,sh,nd,dp,sz,q⟩=>?_)
 subst e1;obtain rfl:v=aj6 a:=r1;obtain⟨as,rd⟩:=DV.reads I1 d hd rfl;refine pyReprObj_of_reads (h₀:=s1.heap) rd sh (λz=>absurd z (by rw[nd];decide)) hg (by omega) (λ_ _ z=>z) (λh' u tk hk=>?_) (by omega)
 have I2:Inv X pins σ H1 { s1 with heap:=h',toks:=tk }:=I1.kept hk
 have emp:(akw++d.shown:Str)=d.shown:=by
  apply Eg;rw[fH];rfl
 have go:∀(t:Tok) (s2:Shared),Inv X pins σ H1 s2->∃z t',Value.str d.shown t=.str z t'/\(akw++z).length<=gr/\Joins (model X.prog X.w) X.A X.xe [eval (.Constant (.str y) j p2) X.env] (akw++z) (λout s₁=>out.length<=gr/\EP X pins σ Q (.str out s₁.toks) { s₁ with toks:=s₁.toks+1 }) s2:=λt s2 I3=>by
  refine⟨_,_,rfl,by rw[emp];omega,Calls.Constant_str ⟨y,_,rfl,?_,?_⟩⟩
  ·rw[emp,len_app];omega
  ·refine⟨by rw[emp,len_app];omega,.str _,H1,(I3.tok _).tok _,⟨_,rfl⟩,q _⟩
 exact wpAny_formatField_str (go _ _ I2) (go _ _ (I2.tok _)) (by omega)
end
theorem N8 {K:bo}{a D:Addr}{xs:List V}{te:TE}{Q:VK}{σ:St}{H1:Hp}(Pv:Nat->List V->Hp->Prop)(h0:Pv 0 [] (upd H1 D (.lst [])))(hz:xs.length<=gr)
  (hl:∀i ys H2,i<=xs.length->Pv i ys H2->SqT K H2 a xs/\H2 D=some (.lst ys)/\ys.length=i)
  (hs:∀i x ys H2,xs[i]?=some x->Pv i ys H2->te (some x::σ) H2 (ie D xs.length Pv i ys)) (hd:∀ys H2,Pv xs.length ys H2->Q (.ref D) H2) :
  vX (Itt K a) te σ D H1 Q:=by
 refine⟨λi m ys H=>m=xs.length - i/\i<=xs.length/\Pv i ys H,⟨xs.length,by simp,akX _,h0⟩,?_⟩
 rintro i m ys H2 ⟨rfl,hi,p⟩;obtain⟨q,q2,q3⟩:=hl i ys H2 hi p;refine⟨q2,?_⟩
 by_cases hlt:i < xs.length
 ·refine .inr ⟨⟨xs,xs[i],q,by simp[hlt]⟩,by omega,λx H3 y=>?_⟩
  obtain⟨e,y⟩:=y;subst e;exact hs i x ys _ (y xs q) p
 ·have e:i=xs.length:=by omega
  subst e;exact .inl ⟨⟨xs,q,kq _⟩,hd ys H2 p⟩
theorem bR {K:bo}{H H':Hp}{t:Addr}{xs:List V}(s:bu H H')(h:SqT K H t xs):SqT K H' t xs:=by
 rcases h with (h | ⟨o,h⟩) | h
 ·exact .inl (.inl (s _ _ h))
 ·exact .inl (.inr ⟨o,s _ _ h⟩)
 ·exact .inr h
end L2
namespace L2
open PySem PySem.Spec PySem.Calls PyProof.Rows
def Vm (n:Nat)(Cf:Nat->Addr)(m:Str)(spf:Nat->Sp)(E:XK)(ta:TE):TE:=λσ H Q=>ta σ H λx H1=>∃k,k < n/\∃a dx fs,x=.ref a/\H1 a=some (.ins (Cf k) dx fs)/\fs.lookup m=none/\spf k [x] H1 Q E
section
variable{X:Cx}{o:Expr}{ta:TE}{m:Str}{apos pos:Pos}{n:Nat}{Cf ff:Nat->Addr}{fdf:Nat->kj}{spf:Nat->Sp}{kk:Nat}{ps:List Str}{CX:CXT}{E:XK}
theorem lW {pl:Sem Bool}(he:PE X o ta)(c:∀k,k < n->Cls X.K (Cf k))(hm:∀k,k < n->Meth X.K (Cf k) m (ff k))(F:∀k,k < n->a7 X.prog X.w X.K X.mg X.base CX kk (ff k) (fdf k) ps (spf k))(hr:Room kk X.A)(hb:∀k,k < n->Binds X.K (fdf k) ps [])
  (hx:Passes CX X E)
  (ht:eval (.Call (.Attribute o m apos) [] [] pos) X.env=(do
   let ov <-eval o X.env
   standAt apos.atName
   let (f,first) <-holding [ov] (getMethod ov m pl)
   callWith pos f first (backTo pos (aj0 [] X.env)) (backToKw pos (keywordEach [] X.env))):=by rfl) :
  PE X (.Call (.Attribute o m apos) [] [] pos) (Vm n Cf m spf E ta):=by
 intro pins s σ H Q I h;refine akU (pl:=pl) (thn (he pins s σ H _ I h) λu s1 ⟨x,H1,I1,rx,k,hk,a,dx,fs,ex,ea,l,q⟩=>?_) ht
 subst ex;obtain rfl:u=aj6 a:=rx;refine jB I1 ea (c k hk) (hm k hk) l ?_;exact alo (first:=[.ref a]) I1.kIn (hm k hk).kp (AH (us:=[.ref a]) (vs:=[.ref a]) (dvs:=[]) (F k hk) hr (hb k hk) .nil hx I1 (.cons rfl .nil) q)
theorem Z4 {P:sr}{w:World}{K:bo}{mg:Str->Option Value}{base:Heap}{CX:CXT}{k:Nat}{f:Addr}{fd:kj}{ps:List Str}{sp sp':Sp}(F:a7 P w K mg base CX k f fd ps sp)(G:a7 P w K mg base CX k f fd ps sp') :
  a7 P w K mg base CX k f fd ps (λvs H Q E=>sp vs H Q E\/sp' vs H Q E) :=
 ⟨λvs H Q E z=>z.elim (F.len vs H Q E) (G.len vs H Q E),λa b c H d e vs Q E p q r s z=>z.elim (F.run a b c H d e vs Q E p q r s) (G.run a b c H d e vs Q E p q r s)⟩
end
section
variable{X:Cx}
def Vn (K:bo):V->List V->Hp->VK->Prop:=λx vs H Q=>∃(l:Addr) (ws:List Str) (z:Str) (j:Nat),x=.ref l/\vs=[.str z]/\SqL K H l (ws.map V.str)/\ws[j]?=some z/\(∀m,m < j->ws[m]?≠some z)/\Q (.int j) H
theorem N9:MtR X "list.index" (Vn X.K):=by
 intro pins s σ H x vs v us Q I rx rv h;obtain⟨l,ws,z,j,rfl,rfl,hq,hj,hno,q⟩:=h;cases rx;obtain⟨u,rfl,t,rfl⟩:=vals1 rv;obtain⟨its,r,pl,hz⟩:=I.list hq;have hlen:=r.length;rw[ba]at hlen;obtain⟨⟨cls,dd,data,sl⟩,ho,hc,n,hd⟩:=pl.isList;simp only at hc hd;subst hc hd;have flat:(ws.map V.str).all vT=true:=by
  rw[List.all_eq_true];intro y hy;obtain⟨w,_,rfl⟩:=List.mem_map.mp hy;rfl
 have at_:∀(i:Nat) (h:i < its.toArray.size),∃w,ws[i]?=some w/\eqU (.str z) its.toArray[i]=(w == z):=λi h=>by
  have h':i < ws.length:=by rw[ku]at h;omega
  refine⟨ws[i],wa h',?_⟩;obtain⟨u,hu,ru⟩:=Vals.get r (show (ws.map V.str)[i]?=some (V.str ws[i]) by rw[aj7,wa h'];rfl)
  have e:its.toArray[i]=u:=by
   rw[wa (by rw[ku]at h;exact h)]at hu
   simpa using ajZ hu
  rw[e,Jk ru rfl];rfl
 have jl:j < ws.length:=(List.getElem?_eq_some_iff.mp hj).1;have hn:=uK;have hsz:ws.length<=gr:=by rw[ba]at hz;exact hz
 refine call_meets PySem.F.slot_list_index ⟨_,ho,rfl⟩ PySem.F.entry_list_index (PySem.F.args_list_index_2 _ _) (SeqAt.list_indexAt l its.toArray n dd sl (.str z t) (eqU (.str z)) j (by rw[ku];omega) (by rw[sizeLine_eq]at hsz;omega) ?_ ?_) ⟨ho,λy hy=>vU (x:=.str z) (v:=.str z t) ⟨t,rfl⟩ rfl r flat y (by simpa using hy),?_⟩
 ·obtain⟨w,h1,h2⟩:=at_ j (by rw[ku];omega)
  rw[h2];obtain rfl:=ajZ (h1.symm.trans hj);exact beq_self_eq_true _
 ·intro m hm hmj;obtain⟨w,h1,h2⟩:=at_ m hm;rw[h2];exact beq_eq_false_iff_ne.mpr λe=>hno m hmj (by rw[h1,e])
 ·exact⟨.int j,H,I.tok _,⟨_,rfl⟩,q⟩
end
def KeysAre:List akZ->List Str->Prop
 |[],ns=>ns=[]
 |e::r,ns=>∃x xs t,ns=x::xs/\e.key=.str x t/\KeysAre r xs
structure Lr (P:Params)(K:bo)(a:Addr)(ns:List Str):Prop where
 ex:∃es n,K.lookup a=some ⟨.type "dict",none,.dict es n,#[]⟩/\PySem.W.KeysLit P es.toList/\KeysAre es.toList ns
 nd:ns.Nodup
 lo:(a == alh)=false
theorem Jr {prog:sr}{w:World}:∀(es:List akZ) (ns:List Str),PySem.W.KeysLit w.params es->KeysAre es ns->∃kvs:List (Str×Value),Pairs (strKind prog w) es kvs/\kvs.map (·.1)=ns:=by
 intro es
 induction es with
 |nil =>
  intro ns _ h;have h':ns=[]:=h;subst h';exact⟨[],by first | exact .nil | exact trivial | exact rfl | constructor,rfl⟩
 |cons e r ih =>
  rintro ns ⟨⟨x,t,e1,e2⟩,hk⟩ ⟨y,ys,t',rfl,e3,hr⟩;obtain⟨kvs,h1,h2⟩:=ih ys hk hr;rw[e1]at e3;injection e3 with e4 _
  subst e4;exact⟨(x,e.val)::kvs,.cons (by rw[e1];exact strKind_is prog w x t) rfl h1,by rw[km,h2]⟩
theorem Lr.at {prog:sr}{w:World}{K:bo}{a:Addr}{ns:List Str}(T:Lr w.params K a ns):∃(kvs:List (Str×Value)) (n:Nat),kvs.map (·.1)=ns/\∀h:Heap,K.In h->h.DictAt (strKind prog w) a kvs n:=by
 obtain⟨es,n,hl,hk,ha⟩:=T.ex;obtain⟨kvs,h1,h2⟩:=Jr (prog:=prog) es.toList ns hk ha;refine⟨kvs,n,h2,λh X=>⟨_,es,X _ _ hl,⟨rfl,rfl,rfl⟩,rfl,λe he=>?_,h1,by rw[h2];exact T.nd⟩⟩
 obtain⟨x,t,e1,e2⟩:=hk.all e (Array.mem_toList_iff.mpr he);exact⟨x,by rw[e1];exact strKind_is prog w x t,e2⟩
def FO (n:Nat)(Pv:Nat->List V->Hp->Prop)(i:Nat)(ys:List V)(H4:Hp):Prop:=∃m',m' < n - i/\m'=n - (i+1)/\i+1<=n/\Pv (i+1) ys H4
theorem FO.mk {n:Nat}{Pv:Nat->List V->Hp->Prop}{i:Nat}{ys:List V}{H4:Hp}(hi:i < n)(h:Pv (i+1) ys H4):FO n Pv i ys H4:=⟨n - (i+1),by omega,rfl,hi,h⟩
end L2
namespace L2
open PySem PySem.Spec PyProof.Rows
inductive Vo:List Expr->List Str->Prop
 |nil:Vo [] []
 |cons {x:Str} {j:_} {p:Pos} {es:List Expr} {ss:List Str}:Vo es ss->Vo (.Constant (.str x) j p::es) (x::ss)
structure AM (scope outer:Scope)(xs N M:List Str):Prop where
 kind:scope.kind=.function
 NT:outer.kind=.function
 Eh:∀y∈scope.names,y.2≠.cell
 names:∀y∈scope.names,y.2=.local->scope.names.lookup y.1=some .local
 hx:∀x∈xs,scope.names.lookup x=some .local
 free:∀y∈scope.names,y.2=.free->outer.names.lookup y.1=some .cell
 nl:∀n∈M,(fP scope outer).names.lookup n≠some .local
 nd2:(xs++M).Nodup
 nd:N.Nodup
 len:M.length=N.length
 rel:∀i:Nat,i < N.length->M[i]?=N[i]?\/M[i]?=some akw
 em:(fP scope outer).names.lookup akw=none
theorem AM.mem {scope outer:Scope}{xs:List Str}{N M:List Str}(S:AM scope outer xs N M){n:Str}{k:NameKind}(h:(fP scope outer).names.lookup n=some k)(hk:k=.cell\/k=.free) :
  k=.cell/\(n,ak8)∈scope.names/\outer.names.lookup n=some .cell:=by
 obtain⟨⟨n',k'⟩,hm,e⟩:=List.mem_map.mp (ak3 h);dsimp only at e
 by_cases hc:(k' == ak8 && outer.kind == .function && outer.names.lookup n' == some .cell)=true
 ·rw[if_pos hc]at e;injection e with e1 e2
  subst e1 e2;rw[akG,akG]at hc;have hk':k'=.free:=beq_iff_eq.mp hc.1.1;subst hk';exact⟨rfl,hm,beq_iff_eq.mp hc.2⟩
 ·rw[if_neg hc]at e;injection e with e1 e2
  subst e1 e2;rcases hk with z | z
  ·exact absurd z (S.Eh _ hm)
  ·subst z
   exfalso
   refine hc ?_;rw[S.free _ hm rfl,S.NT];rfl
def Z5 (t:TAX):TEX:=λσ H Q E=>t σ H (λxs H1=>xs.length<=gr/\∀p,H1 p=none->Q (.ref p) (upd H1 p (.tup xs))) E
theorem As {X:Cx}{es:List Expr}{t:TAX}{x1:_}{pos:Pos}(h:PAX X es t):PEX X (.Tuple es x1 pos) (Z5 t):=by
 intro pins s σ H Q E I hq;refine wpAny_Tuple_spliced (thn (h pos pins s σ H _ E I hq) λus s1 ⟨xs,H1,I1,r,z,q⟩=>⟨by rw[<-r.length];exact z,?_⟩)
 have hf:H1 s1.heap.objs.size=none:=I1.hok.fresh (kq _);refine⟨.ref s1.heap.objs.size,upd H1 s1.heap.objs.size (.tup xs),I1.laid (t':=s1.toks) (λb u e=>kg _ e) (kq _) ?_,rfl,q _ hf⟩
 exact⟨z,us,r,⟨_,akg _ rfl,rfl,_,rfl⟩⟩
abbrev TJ:=St->Hp->Str->(Str->Hp->Prop)->Prop
def PJ (X:Cx)(es:List Expr)(t:TJ):Prop :=
 ∀(pins:List (Addr×Obj)) (s:Shared) (σ:St) (H:Hp) (acc:Str) (Q:Str->Hp->Prop),Inv X pins σ H s->t σ H acc Q ->
  Joins (model X.prog X.w) X.A X.xe (evalEach es X.env) acc (λout s1=>∃H1,Inv X pins σ H1 s1/\out.length<=gr/\Q out H1) s
theorem Joins.mono {M:Model}{A:Around}{E:Value->Shared->Prop}{Q Q':Str->Shared->Prop}(hQ:∀o s,Q o s->Q' o s):∀ {ps:List (Sem Value)} {acc:Str} {s:Shared},Joins M A E ps acc Q s->Joins M A E ps acc Q' s
 |[],_,_,h=>hQ _ _ h
 |_::_,_,_,h=>aki h (λ_ _ ⟨y,t,e,l,r⟩=>⟨y,t,e,l,Joins.mono hQ r⟩) λ_ _ z=>z
inductive Js:V->Str->Prop
 |int {i:Int}:i.natAbs.log2 < 1920->Js (.int i) (toString i)
 |str {x:Str}:Js (.str x) x
section
variable{X:Cx}{e:Expr}{es:List Expr}{te:TE}{t:TJ}{y:Str}{j:Nat}{p1 p2 pos:Pos}
theorem uN:PJ X [] (λ_ H acc Q=>acc.length<=gr/\Q acc H):=λ_ _ _ H _ _ I h=>⟨H,I,h.1,h.2⟩
theorem kM (h:PJ X es t):PJ X (.Constant (.str y) j p1::es) (λσ H acc Q=>(acc++y).length<=gr/\t σ H (acc++y) Q):=by
 intro pins s σ H acc Q I hw;show wpAny _ _ (eval (.Constant (.str y) j p1) X.env) _ _ s;exact Calls.Constant_str ⟨y,_,rfl,hw.1,h pins _ σ H _ Q (I.tok _) hw.2⟩
theorem uO (he:PE X e te)(h:PJ X es t):PJ X (.FormattedValue e (-1) none p1::es) (λσ H acc Q=>te σ H λx H1=>∃z,Js x z/\z.length<=gr/\(acc++z).length<=gr/\t σ H1 (acc++z) Q):=by
 intro pins s σ H acc Q I hw;show wpAny _ _ (eval (.FormattedValue e (-1) none p1) X.env) _ _ s;refine wpAny_FormattedValue_plain (thn (he pins s σ H _ I hw) λv s1 ⟨x,H1,I1,r1,z,fz,l1,l2,q⟩=>?_)
 cases fz with
 |int hl =>
  obtain⟨tk,rfl⟩:=r1;exact wpAny_formatField_int hl ⟨_,_,rfl,l2,h pins _ σ H1 _ Q ((I1.tok _).tok _) q⟩
 |str =>
  obtain⟨tk,rfl⟩:=r1;exact wpAny_formatField_str ⟨_,_,rfl,l2,h pins _ σ H1 _ Q I1 q⟩ ⟨_,_,rfl,l2,h pins _ σ H1 _ Q (I1.tok _) q⟩ l1
theorem AN {e₂:Expr}(h:PJ X (e::e₂::es) t):PE X (.JoinedStr (e::e₂::es) pos) (λσ H Q=>t σ H akw λz H1=>Q (.str z) H1):=by
 intro pins s σ H Q I hw;refine wpAny_JoinedStr ?_;have:=h pins s σ H akw _ I hw;refine Joins.mono ?_ this;rintro out s1 ⟨H1,I1,l,q⟩;exact⟨l,.str out,H1,I1.tok _,⟨_,rfl⟩,q⟩
end
def xi (a C:Addr)(xd:Option Addr):HO:=.ext λh=>∃a0:Addr,h.get? a=some ⟨.ref C,xd,.fields #[.ref a0,.none,.none,.none,.bool false,.none],#[]⟩
section
variable{P:sr}{w:World}{H:Hp}{h:Heap}{a C:Addr}{xd:Option Addr}
theorem Oa {a0:Addr}(e:h.get? a=some ⟨.ref C,xd,.fields #[.ref a0,.none,.none,.none,.bool false,.none],#[]⟩):fO P w H h a (xi a C xd) :=
 ⟨⟨a0,e⟩,⟨_,e⟩,λ_ _ ⟨b,z⟩ k=>⟨b,k _ z⟩⟩
theorem Ob (x:fO P w H h a (xi a C xd)):∃a0:Addr,h.get? a=some ⟨.ref C,xd,.fields #[.ref a0,.none,.none,.none,.bool false,.none],#[]⟩:=x.1
end
structure Tn (K:bo)(D:Addr):Prop where
 rd:PySem.W.readsIn K D (.type "type")=true
 sp:PySem.W.specialIn K (.ref D) "__getattribute__"=some (some (.builtin "type.__getattribute__"))
 fc:PySem.W.findCls K (.ref D) (.type "type") "__init__"=some (.val (.builtin "ValueError.__init__"))
structure El (K:bo)(N f:Addr):Prop where
 ex:∃(c:Value) (dd:Option Addr) (es:Array akZ) (n:Nat) (sl:Array (Option Value)),K.lookup N=some ⟨c,dd,.dict es n,sl⟩/\strKeys es=true
 at_:di K N "__init__"=some (some (.ref f))
theorem El.ns {K:bo}{N f:Addr}(x:El K N f){h:Heap}(X:K.In h):∃mN,h.Ns N mN/\mN "__init__"=some (.ref f):=by
 obtain⟨⟨c,dd,es,n,sl,l,sk⟩,no⟩:=x;have ns:h.Ns N (nsFind es):=⟨_,es,n,X _ _ l,rfl,λe he=>by
  have z:=List.all_eq_true.mp sk e (Array.mem_toList_iff.mpr he);cases hk:e.key with
  |str y t=>exact⟨y,t,rfl⟩
  |_=>rw[hk]at z;exact absurd z ma,λ_=>rfl⟩
 refine⟨_,ns,?_⟩;unfold di at no;rw[l]at no;dsimp only at no;unfold nsFind findBy;rw[<-Array.find?_toList];cases hf:es.toList.find? (λe=>e.key.isStr "__init__") with
 |none =>
  rw[hf]at no;dsimp only at no
  by_cases q:es.toList.any (·.refKey)=true
  ·rw[if_pos q]at no;cases no
  ·rw[if_neg q]at no;cases no
 |some e=>rw[hf]at no;exact ajZ no
structure Em (K:bo)(C f:Addr)(name:Str):Prop where
 ex:∃(nm q:Str) (N:Addr) (bs bm:List Value) (hdct:Bool) (sn:List Str) (sub:List Value) (ab:Bool) (col:Option Bool) (dd:Option Addr) (k0 k1 k2 k3 k5:Option Value),
  K.lookup C=some (akB nm q C N bs bm hdct sn sub ab col dd k0 k1 k2 k3 k5 "ValueError.__new__")/\iZ K bm/\hdct=true/\El K N f
 fn:om K (.ref f)=true
 sa:cb K (.ref C) "__setattr__"=some (some (.builtin "object.__setattr__"))
 na:cb K (.ref C) name=some none
section
variable{X:Cx}{pins:List (Addr×Obj)}{σ:St}{H:Hp}{s:Shared}{C f:Addr}{name:Str}
theorem iZ.pass {K:bo}{bm:List Value}(x:iZ K bm)(self:Value):refuseLoop self "__setattr__" bm=pure ():=by
 induction x with
 |base=>exact PySem.F.store_ValueError.passes self
 |own _ _ _ ih=>rw[refuseLoop_ref];exact ih
theorem Jt {xk:Em X.K C f name}:lF X (.builtin "ValueError.__init__") (λxs H Q=>∃ea v,xs=[.ref ea,v]/\H ea=some (xi ea C none)/\Q .non H):=by
 intro pins s σ H xs us Q I r h;obtain⟨ea,v,rfl,hx,q⟩:=h;obtain⟨nm,qn,N,bs,bm,hdct,sn,sub,ab,col,dd,k0,k1,k2,k3,k5,l,T,hd,hi⟩:=xk.ex;obtain⟨u,u2,rfl,rx,rv⟩:=vals2 r;cases rx;obtain⟨a0,e⟩:=Ob (P:=X.prog) (w:=X.w) (I.hok _ _ hx);have kC:=I.kIn _ _ l;have T1:=T.tail I.kIn;have F:=PySem.F.excBase_ValueError;have ha:X.A.handled=X.A.handled:=rfl;obtain⟨hp,g,d,tk,os⟩:=s;dsimp only at e kC T1;refine wpAny_call (codeAny_call_builtin F.init.plain F.initEntry (wpAny_check_init_subT F T1 kC e rfl ?_))
 wp_walk
 have hE:ea≠hp.objs.size:=akj (tm e);have e1:(hp.push { cls:=.type "tuple",data:=.seq #[u2] }).get? ea=_:=kg _ e;have k:∀b o,b≠ea->hp.get? b=some o->((hp.push { cls:=.type "tuple",data:=.seq #[u2] }).update ea (ak1 λx=>x.setIfInBounds 0 (.ref hp.objs.size))).get? b=some o:=λb o hb q =>
  (akJ _ _ (akp hb)).trans (kg _ q)
 have e2:((hp.push { cls:=.type "tuple",data:=.seq #[u2] }).update ea (ak1 λx=>x.setIfInBounds 0 (.ref hp.objs.size))).get? ea=some ⟨.ref C,none,.fields #[.ref hp.objs.size,.none,.none,.none,.bool false,.none],#[]⟩:=ak7 _ e1 rfl
 have un:upd H ea (xi ea C none)=H:=by
  funext b
  by_cases z:b=ea
  ·rw[z,ae,hx]
  ·rw[aw z]
 have I2:=I.write (x:=ea) (e:=ea) (o:=xi ea C none) (t':=tk) (by rw[hx];exact ali) (.inl rfl) k ⟨_,e2⟩ (Oa e2)
 rw[un]at I2;exact⟨.non,H,I2,rfl,q⟩
end
end L2
namespace L2
open PySem PySem.Spec PyProof.Rows PySem.Builtin PySem.Builtin.ObjectAttr
section
variable{prog:sr}{w:World}{A:Around}{E:Value->Shared->Prop}{K:bo}{x C f:Addr}{name:Str}{v:Value}
theorem Oc {s:Shared}{vs:Array Value}{sl:Array (Option Value)}{Q:Unit->Shared->Prop}(X:K.In s.heap)(xk:Em K C f name)(hx:s.heap.get? x=some ⟨.ref C,none,.fields vs,sl⟩)
  (h:∀h' tk,h'.get? x=some ⟨.ref C,some s.heap.objs.size,.fields vs,sl⟩->h'.Ns1 s.heap.objs.size (λy=>if y=name then some v else none)->(∀b o,b≠x->s.heap.get? b=some o->h'.get? b=some o) ->
   Q () { s with heap:=h',toks:=tk }):wpAny (model prog w) A (setAttr (.ref x) name v) Q E s:=by
 obtain⟨nm,qn,N,bs,bm,hdct,sn,sub,ab,col,dd,k0,k1,k2,k3,k5,l,T,hd,hi⟩:=xk.ex;subst hd;obtain⟨hp,g,d,tk,os⟩:=s;dsimp only at hx h X;have J:PySem.W.InstAt hp x ⟨.ref C,none,.fields vs,sl⟩ C none:=⟨hx,rfl,rfl,trivial⟩;have SF:=PySem.F.store_object;have kC:=X _ _ l;have hT:=T.tail X;have hob:(aj6 C::bm).contains (.type "object")=true:=by rw[List.contains_cons,hT.hasType (b:=true) (by trivial),Bool.or_true]
 have pass:refuseLoop (.ref x) "__setattr__" (.ref C::bm)=pure ():=by rw[refuseLoop_ref];exact T.pass _
 refine PySem.W.set_plain X J xk.sa ?_;have sb:PySem.W.Looks (model prog w) hp (isInstance (.ref x) (.type "object")) true:=J.type.andThen (PySem.W.looks_mroIn X (by unfold PySem.W.mroIn PySem.W.clsIn;rw[l];simpa using hob))
 refine codeAny_call_builtin SF.slot.plain SF.entry (@PySem.W.check_slot (model prog w) _ _ ⟨hp,g,d,tk+1,os⟩ "object.__setattr__" "object" "__setattr__" (.ref x) [.str name tk,v] [] _ SF.kind SF.split sb (SF.args (.ref x) (.str name tk) v) ?_);have hm:PySem.W.Looks (model prog w) hp (mroOf (.ref C)) (.ref C::bm):=(PySem.W.looks_clsIn X (by unfold PySem.W.clsIn;rw[l])).andThen .now
 rw[PySem.W.osa_eq,refuse_eq];refine fu (fu ((J.type (M:=model prog w)).at (fu (hm.at ?_))));rw[pass];refine ajY (fu ((J.type (M:=model prog w)).at (fu ((PySem.W.looks_findIn X xk.na).at (fu ((show PySem.W.Looks (model prog w) hp (storeTaker? none) none from .now).at ?_))))))
 have hxs:x≠hp.objs.size:=akj (tm hx);obtain⟨cd,hcl,hdd⟩:∃cd,PySem.W.clsIn K C=some cd/\cd.hasDict=true:=⟨_,by unfold PySem.W.clsIn;rw[l],rfl⟩
 refine fu (ajY (fu (fu (wpAny_loadPart hx (fu ((PySem.W.looks_clsIn X hcl).at ?_))))));rw[hdd];have hx₁:(hp.push { cls:=.type "dict",data:=.dict #[] }).get? x=some _:=kg _ hx;refine fu (wpAny_alloc' ?_);refine fu (wpAny_update' hx₁ ?_);refine ajY ?_;have hgd:((hp.push { cls:=.type "dict",data:=.dict #[] }).update x λo=>{ cls:=o.cls,dict:=some hp.objs.size,data:=o.data,slots:=o.slots }).get? hp.objs.size
   = some { cls:=.type "dict",data:=.dict #[] } :=
  (Heap.get?_update_ne _ _ _ _ hxs.symm).trans (Heap.get?_push_at rfl rfl)
 have hnd:((hp.push { cls:=.type "dict",data:=.dict #[] }).update x λo=>{ cls:=o.cls,dict:=some hp.objs.size,data:=o.data,slots:=o.slots }).Ns hp.objs.size (λ_=>none) :=
  ⟨_,#[],_,hgd,rfl,λe he=>absurd he (by simp),λ_=>rfl⟩
 show wpAny _ _ (storeInDict hp.objs.size (.str name tk) name v) _ _ _;unfold storeInDict newKeyGuard;refine fu (ajY (fu (wpAny_nsSet1 (Heap.Ns1.of_empty hnd) λh' hn' hs=>?_)))
 obtain⟨oD,esD,epD,hoD,hdD,hcD⟩:=hn'.count (Within.cons name v Within.nil);refine fu (wpAny_lookBehind hoD (by rw[hdD];exact pastItsLine_dict (adm hcD (by rw[aj3,alu,sizeLine_eq];omega))) ?_)
 refine ajY (h h' _ ?_ hn' λb ob hbx hb=>(hs.2 b (akj (tm hb))).trans ((Heap.get?_update_ne _ _ _ _ hbx).trans (kg _ hb)))
 exact(hs.2 x hxs).trans (ak7 _ hx₁ rfl)
end
end L2
namespace L2
open PySem PySem.Spec PyProof.Rows
section
variable{prog:sr}{w:World}{A:Around}{E:Value->Shared->Prop}{h:Heap}{g:Array GenState}{d:Drawn}{t:Nat}{os:OsState}
variable{nm q:Str}{C N fI:Addr}{bs bm bmB:List Value}{hdct:Bool}{sn:List Str}{sub:List Value}{ab:Bool}{col:Option Bool}{dd:Option Addr}{k0 k1 k2 k3 k5:Option Value}{B nid iid:String}{K:bo}
theorem Mi (X:K.In h)(F:ExcBaseFacts B nid iid bmB)(T:OwnTail h bmB bm){mN:Str->Option Value}{us:List Value}{Q:Fin->Shared->Prop}
  (kC:h.get? C=some (akB nm q C N bs bm hdct sn sub ab col dd k0 k1 k2 k3 k5 nid)) (kN:h.Ns N mN) (kI:mN "__init__"=some (.ref fI)) (hf:PySem.W.typeIn K (.ref fI)=some (.type "function")) (hz:us.length<=gr)
  (hq:wpAny (model prog w) A (call (.ref fI) (.ref (h.objs.size+1)::us)) (λr s'=>r=.none/\Q (.done (.ret (.ref (h.objs.size+1)))) s') E ⟨nR h C us,g,d,t,os⟩) :
  wpAny (model prog w) A (Builtin.«type.__call__» ⟨.ref C::us,[]⟩) Q E ⟨h,g,d,t,os⟩:=by
 repeat (first | with_reducible refine wpAny_loadPart_at kC ?_ | with_reducible refine wpAny_madeBy_exc kC ?_ | wp_step)
 refine codeAny_call_builtin_code (Code.quiet_builtin _ F.quiet) (wpAny_check_new_subT F T kC (codeAny_exc_new_subT F T kC ?_ hz));show wpAny _ _ _ _ _ _;have kC1:(nR h C us).get? C=_:=fR kC;have kN1:(nR h C us).Ns N mN:=kN.keeps λb o e=>fR e
 have X1:K.In (nR h C us):=X.keeps λb o e=>fR e
 have T1:OwnTail (nR h C us) bmB bm:=T.keeps λb o e=>fR e
 have kE:=AL (h:=h) (C:=C) (us:=us);have self:(aj6 C::bm).contains (.ref C)=true:=by simp
 unfold isInstance
 repeat (first | with_reducible refine wpAny_loadPart_at kE ?_ | (with_reducible refine wpAny_isSubtype_exc kC1 ?_;rw[self]) | wp_step)
 show wpAny _ _ (typeLookup (.ref C) _) _ _ _;refine wpAny_typeLookup_tail kC1 kN1 T1 F.mroIs F.init.lookup ?_;rw[kI];refine wpAny_holding (fu ((PySem.W.bind_fn X1 (.ref (h.objs.size+1)) hf).at ?_));refine fu (aki hq (λr s' hr=>?_) λ_ _ z=>z)
 obtain⟨rfl,hQ⟩:=hr
 wp_walk
 exact hQ
theorem Od (X:K.In h)(F:ExcBaseFacts B nid iid bmB)(T:OwnTail h bmB bm){mN:Str->Option Value}{us:List Value}{Q:Value->Shared->Prop}
  (kC:h.get? C=some (akB nm q C N bs bm hdct sn sub ab col dd k0 k1 k2 k3 k5 nid)) (kN:h.Ns N mN) (kI:mN "__init__"=some (.ref fI)) (hf:PySem.W.typeIn K (.ref fI)=some (.type "function")) (hz:us.length<=gr)
  (hq:wpAny (model prog w) (A.under (.builtin "type.__call__" ⟨.ref C::us,[]⟩)) (call (.ref fI) (.ref (h.objs.size+1)::us)) (λr s'=>r=.none/\Q (.ref (h.objs.size+1)) s') E ⟨nR h C us,g,d,t,os⟩) :
  wpAny (model prog w) A (call (.ref C) us) Q E ⟨h,g,d,t,os⟩:=by
 have l1:=tc_lookup;have l2:=tc_bind (.ref C);have ty:(⟨h,g,d,t,os⟩:Shared).TypeIs (.ref C) "type":=⟨_,kC,rfl⟩;refine wpAny_call (codeAny_of_tree ?_);show wpAny _ _ (callAny (.ref C) _) _ _ _
 repeat (any_goals (first | assumption | with_reducible refine wpAny_loadPart_at kC ?_ | wp_step))
 exact⟨rfl,codeAny_call_builtin_at (Code.quiet_builtin _ (by trivial)) entry_typeCall (wpAny_check_type_call_sub kC (Mi X F T kC kN kI hf hz hq))⟩
end
def Mj (C:Addr)(name:Str):Sp:=λvs H Q _=>∃(e:Addr) (v:V),vs=[.ref e,v]/\H e=some (xi e C none)/\(∃z,Js v z/\z.length<=10000)/\∀d,H d=none->Q .non (upd (upd H d (.xd [(name,v)])) e (xi e C (some d)))
section
variable{X:Cx}{pins:List (Addr×Obj)}{σ:St}{H:Hp}{s:Shared}{C f:Addr}{name x:Str}{fd:kj}{ps:List Str}{k:Nat}{np gz pos:Pos}{e₀:Expr}{ta:TA}
theorem Ml {E:Value->Shared->Prop}{v:V}{u:Value}{Q:Value->Shared->Prop}(xk:Em X.K C f name)(F:a7 X.prog X.w X.K X.mg X.base CX0 k f fd ps (Mj C name))(hr:Room (k+1) X.A)(hb:Binds X.K fd ps [])(I:Inv X pins σ H s)(r:RelV v u)
  (hv:∃z,Js v z/\z.length<=10000)
  (h:∀(e d:Addr) (a0:Value) (s':Shared),H d=none->Inv X pins σ (upd H d (.xd [(name,v)])) s'->lh X pins (upd H d (.xd [(name,v)])) e->s'.heap.get? e=some ⟨.ref C,some d,.fields #[a0,.none,.none,.none,.bool false,.none],#[]⟩->Q (.ref e) s') :
  wpAny (model X.prog X.w) X.A (call (.ref C) [u]) Q E s:=by
 obtain⟨nm,qn,N,bs,bm,hdct,sn,sub,ab,col,dd,k0,k1,k2,k3,k5,l,T,hd,hi⟩:=xk.ex;obtain⟨mN,kN,kI⟩:=hi.ns I.kIn;have fre:=I.hok.fresh (kq _);obtain⟨hp,g,dr,tk,os⟩:=s;have ne:H (hp.objs.size+1)=none:=I.hok.fresh (akY _);have I2:Inv X pins σ (upd H (hp.objs.size+1) (xi (hp.objs.size+1) C none)) ⟨nR hp C [u],g,dr,tk,os⟩ :=
  I.laid (h':=nR hp C [u]) (t':=tk) (λb o q=>fR q) (akY _) (Oa AL)
 have r2:Vals [V.ref (hp.objs.size+1),v] [aj6 (hp.objs.size+1),u]:=.cons rfl (.cons r .nil);have hsp:Mj C name [V.ref (hp.objs.size+1),v] (upd H (hp.objs.size+1) (xi (hp.objs.size+1) C none))
   (λv' H'=>v'=.non/\∃d,H d=none/\d≠hp.objs.size+1/\H'=upd (upd (upd H (hp.objs.size+1) (xi (hp.objs.size+1) C none)) d (.xd [(name,v)])) (hp.objs.size+1) (xi (hp.objs.size+1) C (some d))) E0:=by
  refine⟨_,v,rfl,ae,hv,λd hd=>⟨rfl,d,?_,?_,rfl⟩⟩
  ·by_cases z:d=hp.objs.size+1
   ·rw[z,ae]at hd;cases hd
   ·rwa [aw z]at hd
  ·intro z;rw[z,ae]at hd;cases hd
 have hl:[aj6 (hp.objs.size+1),u].length=ps.length:=by rw[<-r2.length];exact F.len _ _ _ _ hsp
 refine Od I.kIn (F:=PySem.F.excBase_ValueError) (T.tail I.kIn) (I.kIn _ _ l) kN kI (beq_iff_eq.mp xk.fn) (show 1<=gr by decide) (wpAny_call (codeAny_mono (F.run _ X.stack _ _ ⟨[aj6 (hp.objs.size+1),u],[]⟩ _ _ _ E0 (hr.make C [u] [])
  (I2.QQ.make C [u] []) (hb _ [aj6 (hp.objs.size+1),u] I2.kIn (by rw[akP];exact hl)) (by rw[akP];exact r2) hsp) λrr s' hq=>?_))
 cases rr with
 |error e=>exact hq.elim
 |ok fl =>
  cases fl with
  |ret u' =>
   obtain⟨v',H',os',bare,un,hok,rv,rfl,d,hd1,hd2,rfl⟩:=hq;cases rv;refine⟨rfl,?_⟩;have HeE:∀ {o:HO},upd (upd (upd H (hp.objs.size+1) (xi (hp.objs.size+1) C none)) d (.xd [(name,v)])) (hp.objs.size+1) o (hp.objs.size+1)=some o:=ae;have Hne:∀b,b≠hp.objs.size+1->upd (upd (upd H (hp.objs.size+1) (xi (hp.objs.size+1) C none)) d (.xd [(name,v)])) (hp.objs.size+1) (xi (hp.objs.size+1) C (some d)) b=upd H d (.xd [(name,v)]) b:=λb hb=>by
    rw[aw hb]
    by_cases z:b=d
    ·rw[z,ae,ae]
    ·rw[aw z,aw z,aw hb]
   have He2:upd H d (.xd [(name,v)]) (hp.objs.size+1)=none:=by rw[aw (akp hd2)];exact ne
   have U1:Un (frs X.stack) [] H (upd H (hp.objs.size+1) (xi (hp.objs.size+1) C none)) hp (nR hp C [u]):=Un.laid (λb o q=>fR q) (akY _) ne
   have U2:=U1.trans un;have lt:∀b o,hp.get? b=some o->b≠hp.objs.size+1:=λb o q=>akj (Nat.lt_succ_of_lt (tm q))
   have U3:Un (frs X.stack) [] H (upd H d (.xd [(name,v)])) hp s'.heap:=by
    refine⟨U2.keep,U2.slot,λb o q n hx=>?_,U2.there,λb xs q=>?_,λb o u q=>?_,λb p q=>?_⟩
    ·have z:=U2.free b o q n hx
     rwa [Hne b (lt b o q)]at z
    ·have z:=U2.xy b xs q
     rwa [Hne b (λe=>by rw[e,ne]at q;cases q)]at z
    ·have z:=U2.vI b o u q
     rwa [Hne b (λe=>by rw[e,ne]at q;cases q)]at z
    ·obtain⟨m,z⟩:=U2.xA b p q;rw[Hne b (λe=>by rw[e,ne]at q;cases q)]at z
     exact⟨m,z⟩
   have K3:HOk X.prog X.w (upd H d (.xd [(name,v)])) s'.heap:=λa o q=>by
    have ha:a≠hp.objs.size+1:=λe=>by rw[e,He2]at q;cases q
    refine(hok a o (by rw[Hne a ha];exact q)).nC (λb u _ z=>z) (λb z=>?_) (λb xs z=>?_)
    ·rwa [Hne b (λe=>by rw[e,HeE]at z;cases z)]at z
    ·rwa [Hne b (λe=>by rw[e,HeE]at z;cases z)]at z
   obtain⟨a0,ea⟩:=Ob (P:=X.prog) (w:=X.w) (hok _ _ HeE);have I3:Inv X pins σ (upd H d (.xd [(name,v)])) s':=I.Nt (ch:=[]) os' U3 K3 bare λb z=>absurd z (by simp)
   exact h _ d (.ref a0) s' hd1 I3 (I.D4 (akY _) He2) ea
  |next=>exact akr hq
  |brk=>exact akr hq
  |cont=>exact akr hq
theorem qD (xk:Em X.K C f name)(F:a7 X.prog X.w X.K X.mg X.base CX0 k f fd ps (Mj C name))(hr:Room (k+1) X.A)(hb:Binds X.K fd ps [])(hc:X.calm=true)(hg:Gl X x)(hm:X.mg x=some (.ref C))(ha:PA X.nox [e₀] ta)
  (hdb:(x == ("__debug__":Str))=false:=by decide) (he:aj0 [e₀] X.env=[(false,eval e₀ X.env)]:=by rfl) :
  PSX X (.Raise (some (.Call (.Name x np) [e₀] [] gz)) none pos) (λ_ E σ H=>ta σ H λvs H1=>∃v,vs=[v]/\(∃z,Js v z/\z.length<=10000)/\∀d,H1 d=none->E σ (.ref C) (some d) (upd H1 d (.xd [(name,v)]))):=by
 intro pins s σ H D E I h;obtain⟨nm,q,N,bs,bm,hdct,sn,sub,ab,col,dd,k0,k1,k2,k3,k5,l,T,hd,hi⟩:=xk.ex;have go:wpAny (model X.prog X.w) X.A (eval (.Call (.Name x np) [e₀] [] gz) X.env) (λv s₁=>∃(e:Addr) (xd:Option Addr) (a0:Value) (sl:Array (Option Value)),v=.ref e/\s₁.heap.get? C=some (akB nm q C N bs bm hdct sn sub ab col dd k0 k1 k2 k3 k5 "ValueError.__new__") /\
   s₁.heap.get? e=some ⟨.ref C,xd,.fields #[a0,.none,.none,.none,.bool false,.none],sl⟩/\XPS X pins E (.ref e) s₁) (XPS X pins E) s:=by
  refine wpAny_Call_Name_kw (kh I hg hm ?_ hdb);unfold callWith;rw[he];refine fu (wpAny_holding (Calls.evalArgs_plain ?_));have ha':=ha gz pins s σ H _ (I.pe _) h;rw[show X.nox.env=X.env from rfl,he]at ha'
  refine aki ha' (λus s₁ ⟨vs,H1,I1,r,v,hvs,hv,q1⟩=>fu (akV ?_)) λ_ _ z=>akr z
  subst hvs;obtain⟨u,rfl,rv⟩:=Vals.one r;have I1':=I1.eT;have kC:=I1'.kIn _ _ l;have pl:(backTo gz [(false,eval e₀ X.env)]).any (·.1)=false:=rfl
  have fin:wpAny (model X.prog X.w) X.A (call (.ref C) ([]++[u])) (λr s'=>∃(e:Addr) (xd:Option Addr) (a0:Value) (sl:Array (Option Value)),r=.ref e/\s'.heap.get? C=some (akB nm q C N bs bm hdct sn sub ab col dd k0 k1 k2 k3 k5 "ValueError.__new__") /\
   s'.heap.get? e=some ⟨.ref C,xd,.fields #[a0,.none,.none,.none,.bool false,.none],sl⟩/\XPS X pins E (.ref e) s') (XPS X pins E) s₁:=by
   refine Ml xk F hr hb I1' rv hv λe d a0 s' hd1 I2 fp ke=>?_
   exact⟨e,some d,a0,#[],rfl,I2.kIn _ _ l,ke,σ,e,.ref C,some d,none,_,rfl,I2,⟨fp,_,_,ke,(by show 1 < 6;decide),rfl⟩,.inl rfl,q1 d hd1⟩
  obtain⟨hp,g',d',tk,os'⟩:=s₁;simp only[pl];refine fu (wpAny_keeperOf_exc kC ?_);exact fu (aki fin (λv s2 z=>fu (wpAny_holding (wpAny_point (ajY z)))) λ_ _ z=>z)
 rw[arm_exec_Raise];have hbx:bm.contains (.type "BaseException")=true:=(T.tail I.kIn).hasType (b:=true) (by trivial)
 first
  |exact fu (akV (uc (C:=C) (nm:=nm) (q:=q) (N:=N) (bs:=bs) (bm:=bm) (hdct:=hdct) (sn:=sn) (sub:=sub) (ab:=ab) (col:=col) (dd:=dd) (k0:=k0) (k1:=k1) (k2:=k2) (k3:=k3) (k5:=k5) hbx (I.ok.hd hc) (fu (aki go (λv s₃ h₃=>fu (akV (ajY h₃))) λ_ _ z=>z))))
  | (simp only[evalOpt,Option.map];exact fu (akV (uc (C:=C) (nm:=nm) (q:=q) (N:=N) (bs:=bs) (bm:=bm) (hdct:=hdct) (sn:=sn) (sub:=sub) (ab:=ab) (col:=col) (dd:=dd) (k0:=k0) (k1:=k1) (k2:=k2) (k3:=k3) (k5:=k5) hbx (I.ok.hd hc) (fu (aki go (λv s₃ h₃=>fu (akV (ajY h₃))) λ_ _ z=>z)))))
end
section
variable{X:Cx}{pins:List (Addr×Obj)}{σ:St}{H:Hp}{s:Shared}{C D f:Addr}{name x:Str}{np apos gz pos pos':Pos}{o e value:Expr}{ta tv:TE}{t:TA}
theorem AO {pl:Sem Bool}(ik:Tn X.K D)(xk:Em X.K C f name)(hg:Gl X x)(hm:X.mg x=some (.ref D))(ha:PA X [o,e] t)(hdb:(x == ("__debug__":Str))=false:=by decide)
  (hst:aj0 [o,e] X.env=(false,eval o X.env)::aj0 [e] X.env:=by rfl) (hpl:(backTo pos (aj0 [e] X.env)).any (·.1)=false:=by rfl)
  (ht:eval (.Call (.Attribute (.Name x np) "__init__" apos) [o,e] [] pos) X.env=(do
   let ov <-eval (.Name x np) X.env
   standAt apos.atName
   let (f,first) <-holding [ov] (getMethod ov "__init__" pl)
   callWith pos f first (backTo pos (aj0 [o,e] X.env)) (backToKw pos (keywordEach [] X.env))):=by rfl) :
  PE X (.Call (.Attribute (.Name x np) "__init__" apos) [o,e] [] pos) (λσ H Q=>t σ H λvs H1=>∃ea v,vs=[.ref ea,v]/\H1 ea=some (xi ea C none)/\Q .non H1):=by
 intro pins s σ H Q I h;refine akU (pl:=pl) (kh I hg hm ?_ hdb) ht;refine PySem.W.method_cls I.kIn ik.sp (PySem.W.cls_value I.kIn ik.rd ik.fc (by trivial) ?_)
 show wpAny _ _ (callWith pos (.builtin "ValueError.__init__") [] (backTo pos (aj0 [o,e] X.env)) []) _ _ _;exact PyProof.Rows.callWith_builtin1 (thn (ha pos pins _ σ H _ (I.tok _) h) λus s1 ⟨vs,H1,I1,r1,ea,v,hv,hx,q⟩=>Jt (xk:=xk) pins s1 σ H1 vs us Q I1 r1 ⟨ea,v,hv,hx,q⟩) hst hpl
theorem En (xk:Em X.K C f name)(ha:PE X o ta)(hv:PE X value tv)(hs:swapsWith value (some (.Attribute o name pos')) pos.line X.env=pure false:=by rfl):PS X (.Assign [.Attribute o name pos'] value pos)
  (λD σ H=>tv σ H λy H1=>ta σ H1 λx H2=>∃ea,x=.ref ea/\H2 ea=some (xi ea C none)/\∀d,H2 d=none->D.nx σ (upd (upd H2 d (.xd [(name,y)])) ea (xi ea C (some d)))):=by
 intro pins s σ H D I h;refine plainObj_wpAny_Assign_Attribute (thn (hv pins s σ H _ I h) λu s1 ⟨y,H1,I1,ry,q⟩=>thn (ha pins s1 σ H1 _ I1 q) λov s2 ⟨x,H2,I2,rx,ea,ex,hx,q2⟩=>?_) hs
 subst ex;obtain rfl:ov=aj6 ea:=rx;obtain⟨a0,e0⟩:=Ob (P:=X.prog) (w:=X.w) (I2.hok _ _ hx);have fr:H2 s2.heap.objs.size=none:=I2.hok.fresh (kq _);refine Oc I2.kIn xk e0 λh' tk hx' ns kk=>⟨σ,_,?_,q2 _ fr⟩
 have hde:ea≠s2.heap.objs.size:=aI hx fr;have old:∀b,b≠ea->b≠s2.heap.objs.size->upd (upd H2 s2.heap.objs.size (.xd [(name,y)])) ea (xi ea C (some s2.heap.objs.size)) b=H2 b:=λb h1 h2=>by rw[aw h1,aw h2]
 have lt:∀b ob,s2.heap.get? b=some ob->b≠s2.heap.objs.size:=λb ob q=>akj (tm q)
 have nx:∀b,H2 b=none->b≠ea:=λb n z=>by rw[z,hx]at n;cases n
 have ns':∀b {o:HO},H2 b=some o->b≠s2.heap.objs.size:=λb _ n z=>by rw[z,fr]at n;cases n
 refine I2.un (t':=tk) ⟨λb ob q n _ _=>kk b ob (nx b n) q,λb ob q n _ _=>⟨ob.slots,kk b ob (nx b n) q⟩,λb ob q n _=>by rw[old b (nx b n) (lt b ob q)];exact n,λb ob q _=>?_,λb xs q=>?_,λb ob u q=>?_,λb ps q=>?_⟩ λa ob q=>?_
 ·by_cases z:b=ea
  ·exact⟨_,by rw[z];exact hx'⟩
  ·exact⟨ob,kk b ob z q⟩
 ·rw[old b (λz=>by rw[z,hx]at q;cases q) (ns' b q)];exact q
 ·rw[old b (λz=>by rw[z,hx]at q;cases q) (ns' b q)];exact q
 ·exact⟨#[],by rw[old b (λz=>by rw[z,hx]at q;cases q) (ns' b q),q];simp⟩
 ·by_cases z:a=ea
  ·subst z;rw[ae]at q;cases q;exact Oa hx'
  ·rw[aw z]at q
   by_cases z2:a=s2.heap.objs.size
   ·rw[z2,ae]at q;cases q;refine⟨_,by rw[z2];exact ns,λg=>?_⟩
    rw[List.lookup_cons]
    by_cases hg:g=name
    ·rw[if_pos hg,show (g == name)=true from beq_iff_eq.mpr hg];exact ry
    ·rw[if_neg hg,show (g == name)=false from beq_eq_false_iff_ne.mpr hg];exact ali
   ·rw[aw z2]at q;refine(I2.hok a ob q).nC (λb u hb r=>kk b u ?_ r) (λb r=>?_) (λb xs r=>?_)
    ·rintro rfl;rcases hb with hb | hb
     ·exact z hb.symm
     ·rw[hx]at hb;cases hb
    ·rw[old b (λz=>by rw[z,hx]at r;cases r) (ns' b r)];exact r
    ·rw[old b (λz=>by rw[z,hx]at r;cases r) (ns' b r)];exact r
structure ajV (K:bo)(C:Addr)(name:Str):Prop where
 ga:GaX K C
 na:cb K (.ref C) name=some none
 hd:akv K C=true
end
section
variable{κ:Type}[DecidableEq κ]
def gW (kvs:List (κ×V))(k:κ):Option V:=(kvs.find? λkv=>decide (kv.1=k)).map (·.2)
def putK (kvs:List (κ×V))(k:κ)(v:V):List (κ×V) :=
 if (kvs.any λkv=>decide (kv.1=k))=true then kvs.map (λkv=>if kv.1=k then (kv.1,v) else kv) else kvs++[(k,v)]
def iG (kvs:List (κ×V))(k:κ):List (κ×V):=kvs.filter λkv=>decide (kv.1≠k)
theorem eV {p:κ×V}{r:List (κ×V)}{k:κ}(e:p.1=k):gW (p::r) k=some p.2:=by simp[gW,akz,e]
theorem bV {p:κ×V}{r:List (κ×V)}{k:κ}(e:¬p.1=k):gW (p::r) k=gW r k:=by simp[gW,akz,e]
theorem sE (k:κ):∀kvs:List (κ×V),(kvs.any λkv=>decide (kv.1=k))=(gW kvs k).isSome
 |[]=>rfl
 |p::r=>by
  rw[List.any_cons]
  by_cases e:p.1=k
  ·simp only[eV e,decide_eq_true e,Bool.true_or,Option.isSome_some]
  ·rw[bV e,decide_eq_false e,Bool.false_or];exact sE k r
theorem sF (kvs:List (κ×V))(k:κ)(v:V):(putK kvs k v).length<=kvs.length+1:=by
 unfold putK;split
 ·rw[ba];omega
 ·rw[me,aj3,alu];omega
theorem Oe {kvs:List (κ×V)}{k:κ}(v:V)(h:gW kvs k=none):putK kvs k v=kvs++[(k,v)]:=by
 unfold putK;rw[sE,h];exact if_neg (by decide)
theorem qy.ud {o:Option V}{u:Option Value}(r:qy o u):o.isSome=u.isSome:=by
 cases o with
 |none=>cases u with
  |none=>rfl
  |some _=>exact(show False from r).elim
 |some _=>cases u with
  |none=>exact(show False from r).elim
  |some _=>rfl
theorem qy.getD {o:Option V}{u:Option Value}{d:V}{d':Value}(r:qy o u)(rd:RelV d d'):RelV (o.getD d) (u.getD d'):=by
 cases o with
 |none=>cases u with
  |none=>exact rd
  |some _=>exact(show False from r).elim
 |some _=>cases u with
  |none=>exact(show False from r).elim
  |some _=>exact r
theorem KV.val {kvs:List (κ×V)}{vs:List (κ×Value)}(r:KV kvs vs)(k:κ):qy (gW kvs k) (valueAt vs k):=by
 unfold KV at r
 induction r with
 |nil=>exact ali
 | @cons p q ps qs h t ih =>
  obtain⟨h1,h2⟩:=h
  by_cases e:p.1=k
  ·have e':q.1=k:=h1.symm.trans e;have b:valueAt (q::qs) k=some q.2:=by simp[valueAt,akz,e']
   rw[eV e,b];exact h2
  ·have e':¬q.1=k:=λz=>e (h1.trans z)
   have b:valueAt (q::qs) k=valueAt qs k:=by simp[valueAt,akz,e']
   rw[bV e,b];exact ih
theorem KV.any {kvs:List (κ×V)}{vs:List (κ×Value)}(r:KV kvs vs)(k:κ):(kvs.any λkv=>decide (kv.1=k))=vs.any λkv=>decide (kv.1=k):=by
 unfold KV at r
 induction r with
 |nil=>rfl
 |cons h t ih=>rw[List.any_cons,List.any_cons,ih,h.1]
theorem KV.Vp {kvs:List (κ×V)}{vs:List (κ×Value)}(r:KV kvs vs)(k:κ){y:V}{u:Value}(ry:RelV y u) :
  KV (kvs.map λkv=>if kv.1=k then (kv.1,y) else kv) (vs.map λkv=>if kv.1=k then (kv.1,u) else kv):=by
 unfold KV at r ⊢
 induction r with
 |nil=>exact .nil
 | @cons p q ps qs h t ih =>
  rw[km,km];refine .cons ?_ ih;obtain⟨h1,h2⟩:=h
  by_cases e:p.1=k
  ·rw[if_pos e,if_pos (h1.symm.trans e)];exact⟨h1,ry⟩
  ·rw[if_neg e,if_neg (λz=>e (h1.trans z))];exact⟨h1,h2⟩
theorem KV.put {kvs:List (κ×V)}{vs:List (κ×Value)}(r:KV kvs vs)(k:κ){y:V}{u:Value}(ry:RelV y u):KV (putK kvs k y) (stored vs k u):=by
 unfold putK stored;rw[r.any k]
 by_cases e:(vs.any λkv=>decide (kv.1=k))=true
 ·rw[if_pos e,if_pos e];exact r.Vp k ry
 ·rw[if_neg e,if_neg e];exact Paired.snoc r ⟨rfl,ry⟩
theorem KV.drop {kvs:List (κ×V)}{vs:List (κ×Value)}(r:KV kvs vs)(k:κ):KV (iG kvs k) (without vs k):=by
 unfold KV at r ⊢;unfold iG without
 induction r with
 |nil=>exact .nil
 | @cons p q ps qs h t ih =>
  obtain⟨h1,h2⟩:=h;rw[List.filter_cons,List.filter_cons]
  by_cases e:p.1=k
  ·have a:¬decide (p.1≠k)=true:=by simp[e]
   have b:¬decide (q.1≠k)=true:=by simp[h1.symm.trans e]
   rw[if_neg a,if_neg b];exact ih
  ·have e':¬q.1=k:=λz=>e (h1.trans z)
   have a:decide (p.1≠k)=true:=by simp[e]
   have b:decide (q.1≠k)=true:=by simp[e']
   rw[if_pos a,if_pos b];exact .cons ⟨h1,h2⟩ ih
theorem KV.keys {kvs:List (κ×V)}{vs:List (κ×Value)}(r:KV kvs vs):kvs.map (·.1)=vs.map (·.1):=by
 unfold KV at r
 induction r with
 |nil=>rfl
 |cons h t ih=>rw[km,km,ih,h.1]
theorem KV.length {kvs:List (κ×V)}{vs:List (κ×Value)}(r:KV kvs vs):kvs.length=vs.length:=Paired.length r
theorem FP (kvs:List (κ×V))(k:κ):(iG kvs k).length<=kvs.length:=alj _ _
end
theorem AQ {P:sr}{w:World}{k:Key}{u:Value}(r:RelV (kV k) u):(dj P w).is k u=true:=by
 cases k with
 |inl i=>obtain⟨t,e⟩:=(show ∃t,u=Value.int i t from r);subst e;exact Fq P w i t
 |inr x=>obtain⟨t,e⟩:=(show ∃t,u=Value.str x t from r);subst e;exact Fs P w x t
theorem C7 {P:sr}{w:World}:∀ {ks:List Key} {us:List Value},Vals (ks.map kV) us->ItemsAre (dj P w) ks us
 |[],_,r=>by rw[akD]at r;cases r;exact .nil
 |k::ks,_,r=>by
  rw[km]at r;cases r with
  |cons h t=>exact .cons (AQ h) (C7 t)
abbrev KT (H:Hp):List (List Key×V)->List (List Key×Addr×Value)->Prop:=Paired λp q=>p.1=q.1/\H q.2.1=some (.tup (p.1.map kV))/\RelV p.2 q.2.2
theorem KT.val {H:Hp}{kvs:List (List Key×V)}{xs:List (List Key×Addr×Value)}(r:KT H kvs xs)(k:List Key):qy (gW kvs k) ((atKey xs k).map (·.2)):=by
 induction r with
 |nil=>exact ali
 | @cons p q ps qs h t ih =>
  obtain⟨h1,_,h2⟩:=h
  by_cases e:p.1=k
  ·have e':q.1=k:=h1.symm.trans e;have b:atKey (q::qs) k=some q.2:=by simp[atKey,akz,e']
   rw[eV e,b];exact h2
  ·have e':¬q.1=k:=λz=>e (h1.trans z)
   have b:atKey (q::qs) k=atKey qs k:=by simp[atKey,akz,e']
   rw[bV e,b];exact ih
theorem KT.Vp {H:Hp}{kvs:List (List Key×V)}{xs:List (List Key×Addr×Value)}(r:KT H kvs xs)(k:List Key){y:V}{u:Value}(ry:RelV y u) :
  KT H (kvs.map λkv=>if kv.1=k then (kv.1,y) else kv) (xs.map (putAt k u)):=by
 induction r with
 |nil=>exact .nil
 | @cons p q ps qs h t ih =>
  rw[km,km];refine .cons ?_ ih;obtain⟨h1,h2,h3⟩:=h;unfold putAt
  by_cases e:p.1=k
  ·rw[if_pos e,if_pos (h1.symm.trans e)];exact⟨h1,h2,ry⟩
  ·rw[if_neg e,if_neg (λz=>e (h1.trans z))];exact⟨h1,h2,h3⟩
theorem KT.put {H:Hp}{kvs:List (List Key×V)}{xs:List (List Key×Addr×Value)}(r:KT H kvs xs)(k:List Key){b:Addr}{y:V}{u:Value}(hb:H b=some (.tup (k.map kV)))(ry:RelV y u) :
  KT H (putK kvs k y) (storedH xs k b u):=by
 have e:(kvs.any λkv=>decide (kv.1=k))=(atKey xs k).isSome:=by
  rw[sE,(r.val k).ud,Option.isSome_map]
 unfold putK storedH;rw[e]
 by_cases q:(atKey xs k).isSome=true
 ·rw[if_pos q,if_pos q];exact r.Vp k ry
 ·rw[if_neg q,if_neg q];exact Paired.snoc r ⟨rfl,hb,ry⟩
theorem KT.keeps {H H':Hp}{kvs:List (List Key×V)}{xs:List (List Key×Addr×Value)}(r:KT H kvs xs)(ht:∀b ys,H b=some (.tup ys)->H' b=some (.tup ys)):KT H' kvs xs :=
 Paired.UO r λ_ _ z=>⟨z.1,ht _ _ z.2.1,z.2.2⟩
section
variable{P:sr}{w:World}{H:Hp}{h:Heap}{a:Addr}
theorem To {u:HO}(ok:HOk P w H h)(e:Rd H a u):fO P w H h a u:=e.ok ok
theorem C8 {kvs:List (Key×V)}(ok:HOk P w H h)(e:Rd H a (.dK kvs)):kvs.length<=gr/\(a == alh)=false/\∃vs,KV kvs vs/\h.DictOf (dj P w) a vs :=
 show fO P w H h a (.dK kvs) from To ok e
theorem yS {kvs:List (Key×V)}(ok:HOk P w H h)(e:H a=some (.dK kvs)):kvs.length<=gr/\(a == alh)=false/\∃vs,KV kvs vs/\h.DictOf (dj P w) a vs:=C8 ok (.inl e)
theorem Eo {ks:List Key}(ok:HOk P w H h)(e:H a=some (.tup (ks.map kV))):(tupleKind (dj P w)).is h ks a:=by
 obtain⟨_,its,r,o,h1,h2,n,h3⟩:=(show fO P w H h a (.tup (ks.map kV)) from ok a _ e)
 exact⟨o,its.toArray,n,h1,h2,h3,by simpa using C7 r⟩
theorem FQ {kvs:List (List Key×V)}(ok:HOk P w H h)(e:Rd H a (.dT kvs)):kvs.length<=gr/\(a == alh)=false /\
  ∃xs,KT H kvs xs/\h.DictOfH (tupleKind (dj P w)) a xs:=by
 obtain⟨z,y,xs,r,o,es,ep,h1,h2,h3,h4,h5⟩:=(show fO P w H h a (.dT kvs) from To ok e)
 refine⟨z,y,xs,r,o,es,ep,h1,h2,h3,h4,λx hx=>?_,h5⟩
 have all:∀ {l:List (List Key×V)} {m:List (List Key×Addr×Value)},KT H l m->∀x∈m,(tupleKind (dj P w)).is h x.1 x.2.1:=by
  intro l m q
  induction q with
  |nil=>intro x hx;exact nomatch hx
  | @cons p q ps qs hq t ih =>
   intro x hx;rcases List.mem_cons.mp hx with e | hx
   ·subst e;exact Eo ok (by rw[<-hq.1];exact hq.2.1)
   ·exact ih x hx
 exact all r x hx
theorem Z6 {kvs:List (List Key×V)}(ok:HOk P w H h)(e:H a=some (.dT kvs)):kvs.length<=gr/\(a == alh)=false /\
  ∃xs,KT H kvs xs/\h.DictOfH (tupleKind (dj P w)) a xs:=FQ ok (.inl e)
end
def uP (H:Hp)(a:Addr)(y:V)(r:Option V):Prop :=
 (∃kvs k,Rd H a (.dK kvs)/\y=kV k/\r=gW kvs k)\/∃kvs k b,Rd H a (.dT kvs)/\y=.ref b/\H b=some (.tup (k.map kV))/\r=gW kvs k
def mx (H:Hp)(a:Addr)(y v:V)(H':Hp):Prop :=
 (∃kvs k,H a=some (.dK kvs)/\y=kV k/\kvs.length < gr/\H'=upd H a (.dK (putK kvs k v))) \/
 ∃kvs k b,H a=some (.dT kvs)/\y=.ref b/\H b=some (.tup (k.map kV))/\kvs.length < gr/\H'=upd H a (.dT (putK kvs k v))
theorem uP.k {H:Hp}{a:Addr}{kvs:List (Key×V)}{k:Key}(e:H a=some (.dK kvs)):uP H a (kV k) (gW kvs k):=.inl ⟨kvs,k,.inl e,rfl,rfl⟩
theorem uP.t {H:Hp}{a b:Addr}{kvs:List (List Key×V)}{k:List Key}(e:H a=some (.dT kvs))(eb:H b=some (.tup (k.map kV))):uP H a (.ref b) (gW kvs k):=.inr ⟨kvs,k,b,.inl e,rfl,eb,rfl⟩
theorem mx.k {H:Hp}{a:Addr}{kvs:List (Key×V)}{k:Key}{v:V}(e:H a=some (.dK kvs))(hl:kvs.length < gr):mx H a (kV k) v (upd H a (.dK (putK kvs k v))):=.inl ⟨kvs,k,e,rfl,hl,rfl⟩
theorem mx.t {H:Hp}{a b:Addr}{kvs:List (List Key×V)}{k:List Key}{v:V}(e:H a=some (.dT kvs))(eb:H b=some (.tup (k.map kV)))(hl:kvs.length < gr) :
  mx H a (.ref b) v (upd H a (.dT (putK kvs k v))):=.inr ⟨kvs,k,b,e,rfl,eb,hl,rfl⟩
section
variable{X:Cx}{pins:List (Addr×Obj)}{σ:St}{H:Hp}{s:Shared}{a:Addr}{y v:V}{u r:Value}{o:Option V}{A:Around}{E:Value->Shared->Prop}
theorem Inv.big (I:Inv X pins σ H s):alh < s.heap.objs.size:=by
 have h:gn < s.heap.objs.size:=(I.mod.glob.keeps I.bk).lt;exact Nat.lt_trans (by decide) h
theorem Mm {Q:Value->Shared->Prop}(hu:A.units+1 < cLine)(I:Inv X pins σ H s)(g:uP H a y (some v))(ry:RelV y u)(h:∀w' s',Inv X pins σ H s'->RelV v w'->Q w' s') :
  wpAny (model X.prog X.w) A (getItem (.ref a) u) Q E s:=by
 rcases g with ⟨kvs,k,e,ey,l⟩ | ⟨kvs,k,b,e,ey,eb,l⟩
 ·subst ey;obtain⟨z,hd,vs,rel,dd⟩:=C8 I.hok e;obtain⟨w',hw,rw'⟩:=qy.some_of (v:=v) (o:=valueAt vs k) (by rw[l];exact rel.val k)
  exact wpAny_getItem_of (AQ ry) dd.mapOf hw (h w' _ (I.tok _) rw')
 ·subst ey;cases (show u=aj6 b from ry)
  obtain⟨z,hd,xs,rel,dd⟩:=FQ I.hok e;obtain⟨w',hw,rw'⟩:=qy.some_of (v:=v) (o:=(atKey xs k).map (·.2)) (by rw[l];exact rel.val k)
  obtain⟨p,hp,hp2⟩:=Option.map_eq_some_iff.mp hw;refine wpAny_getItem_heap (tupleKind_room_in1 hu) (Eo I.hok eb) dd hp ?_;rw[hp2];exact h w' _ (I.tok _) rw'
theorem Q7 {Q:Value->Shared->Prop}(hu:A.units+1 < cLine)(I:Inv X pins σ H s)(g:uP H a y o)(ry:RelV y u)(h:∀s',Inv X pins σ H s'->Q (.bool (!o.isSome)) s') :
  wpAny (model X.prog X.w) A (akW .NotIn u (.ref a)) Q E s:=by
 rcases g with ⟨kvs,k,e,ey,l⟩ | ⟨kvs,k,b,e,ey,eb,l⟩
 ·subst ey;obtain⟨z,hd,vs,rel,dd⟩:=C8 I.hok e;refine wpAny_notIn_of (AQ ry) hd dd.mapOf ?_;rw[<-(rel.val k).ud,<-l];exact h _ (I.tok _)
 ·subst ey;cases (show u=aj6 b from ry)
  obtain⟨z,hd,xs,rel,dd⟩:=FQ I.hok e;refine wpAny_notIn_heap (tupleKind_room_in1 hu) (Eo I.hok eb) hd dd ?_;have q:=(rel.val k).ud;rw[Option.isSome_map]at q;rw[<-q,<-l];exact h _ (I.tok _)
theorem wb {h':Heap}{t':Nat}{ob:HO}(I:Inv X pins σ H s)(mu:Mut (H a))(hs:Heap.SameBut a s.heap h')(he:∃q,h'.get? a=some q)(new:fO X.prog X.w (upd H a ob) h' a ob) :
  Inv X pins σ (upd H a ob) { s with heap:=h',toks:=t' } :=
 I.write (x:=a) (e:=a) mu (.inl rfl) (λb q hb z=>(hs.2 b hb).trans z) he new
theorem Ep {P:sr}{w:World}{H':Hp}{h':Heap}{kvs:List (Key×V)}{vs:List (Key×Value)}(z:kvs.length<=gr)(hd:(a == alh)=false)(rel:KV kvs vs)(dd:h'.DictOf (dj P w) a vs) :
  fO P w H' h' a (.dK kvs):=⟨z,hd,vs,rel,dd⟩
theorem Mo {H':Hp}{Q:Unit->Shared->Prop}(hu:A.units+1 < cLine)(I:Inv X pins σ H s)(g:mx H a y v H')(ry:RelV y u)(rv:RelV v r)(h:∀s',Inv X pins σ H' s'->Q () s') :
  wpAny (model X.prog X.w) A (setItem (.ref a) u r) Q E s:=by
 rcases g with ⟨kvs,k,e,ey,l,eH⟩ | ⟨kvs,k,b,e,ey,eb,l,eH⟩
 ·subst ey eH;obtain⟨z,hd,vs,rel,dd⟩:=yS I.hok e;have hz:vs.length<=gr:=by rw[<-rel.length];exact z
  have hl:(putK kvs k v).length<=gr:=by have:=sF kvs k v;omega
  refine wpAny_setItem_pairs (hsz:=hz) (AQ ry) dd λh' dd' hs=>h _ ?_
  have he:∃q,h'.get? a=some q:=let ⟨q,_,_,hq,_⟩:=dd';⟨q,hq⟩
  exact wb I (by rw[e];exact ali) hs he (Ep hl hd (rel.put k rv) dd')
 ·subst ey eH;cases (show u=aj6 b from ry)
  obtain⟨z,hd,xs,rel,dd⟩:=Z6 I.hok e;have hz:xs.length<=gr:=by rw[<-Paired.length rel];exact z
  have hl:(putK kvs k v).length<=gr:=by have:=sF kvs k v;omega
  refine wpAny_setItem_heap (hsz:=hz) (tupleKind_room_in1 hu) (Eo I.hok eb) dd λh' dd' hs=>h _ ?_
  obtain⟨q,es,ep,hq,h2,h3,h4,_,h5⟩:=dd';refine wb I (by rw[e];exact ali) hs ⟨q,hq⟩ ⟨hl,hd,_,(rel.put k eb rv).keeps λc ys ec=>?_,q,es,ep,hq,h2,h3,h4,h5⟩
  rw[aw (Zr ec e (λz=>nomatch z))]
  exact ec
end
section
variable{X:Cx}{pins:List (Addr×Obj)}{σ:St}{H:Hp}{s:Shared}{a:Addr}{kvs:List (Key×V)}{k:Key}{u:Value}{A:Around}{E:Value->Shared->Prop}
theorem Zq {Q:Unit->Shared->Prop}(I:Inv X pins σ H s)(e:H a=some (.dK kvs))(ry:RelV (kV k) u)(l:(gW kvs k).isSome=true)(h:∀s',Inv X pins σ (upd H a (.dK (iG kvs k))) s'->Q () s') :
  wpAny (model X.prog X.w) A (delItem (.ref a) u) Q E s:=by
 obtain⟨z,hd,vs,rel,dd⟩:=yS I.hok e;refine wpAny_delItem_slot dd.typeIs (by decide) PySem.F.slot_dict_delitem
  (call_meetsIn PySem.F.slot_dict_delitem dd.typeIs PySem.F.entry_dict_delitem (PySem.F.args_dict_delitem_2 _ _) (meets_dict_delitem_pairs (dj X.prog X.w) a (AQ ry)) ⟨vs,dd,by rw[<-rel.length];exact z,by rw[<-(rel.val k).ud];exact l,λh' dd' hs=>h _ ?_⟩)
 have he:∃q,h'.get? a=some q:=let ⟨q,_,_,hq,_⟩:=dd';⟨q,hq⟩
 exact wb I (by rw[e];exact ali) hs he (Ep (adm (FP kvs k) z) hd (rel.drop k) dd')
theorem Z7 {v:V}{more:List Value}{Q:Value->Shared->Prop}(I:Inv X pins σ H s)(e:H a=some (.dK kvs))(ry:RelV (kV k) u)(l:gW kvs k=some v)(hm:more=[]\/∃x,more=[x])
  (h:∀w' s',Inv X pins σ (upd H a (.dK (iG kvs k))) s'->RelV v w'->Q w' s'):wpAny (model X.prog X.w) A (call (.builtin "dict.pop") (.ref a::u::more)) Q E s:=by
 obtain⟨z,hd,vs,rel,dd⟩:=yS I.hok e;obtain⟨w',hw,rw'⟩:=qy.some_of (v:=v) (o:=valueAt vs k) (by rw[<-l];exact rel.val k)
 have hp:(keyPart u).isSome=true:=by
  cases k with
  |inl i=>obtain⟨t,q⟩:=(show ∃t,u=Value.int i t from ry);subst q;rfl
  |inr x=>obtain⟨t,q⟩:=(show ∃t,u=Value.str x t from ry);subst q;rfl
 have ha:argsOk "dict.pop" ⟨.ref a::u::more,[]⟩:=by
  rcases hm with q | ⟨x,q⟩
  ·subst q;exact PySem.F.args_dict_pop_2 _ _
  ·subst q;exact PySem.F.args_dict_pop_3 _ _ _
 refine call_meetsIn PySem.F.slot_dict_pop dd.typeIs PySem.F.entry_dict_pop ha (meets_dict_pop_there (dj X.prog X.w) a (AQ ry) more hm hp)
  ⟨vs,w',dd,by rw[<-rel.length];exact z,hw,λh' dd' hs=>h w' _ ?_ rw'⟩
 have he:∃q,h'.get? a=some q:=let ⟨q,_,_,hq,_⟩:=dd';⟨q,hq⟩
 exact wb I (by rw[e];exact ali) hs he (Ep (adm (FP kvs k) z) hd (rel.drop k) dd')
theorem Z8 {Q:Value->Shared->Prop}(I:Inv X pins σ H s)(e:Rd H a (.dK kvs))(h:∀t s',Inv X pins σ H s'->Q (.int kvs.length t) s'):wpAny (model X.prog X.w) A (call (.builtin "len") [.ref a]) Q E s:=by
 obtain⟨z,hd,vs,rel,dd⟩:=C8 I.hok e;refine call_len_dict hd dd (by rw[<-rel.length];rw[sizeLine_eq]at z;omega) ?_
 rw[<-rel.length];exact h _ _ (I.tok _)
end
def Z9 (i:Expr):Prop:=∀ov iv,subscripted i false ov iv=operate [ov,iv] (getItem ov iv)
theorem Q8 {prog:sr}{w:World}{A:Around}{E:Value->Shared->Prop}{s:Shared}{env:Env}{value slice:Expr}{pos:Pos}{T id:String}{Q:Value->Shared->Prop}
  (hl:typeLookup (.type T) "__getitem__"=pure (some (.builtin id))) (hs:Z9 slice)
  (h:wpAny (model prog w) A (eval value env) (λo s₁=>wpAny (model prog w) A (eval slice env) (λi s₂=>s₂.TypeIs o T/\wpAny (model prog w) A (getItem o i) Q E s₂) E s₁) E s) :
  wpAny (model prog w) A (eval (.Subscript value slice pos) env) Q E s:=by
 refine Subscript_ (aki h (λo s₁ h₁=>aki h₁ (λi s₂ h₂=>?_) λ_ _ x=>x) λ_ _ x=>x)
 obtain⟨hT,h₂⟩:=h₂;unfold subscriptTail;refine fu ?_;rw[getitemInPython_of_ne hT.not_modules];refine fu (wpAny_specialOf hT hl ?_);have fin:wpAny (model prog w) A (subscripted slice false o i) (λr s₃=>wpAny (model prog w) A (letTemporaryGo value o r >>= λ_=>pure r) Q E s₃) E s₂:=by
  rw[hs o i];exact wpAny_operating (aki h₂ (λr s₃ h₃=>fu (wpAny_letTemporaryGo (ajY h₃))) λ_ _ x=>x)
 first
  |exact ajY (fu fin)
  |exact fu (ajY (fu fin))
  |exact fu fin
theorem FR {X:Cx}{pins:List (Addr×Obj)}{σ:St}{H:Hp}{s:Shared}{a:Addr}{y:V}{o:Option V}(I:Inv X pins σ H s)(g:uP H a y o):s.TypeIs (.ref a) "dict":=by
 rcases g with ⟨kvs,k,e,_,_⟩ | ⟨kvs,k,b,e,_,_,_⟩
 ·obtain⟨_,_,vs,_,dd⟩:=C8 I.hok e;exact dd.typeIs
 ·obtain⟨_,_,xs,_,dd⟩:=FQ I.hok e;exact dd.typeIs
def aaa (td ty:TE):TE:=λσ H Q=>td σ H λx H1=>ty σ H1 λy H2=>∃a v,x=.ref a/\uP H2 a y (some v)/\Q v H2
def Q9 (ty td:TE):TE:=λσ H Q=>ty σ H λy H1=>td σ H1 λx H2=>∃a o,x=.ref a/\uP H2 a y o/\Q (.bl (!o.isSome)) H2
def aab (td ty tv:TE):TS:=λD σ H=>tv σ H λv H1=>td σ H1 λx H2=>ty σ H2 λy H3=>∃a H4,x=.ref a/\mx H3 a y v H4/\D.nx σ H4
section
variable{X:Cx}{o i e value:Expr}{pos pos' ahv:Pos}{td ty tv:TE}
theorem a8 (hu:X.A.units+1 < cLine)(ho:PE X o td)(hi:PE X i ty)(hs:Z9 i):PE X (.Subscript o i pos) (aaa td ty):=by
 intro pins s σ H Q I h;refine Q8 PySem.F.slot_dict_getitem.lookup hs (thn (ho pins s σ H _ I h) λu s1 ⟨x,H1,I1,rx,q1⟩=>thn (hi pins s1 σ H1 _ I1 q1) λiv s2 ⟨y,H2,I2,ry,a,v,ex,g,q2⟩=>?_)
 subst ex;obtain rfl:u=aj6 a:=rx;exact⟨FR I2 g,Mm hu I2 g ry λw' s3 I3 rw'=>⟨v,H2,I3,rw',q2⟩⟩
theorem ue (hu:X.A.units+1 < cLine)(hi:PE X i ty)(ho:PE X o td):PC X .NotIn i o (Q9 ty td):=by
 intro pins s σ H Q I h;refine thn (hi pins s σ H _ I h) λiv s1 ⟨y,H1,I1,ry,q1⟩=>thn (ho pins s1 σ H1 _ I1 q1) λu s2 ⟨x,H2,I2,rx,a,ov,ex,g,q2⟩=>?_
 subst ex;obtain rfl:u=aj6 a:=rx;exact Q7 hu I2 g ry λs3 I3=>⟨.bl (!ov.isSome),H2,I3,rfl,q2⟩
theorem fJ (hu:X.A.units+1 < cLine)(ho:PE X o td)(hi:PE X i ty)(hv:PE X value tv)(hs:swapsWith value (some (.Subscript o i pos')) pos.line X.env=pure false) :
  PS X (.Assign [.Subscript o i pos'] value pos) (aab td ty tv):=by
 intro pins s σ H D I h;refine wpAny_Assign_Subscript (thn (hv pins s σ H _ I h) λr s1 ⟨v,H1,I1,rv,q1⟩=>thn (ho pins s1 σ H1 _ I1 q1) λu s2 ⟨x,H2,I2,rx,q2⟩=>thn (hi pins s2 σ H2 _ I2 q2) λiv s3 ⟨y,H3,I3,ry,a,H4,ex,g,q3⟩=>?_) hs
 subst ex;obtain rfl:u=aj6 a:=rx;exact Mo hu I3 g ry rv λs4 I4=>⟨σ,H4,I4,q3⟩
end
theorem FT {P:sr}{w:World}{H:Hp}(h:Heap)(hb:alh < h.objs.size):fO P w H (h.push { cls:=.type "dict",data:=.dict #[] }) h.objs.size (.dK []) :=
 ⟨akX _,beq_eq_false_iff_ne.mpr (akp (akj hb)),[],.nil,Heap.DictOf.new h⟩
def Vq:TE:=λ_ H Q=>∀p,H p=none->Q (.ref p) (upd H p (.dK []))
section
variable{X:Cx}{pos:Pos}
theorem kO:PE X (.Dict [] [] pos) Vq:=λpins s σ H Q I h =>
 wpAny_Dict_empty ⟨.ref s.heap.objs.size,_,I.laid (a:=s.heap.objs.size) (o:=.dK []) (t':=s.toks) (λ_ _ q=>kg _ q) (kq _) (FT s.heap I.big),rfl,h _ (I.hok.fresh (kq _))⟩
end
def Ju:List (TE×TE)->St->Hp->(List (V×V)->Hp->Prop)->Prop
 |[],_,H,Q=>Q [] H
 | (tk,tv)::r,σ,H,Q=>tk σ H λx H1=>tv σ H1 λy H2=>Ju r σ H2 λps H3=>Q ((x,y)::ps) H3
abbrev VV:List (V×V)->List (Value×Value)->Prop:=Paired λp q=>RelV p.1 q.1/\RelV p.2 q.2
def PPs (X:Cx)(pos:Pos)(keys:List (Option Expr))(values:List Expr)(trs:List (TE×TE)):Prop :=
 ∀(pins:List (Addr×Obj)) (s:Shared) (σ:St) (H:Hp) (Q:List (V×V)->Hp->Prop),Inv X pins σ H s->Ju trs σ H Q ->
  wpAny (model X.prog X.w) X.A (evalPairs (pairTrees keys values X.env pos)) (λvs s'=>∃ps H',Inv X pins σ H' s'/\VV ps vs/\Q ps H') X.xe s
theorem Ra {X:Cx}{pos:Pos}:PPs X pos [] [] []:=λpins s σ H Q I h=>pairTrees_nil_walk ⟨[],H,I,.nil,h⟩
theorem pq {X:Cx}{pos:Pos}{k v:Expr}{ks:List (Option Expr)}{vs:List Expr}{tk tv:TE}{trs:List (TE×TE)}(hk:PE X k tk)(hv:PE X v tv)(hr:PPs X pos ks vs trs) :
  PPs X pos (some k::ks) (v::vs) ((tk,tv)::trs):=λpins s σ H Q I h =>
 pairTrees_cons_walk (thn (hk pins s σ H _ I h) λu s1 ⟨x,H1,I1,rx,q1⟩=>thn (hv pins s1 σ H1 _ I1 q1) λw2 s2 ⟨y,H2,I2,ry,q2⟩ =>
  thn (hr pins s2 σ H2 _ I2 q2) λws s3 ⟨ps,H3,I3,rel,q3⟩=>⟨(x,y)::ps,H3,I3,.cons ⟨rx,ry⟩ rel,q3⟩)
def xM (kvs more:List (Key×V)):List (Key×V):=more.foldl (λacc kv=>putK acc kv.1 kv.2) kvs
theorem KV.merge:∀ {more:List (Key×V)} {rs:List (Key×Value)} {kvs:List (Key×V)} {vs:List (Key×Value)},KV more rs->KV kvs vs->KV (xM kvs more) (merged vs rs):=by
 intro more rs kvs vs r;unfold KV at r
 induction r generalizing kvs vs with
 |nil=>intro q;exact q
 | @cons p q ps qs h t ih =>
  intro r0;have e:KV (putK kvs p.1 p.2) (stored vs q.1 q.2):=by
   have:=r0.put p.1 h.2;rw[<-h.1];exact this
  exact ih e
theorem uD:∀(more kvs:List (Key×V)),(xM kvs more).length<=kvs.length+more.length
 |[],kvs=>by show kvs.length<=kvs.length+0;omega
 |p::r,kvs=>by
  have h1:=uD r (putK kvs p.1 p.2);have h2:=sF kvs p.1 p.2;show (xM (putK kvs p.1 p.2) r).length<=_;rw[aj3];omega
theorem AR {P:sr}{w:World}:∀ {kvs:List (Key×V)} {ws:List (Value×Value)},VV (kvs.map λkv=>(kV kv.1,kv.2)) ws->∃rs,Carries (dj P w) ws rs/\KV kvs rs
 |[],_,r=>by rw[akD]at r;cases r;exact⟨[],ali,.nil⟩
 |p::kvs,_,r=>by
  rw[km]at r;cases r with
  | @cons a b as bs h t =>
   obtain⟨rs,c,q⟩:=AR (P:=P) (w:=w) t;obtain⟨b1,b2⟩:=b;exact⟨(p.1,b2)::rs,⟨AQ h.1,rfl,c⟩,.cons ⟨rfl,h.2⟩ q⟩
def aac (trs:List (TE×TE)):TE:=λσ H Q=>∀p,H p=none->Ju trs σ (upd H p (.dK [])) λps H2=>H2 p=some (.dK [])/\∃kvs:List (Key×V),ps=kvs.map (λkv=>(kV kv.1,kv.2))/\kvs.length<=15/\Q (.ref p) (upd H2 p (.dK (xM [] kvs)))
theorem Rb {X:Cx}{pos:Pos}{keys:List (Option Expr)}{values:List Expr}{trs:List (TE×TE)}(h:PPs X pos keys values trs)(Vc:keys.all (·.isSome)=true)(hl:keys.length=values.length)(h0:keys≠[])
  (h15:keys.length<=15):PE X (.Dict keys values pos) (aac trs):=by
 intro pins s σ H Q I q;have hn:=I.hok.fresh (kq s.heap.objs.size);have I1:=I.laid (a:=s.heap.objs.size) (o:=.dK []) (h':=s.heap.push { cls:=.type "dict",data:=.dict #[] }) (t':=s.toks) (λ_ _ q=>kg _ q) (kq _) (FT s.heap I.big)
 refine wpAny_Dict_walk (knd:=dj X.prog X.w) Vc hl h0 h15 (thn (h pins _ σ _ _ I1 (q _ hn)) λws s2 ⟨ps,H2,I2,rel,e,kvs,ep,lk,q2⟩=>?_)
 subst ep;obtain⟨rs,c,rk⟩:=AR (P:=X.prog) (w:=X.w) rel;obtain⟨z,hd,vs0,r0,dd⟩:=yS I2.hok e;cases r0;refine⟨rs,c,dd,λh' dd' hs=>⟨.ref s.heap.objs.size,_,?_,rfl,q2⟩⟩
 have hz:(xM [] kvs).length<=gr:=by
  have h1:=uD kvs [];rw[alu]at h1;rw[sizeLine_eq];omega
 have he:∃q,h'.get? s.heap.objs.size=some q:=let ⟨q,_,_,hq,_⟩:=dd';⟨q,hq⟩
 exact wb I2 (by rw[e];exact ali) hs he (Ep hz hd (rk.merge .nil) dd')
structure M1 (X:Cx)(o:Expr)(m:Str)(apos:Pos)(e:Expr)(gz:Pos):Prop where
 base:attributeBase o m X.env (eval o X.env)=eval o X.env
 few:((backTo gz (aj0 [e] X.env)).all (λx=>!x.1) && (backToKw gz (keywordEach [] X.env)).all (λx=>x.1.isSome)
  && decide (([e]:List Expr).length+([]:List Keyword).length+(if ([]:List Keyword).isEmpty then 0 else 1) < 30))=true
 line:(apos.endLine == gz.line)=true
 trees:backTo gz (aj0 [e] X.env)=[(false,eval e X.env)]
structure M2 (X:Cx)(o:Expr)(m:Str)(apos:Pos)(e f:Expr)(gz:Pos):Prop where
 base:attributeBase o m X.env (eval o X.env)=eval o X.env
 few:((backTo gz (aj0 [e,f] X.env)).all (λx=>!x.1) && (backToKw gz (keywordEach [] X.env)).all (λx=>x.1.isSome)
  && decide (([e,f]:List Expr).length+([]:List Keyword).length+(if ([]:List Keyword).isEmpty then 0 else 1) < 30))=true
 line:(apos.endLine == gz.line)=true
 trees:backTo gz (aj0 [e,f] X.env)=[(false,eval e X.env),(false,eval f X.env)]
def IsD (H:Hp)(a:Addr):Prop:=(∃kvs,Rd H a (.dK kvs))\/∃kvs,Rd H a (.dT kvs)
theorem Vr {X:Cx}{pins:List (Addr×Obj)}{σ:St}{H:Hp}{s:Shared}{a:Addr}(I:Inv X pins σ H s)(d:IsD H a) :
  s.TypeIs (.ref a) "dict"/\(∀b,aj6 a=.ref b->∃ob,s.heap.get? b=some ob/\ob.dict=none)/\(a == alh)=false:=by
 rcases d with ⟨kvs,e⟩ | ⟨kvs,e⟩
 ·obtain⟨_,hd,vs,_,dd⟩:=C8 I.hok e;refine⟨dd.typeIs,λb q=>?_,hd⟩
  cases q;obtain⟨ob,_,_,h1,h2,_⟩:=dd;exact⟨ob,h1,h2.2.1⟩
 ·obtain⟨_,hd,xs,_,dd⟩:=FQ I.hok e;refine⟨dd.typeIs,λb q=>?_,hd⟩
  cases q;obtain⟨ob,_,_,h1,h2,_⟩:=dd;exact⟨ob,h1,h2.2.1⟩
def Vs (td ty:TE):TE:=λσ H Q=>td σ H λx H1=>∃a,x=.ref a/\IsD H1 a/\ty σ H1 λy H2=>∃kvs k v,H2 a=some (.dK kvs)/\y=kV k/\gW kvs k=some v/\Q v (upd H2 a (.dK (iG kvs k)))
section
variable{X:Cx}{o e f:Expr}{apos gz:Pos}{td ty tx:TE}
theorem FU (ho:PE X o td)(he:PE X e ty)(m:M1 X o "pop" apos e gz):PE X (.Call (.Attribute o "pop" apos) [e] [] gz) (Vs td ty):=by
 intro pins s σ H Q I h;refine wpAny_Call_method m.base m.few m.line PySem.F.plainAttrs_dict PySem.F.slot_dict_pop PySem.F.type_dict_pop (thn (ho pins s σ H _ I h) λu s1 ⟨x,H1,I1,rx,a,ex,d,q1⟩=>?_)
 subst ex;obtain rfl:u=aj6 a:=rx;obtain⟨t1,t2,_⟩:=Vr I1 d;refine⟨t1,t2,?_⟩;rw[m.trees];refine Calls.callWith_builtin rfl (Calls.evalArgs_plain (Calls.spliced_cons (thn (he pins s1 σ H1 _ I1 q1) λiv s2 ⟨y,H2,I2,ry,kvs,k,v,ea,ey,l,q2⟩=>Calls.spliced_nil ?_)))
 subst ey;exact Z7 I2 ea ry l (.inl rfl) λw' s3 I3 rw'=>⟨v,_,I3,rw',q2⟩
end
section
variable{X:Cx}
theorem C9:lF X (.builtin "len") (λxs H Q=>∃a kvs,xs=[V.ref a]/\H a=some (.dK kvs)/\Q (.int kvs.length) H):=by
 intro pins s σ H xs us Q I r h;obtain⟨a,kvs,rfl,ha,q⟩:=h;obtain⟨u,rfl,ru⟩:=vals1 r;cases ru;exact Z8 I (.inl ha) λt s' I'=>⟨.int kvs.length,H,I',⟨t,rfl⟩,q⟩
end
theorem Room.u1 {k:Nat}{A:Around}(r:Room k A):A.units+1 < cLine:=by have:=r.un;omega
theorem Rc {X:Cx}{K:bo}{e:Expr}{f:Str}{pos:Pos}{ta:TE}(ek:X.K=K)(he:PE X e ta)(hb:attributeBase e f X.env (eval e X.env)=eval e X.env):PE X (.Attribute e f pos) (ZH K ta f):=by
 subst ek;exact bh he hb
theorem ints_of:∀(l:List Value) (ns:List Int),l.length=ns.length->(∀(j:Nat) (v:Value),l[j]?=some v->∃n t,ns[j]?=some n/\v=Value.int n t)->IntsAre l ns
 |[],[],_,_=>.nil
 |[],_::_,h,_=>nomatch h
 |_::_,[],h,_=>nomatch h
 |v::l,n::ns,h,g=>by
  obtain⟨n',t,e1,e2⟩:=g 0 v rfl;have e3:n=n':=by simpa using e1
  subst e3;subst e2;exact .cons n t (ints_of l ns (by simpa using h) λj v hv=>g (j+1) v (by simpa using hv))
theorem AS:∀ {vs:List Value} {ns:List Int},IntsAre vs ns->Vals (ns.map V.int) vs
 |_,_,.nil=>.nil
 |_,_,.cons n t h=>.cons ⟨t,rfl⟩ (AS h)
theorem Of {κ:Type}:∀ {kvs:List (κ×V)} {vs:List (κ×Value)},KV kvs vs->∀(j:Nat) (q:κ×Value),vs[j]?=some q->(kvs.map (·.1))[j]?=some q.1
 |_,_,.nil,j,q,h=>by simp at h
 |_,_,.cons a r,0,q,h=>by
  rw[aj8]at h;cases h;rw[km,aj8,a.1]
 |_,_,.cons a r,j+1,q,h=>by
  have:=Of r j q (by simpa using h)
  simpa using this
theorem Ls {P:sr}{w:World}{n:Int}{v:Value}(h:(dj P w).is (kf n) v=true):∃t,v=Value.int n t:=by
 rcases dU (k:=kf n) (v:=v) (show AB (kf n) v=true from h) with ⟨i,t,e,rfl⟩ | ⟨x,t,e,rfl⟩
 ·cases e;exact⟨t,rfl⟩
 ·cases e
theorem wc {X:Cx}(hh:X.A.handled=none):lF X (.builtin "sorted") (λxs H Q=>∃a kvs ns,xs=[V.ref a]/\H a=some (.dK kvs)/\kvs.map (·.1)=ns.map kf/\ns.length < 64 /\
  ∀l ns',List.Perm ns' ns->ns'.Pairwise (·<=·)->H l=none->Q (.ref l) (upd H l (.lst (ns'.map V.int)))):=by
 intro pins s σ H xs us Q I r h;obtain⟨a,kvs,ns,rfl,ha,hk,h64,q⟩:=h;obtain⟨u,rfl,ru⟩:=vals1 r;cases ru;obtain⟨z,hd,vs,rel,dd⟩:=yS I.hok ha;obtain⟨ep,hat⟩:=dd.dictAt;have hlen:vs.length=ns.length:=by
  have e1:=congrArg akT hk;simp only[ba]at e1;rw[<-rel.length];exact e1
 refine Calls.call_function_entry kind_sorted plain_sorted entry_sorted (args_sorted1 _) ?_;unfold Builtin.«sorted»;refine fu (m:=checkCount "sorted" 1 1 _) (ajY ?_);refine fu (PySem.W.kdu_collect (A:=X.A.in1) (PySem.W.kdl_dict (knd:=dj X.prog X.w) (kvs:=vs) (ep:=ep) hd) hh hat (by rw[<-rel.length];exact z) λh' tk acc kp Jn=>?_)
 have hsz:acc.toList.length=ns.length:=by rw[alc];exact Jn.1.trans hlen
 have hI:IntsAre acc.toList ns:=ints_of _ _ hsz λj v hv=>by
  obtain⟨k,x,hx,hkv⟩:=Jn.2 j v (by rw[<-Array.getElem?_toList];exact hv)
  have e:=Of rel j _ hx;rw[hk,aj7]at e;cases en:ns[j]? with
  |none=>rw[en]at e;cases e
  |some n =>
   rw[en]at e;have e':kf n=k:=by simpa using e
   subst e';obtain⟨t,rfl⟩:=Ls hkv;exact⟨n,t,rfl,rfl⟩
 refine fu (wpAny_newList ?_ (by rw[hsz];rw[sizeLine_eq];omega))
 have hoL:(h'.push (seqObj "list" acc.toList.toArray 0)).get? h'.objs.size=some (seqObj "list" acc.toList.toArray 0):=akg _ rfl;refine fu (wpAny_holding (wpAny_call_entry slot_list_sort ⟨_,hoL,rfl⟩ entry_list_sort (list_sort_tree hoL hI (by omega) λout ns' a1 a2 a3=>⟨_,rfl,?_⟩) (args_list_sort _)))
 refine ajY ⟨_,rfl,?_⟩;obtain⟨e,he⟩:=sortedHeap_at (out:=out) hoL;have I1:Inv X pins σ H { s with heap:=h',toks:=tk }:=I.un (Un.kept kp) (I.hok.kept kp)
 refine⟨.ref h'.objs.size,_,I1.laid (t':=tk) (λb o hb=>?_) (kq _) (show fO X.prog X.w _ _ _ (.lst (ns'.map V.int)) from ⟨?_,_,e,AS a1,?_⟩),rfl,q _ ns' a2 a3 (I1.hok.fresh (kq _))⟩
 ·have hb':h'.get? b=some o:=hb;have hlt:=tm hb';rw[sortedHeap_old (akj hlt) (by rw[size_push'];exact Nat.lt_succ_of_lt hlt)]
  exact kg _ hb'
 ·rw[ba,a2.length_eq,sizeLine_eq];omega
 ·rw[Array.toArray_toList];exact he
theorem Dc:ak2 "sorted"=some (.builtin "sorted"):=by trivial
theorem Rf {X:Cx}(hu:X.A.units+1 < cLine):OpR X (akW .NotEq) (λx y H Q=>∃a b kvs,x=.ref a/\y=.ref b/\H a=some (.dK kvs)/\H b=some (.dK [])/\Q (.bl (!kvs.isEmpty)) H):=by
 intro pins s σ H x y v u Q I rx ry h;obtain⟨a,b,kvs,rfl,rfl,ha,hb,q⟩:=h;cases rx;cases ry;obtain⟨_,h1,vs,r1,d1⟩:=yS I.hok ha;obtain⟨_,h2,ws,r2,d2⟩:=yS I.hok hb;cases r2;refine PySem.W.keq_ne (knd:=dj X.prog X.w) (r:=true) h1 h2 d1 d2 (by omega) (λe=>?_) ⟨.bl _,H,I,?_,q⟩
 ·have:vs=[]:=List.length_eq_zero_iff.mp e;subst this;exact .nil
 ·have hl:=r1.length;cases kvs with
  |nil =>
   have:vs=[]:=List.length_eq_zero_iff.mp (by rw[<-hl];rfl)
   subst this;rfl
  |cons p r =>
   cases vs with
   |nil=>simp at hl
   |cons _ _=>rfl
theorem Jv {X:Cx}(hh:X.A.handled=none):lF X (.type "list") (λxs H Q=>∃a kvs,∃ns:List Int,xs=[V.ref a]/\H a=some (.dK kvs)/\kvs.map (·.1)=ns.map kf/\∀l,H l=none->Q (.ref l) (upd H l (.lst (ns.map V.int)))):=by
 intro pins s σ H xs us Q I r h;obtain⟨a,kvs,ns,rfl,ha,hk,q⟩:=h;obtain⟨u,rfl,ru⟩:=vals1 r;cases ru;obtain⟨z,hd,vs,rel,dd⟩:=yS I.hok ha;obtain⟨ep,hat⟩:=dd.dictAt;have hkl:kvs.length=ns.length:=by
  have e1:=congrArg akT hk
  simpa only[ba] using e1
 have hlen:vs.length=ns.length:=by rw[<-rel.length];exact hkl
 refine PySem.W.kdl_call (PySem.W.kdl_dict (knd:=dj X.prog X.w) (kvs:=vs) (ep:=ep) hd) hh hat (by rw[<-rel.length];exact z) λh' tk acc c' kp eS Jn=>?_
 have hsz:acc.toList.length=ns.length:=by rw[alc];exact Jn.1.trans hlen
 have hI:IntsAre acc.toList ns:=ints_of _ _ hsz λj v hv=>by
  obtain⟨k,x,hx,hkv⟩:=Jn.2 j v (by rw[<-Array.getElem?_toList];exact hv)
  have e:=Of rel j _ hx;rw[hk,aj7]at e;cases en:ns[j]? with
  |none=>rw[en]at e;cases e
  |some n =>
   rw[en]at e;have e':kf n=k:=by simpa using e
   subst e';obtain⟨t,rfl⟩:=Ls hkv;exact⟨n,t,rfl,rfl⟩
 exact⟨.ref _,_,I.laid (t':=tk) kp (kq _) (show fO X.prog X.w _ h' _ (.lst _) from ⟨by rw[ba,<-hkl];exact z,acc.toList,c',AS hI,by rw[Array.toArray_toList];exact eS⟩),rfl,q _ (I.hok.fresh (kq _))⟩
theorem aQ {P:Prop}(h:∀G:Prop,(P->G)->G):P:=h P id
theorem ixv {s:Option (Option V)}{p:Addr}{n:Int}{S:Addr->List V->Prop}{xs:List V}{z:V}{R:V->Prop}(h0:s=some (some (.ref p)))(h1:S p xs)(h2:atI xs n=some z)(h:R z):∃v,s=some (some v)/\∃q ys i w,v=.ref q/\V.int n=.int i/\S q ys/\atI ys i=some w/\R w :=
 ⟨_,h0,p,xs,n,z,rfl,rfl,h1,h2,h⟩
theorem eW {K:bo}{s:Option (Option V)}{H:Hp}{a C dx:Addr}{fs:List (Str×V)}{f:Str}{w:V}{R:V->Prop}(h0:s=some (some (.ref a)))(h1:H a=some (.ins C dx fs))(h2:Cls K C)(h3:d0 K C f)(h4:fs.lookup f=some w)(h:R w) :
  ∃v,s=some (some v)/\∃a C dx fs w,v=.ref a/\H a=some (.ins C dx fs)/\Cls K C/\d0 K C f/\fs.lookup f=some w/\R w:=⟨_,h0,a,C,dx,fs,w,rfl,h1,h2,h3,h4,h⟩
theorem dgv {s:Option (Option V)}{a:Addr}{v:V}{D:Addr->V->Prop}{R:V->Prop}(h0:s=some (some (.ref a)))(h1:D a v)(h:R v):∃x,s=some (some x)/\∃a v,x=.ref a/\D a v/\R v:=⟨_,h0,a,v,rfl,h1,h⟩
theorem mtv {s:Option (Option V)}{H:Hp}{a C dx:Addr}{fs:List (Str×V)}{m:Str}{R:V->Prop}(h0:s=some (some (.ref a)))(h1:H a=some (.ins C dx fs))(h2:fs.lookup m=none)(h:R (.ref a)) :
  ∃v,s=some (some v)/\∃a dx fs,v=.ref a/\H a=some (.ins C dx fs)/\fs.lookup m=none/\R v:=⟨_,h0,a,dx,fs,rfl,h1,h2,h⟩
theorem tsf {b:Bool}{P Q:Prop}(h:b=false)(q:Q):∃k,V.bl b=.bl k/\if k=true then P else Q:=⟨b,rfl,by rw[h];exact q⟩
theorem tst {b:Bool}{P Q:Prop}(h:b=true)(q:P):∃k,V.bl b=.bl k/\if k=true then P else Q:=⟨b,rfl,by rw[h];exact q⟩
def scB (N P:List Str)(sc:Scope):Bool:=(match sc.kind with | .function=>true | _=>false) && !sc.isCoroutine && !sc.isGenerator && decide N.Nodup && decide (N.take P.length=P) && decide (∀x∈P,sc.names.lookup x=some .local\/sc.names.lookup x=some .cell) && decide (∀y∈sc.names,y.2≠.free)
theorem fsc {N P:List Str}{sc:Scope}(h:scB N P sc=true):aN N P sc:=by
 unfold scB at h;simp only[akG,Bool.not_eq_true',decide_eq_true_eq]at h;obtain⟨⟨⟨⟨⟨⟨h1,h2⟩,h3⟩,h4⟩,h5⟩,h6⟩,h7⟩:=h;refine⟨?_,h2,h3,h4,h5,h6,h7⟩;split at h1
 ·assumption
 ·cases h1
end L2
namespace My
open PySem L2
seal PySem.wpAny
def top (i:Nat):Stmt:=PySem.Challenge.pw_moot_k15_whole_texts_behind_changes.main.body.getD i (.Pass ⟨0,0,0,0⟩)
abbrev fS:Stmt:=inClass (top 22) 1
theorem AU:aN ["self"] ["self"] (ag fS):=fsc (by trivial)
abbrev fU:Stmt:=inClass (top 23) 1
theorem AV:aN ["self"] ["self"] (ag fU):=fsc (by trivial)
abbrev iH:Stmt:=inClass (top 24) 1
theorem Er:aN ["self"] ["self"] (ag iH):=fsc (by trivial)
abbrev fV:Stmt:=inClass (top 25) 1
theorem AW:aN ["self"] ["self"] (ag fV):=fsc (by trivial)
abbrev gX:Stmt:=inClass (top 26) 0
theorem Cv:aN ["self"] ["self"] (ag gX):=fsc (by trivial)
abbrev jE:Stmt:=inClass (top 27) 0
theorem FV:aN ["self"] ["self"] (ag jE):=fsc (by trivial)
abbrev iI:Stmt:=inClass (top 28) 0
theorem Es:aN ["self"] ["self"] (ag iI):=fsc (by trivial)
abbrev gY:Stmt:=inClass (top 29) 1
theorem Cw:aN ["self"] ["self"] (ag gY):=fsc (by trivial)
abbrev fW:Stmt:=inClass (top 21) 1
theorem AX:aN ["self"] ["self"] (ag fW):=fsc (by trivial)
abbrev fX:Stmt:=inClass (top 21) 2
theorem AY:aN ["self"] ["self"] (ag fX):=fsc (by trivial)
abbrev gZ:Stmt:=inClass (top 26) 1
theorem Cy:aN ["self"] ["self"] (ag gZ):=fsc (by trivial)
abbrev fY:Stmt:=inClass (top 21) 3
theorem AZ:aN ["self"] ["self"] (ag fY):=fsc (by trivial)
abbrev fZ:Stmt:=inClass (top 22) 2
theorem A0:aN ["self"] ["self"] (ag fZ):=fsc (by trivial)
abbrev f6:Stmt:=inClass (top 23) 2
theorem A1:aN ["self"] ["self"] (ag f6):=fsc (by trivial)
abbrev iJ:Stmt:=inClass (top 24) 2
theorem Et:aN ["self"] ["self"] (ag iJ):=fsc (by trivial)
abbrev f7:Stmt:=inClass (top 25) 2
theorem A2:aN ["self"] ["self"] (ag f7):=fsc (by trivial)
abbrev g0:Stmt:=inClass (top 29) 2
theorem Cz:aN ["self"] ["self"] (ag g0):=fsc (by trivial)
abbrev f9:Stmt:=inClass (top 22) 0
theorem A3:aN ["self","text"] ["self","text"] (ag f9):=fsc (by trivial)
abbrev gb:Stmt:=inClass (top 23) 0
theorem A4:aN ["self","edit"] ["self","edit"] (ag gb):=fsc (by trivial)
abbrev iK:Stmt:=inClass (top 24) 0
theorem Eu:aN ["self","edit"] ["self","edit"] (ag iK):=fsc (by trivial)
abbrev gf:Stmt:=inClass (top 25) 0
theorem A5:aN ["self","sitting"] ["self","sitting"] (ag gf):=fsc (by trivial)
abbrev g7:Stmt:=inClass (top 29) 0
theorem CA:aN ["self","clause"] ["self","clause"] (ag g7):=fsc (by trivial)
abbrev gg:Stmt:=inClass (top 4) 0
theorem A6:aN ["self","bar"] ["self","bar"] (ag gg):=fsc (by trivial)
abbrev eB:Stmt:=inClass (top 7) 0
theorem xN:aN ["self","sitting"] ["self","sitting"] (ag eB):=fsc (by trivial)
abbrev gh:Stmt:=inClass (top 11) 0
theorem A7:aN ["self","sitting"] ["self","sitting"] (ag gh):=fsc (by trivial)
abbrev eX:Stmt:=inClass (top 46) 0
theorem zm:aN ["self","seats"] ["self","seats"] (ag eX):=fsc (by trivial)
abbrev eY:Stmt:=inClass (top 46) 1
theorem q0:aN ["self","told","number"] ["self","told"] (ag eY):=fsc (by trivial)
abbrev eZ:Stmt:=inClass (top 46) 2
theorem lj:aN ["self","ayes","noes","motion","word"] ["self","ayes","noes"] (ag eZ):=fsc (by trivial)
abbrev fb:Stmt:=inClass (top 46) 3
theorem zo:aN ["self"] ["self"] (ag fb):=fsc (by trivial)
abbrev fg:Stmt:=inClass (top 46) 4
theorem q5:aN ["self","number","until"] ["self","number"] (ag fg):=fsc (by trivial)
abbrev dN:Stmt:=inClass (top 46) 6
theorem xO:aN ["self","aside"] ["self"] (ag dN):=fsc (by trivial)
abbrev lG:Scope:={ kind:=.function,names:=[(ar ".0",.local),(ar "number",.local),(ar "self",.free)],isGenerator:=false,isCoroutine:=false,more:=[] }
theorem uQ:eA lG (ag dN) "number" ["self","aside"] ["self","aside"]:=⟨rfl,rfl,by trivial,by trivial,rfl,by trivial,by trivial,by trivial,by trivial,rfl,by trivial,by trivial⟩
abbrev dX:Stmt:=inClass (top 46) 7
theorem we:aN ["self","number"] ["self","number"] (ag dX):=fsc (by trivial)
abbrev b8:Stmt:=inClass (top 46) 9
theorem pw:aN ["self","number"] ["self","number"] (ag b8):=fsc (by trivial)
abbrev cF:Stmt:=inClass (top 46) 10
theorem rN:aN ["self","number"] ["self","number"] (ag cF):=fsc (by trivial)
abbrev cN:Stmt:=inClass (top 46) 12
theorem uR:aN ["self"] ["self"] (ag cN):=fsc (by trivial)
abbrev jv:Scope:={ kind:=.function,names:=[(ar ".0",.local),(ar "number",.local),(ar "self",.free)],isGenerator:=false,isCoroutine:=false,more:=[] }
theorem sG:eA jv (ag cN) "number" ["self"] ["self"]:=⟨rfl,rfl,by trivial,by trivial,rfl,by trivial,by trivial,by trivial,by trivial,rfl,by trivial,by trivial⟩
abbrev cG:Stmt:=inClass (top 46) 13
theorem jw:aN ["self","number","waiting"] ["self","number"] (ag cG):=fsc (by trivial)
abbrev bF:Stmt:=inClass (top 46) 14
theorem dq:aN ["self","told","kind","pile"] ["self","told"] (ag bF):=fsc (by trivial)
abbrev bO:Stmt:=inClass (top 46) 15
theorem my:aN ["self"] ["self"] (ag bO):=fsc (by trivial)
abbrev bU:Stmt:=inClass (top 46) 16
theorem nD:aN ["self","number"] ["self","number"] (ag bU):=fsc (by trivial)
abbrev dY:Stmt:=inClass (top 46) 17
theorem wg:aN ["self","word"] ["self","word"] (ag dY):=fsc (by trivial)
abbrev b9:Stmt:=inClass (top 46) 18
theorem pz:aN ["self","deed"] ["self","deed"] (ag b9):=fsc (by trivial)
abbrev df:Stmt:=inClass (top 46) 19
theorem kP:aN ["self","motion","kind"] ["self","motion"] (ag df):=fsc (by trivial)
abbrev bX:Stmt:=inClass (top 46) 20
theorem ig:aN ["self","edit","number"] ["self","edit"] (ag bX):=fsc (by trivial)
abbrev bY:Stmt:=inClass (top 46) 21
theorem dB:aN ["self","edit","number","change","words"] ["self","edit"] (ag bY):=fsc (by trivial)
abbrev dg:Stmt:=inClass (top 46) 22
theorem sH:aN ["self","until"] ["self","until"] (ag dg):=fsc (by trivial)
abbrev xP:Stmt:=top 14
theorem Ew:aN ["things","edit","places"] ["things","edit"] (ag xP):=fsc (by trivial)
abbrev gi:Stmt:=top 15
theorem A8:aN ["things","edit"] ["things","edit"] (ag gi):=fsc (by trivial)
abbrev xQ:Stmt:=top 16
theorem Au:aN ["things","edit","kind","place","behind"] ["things","edit"] (ag xQ):=fsc (by trivial)
abbrev jF:Stmt:=top 17
theorem FW:aN ["clause"] ["clause"] (ag jF):=fsc (by trivial)
abbrev iL:Stmt:=top 18
theorem Ex:aN ["words"] ["words"] (ag iL):=fsc (by trivial)
abbrev iM:Stmt:=top 30
theorem lN:aN ["told","kind"] ["told"] (ag iM):=fsc (by trivial)
abbrev pA:Stmt:=top 33
theorem De:aN ["pile","closed","bar"] ["pile","closed"] (ag pA):=fsc (by trivial)
abbrev fK:Stmt:=top 34
theorem CB:aN ["pile"] ["pile"] (ag fK):=fsc (by trivial)
abbrev pB:Scope:={ kind:=.function,names:=[(ar ".0",.local),(ar "motion",.local)],isGenerator:=false,isCoroutine:=false,more:=[] }
theorem zp:eA pB (ag fK) "motion" ["pile"] ["pile"]:=⟨rfl,rfl,by trivial,by trivial,rfl,by trivial,by trivial,by trivial,by trivial,rfl,by trivial,by trivial⟩
abbrev eC:Stmt:=top 35
theorem pD:aN ["pile","told"] ["pile"] (ag eC):=fsc (by trivial)
abbrev dh:Stmt:=top 36
theorem sI:aN ["kind","pile"] ["kind","pile"] (ag dh):=fsc (by trivial)
abbrev du:Stmt:=top 37
theorem lH:aN ["kind","pile","closed","bar"] ["kind","pile","closed"] (ag du):=fsc (by trivial)
abbrev eD:Stmt:=top 39
theorem jG:aN ["text","words","clause"] ["text"] (ag eD):=fsc (by trivial)
abbrev eE:Stmt:=top 40
theorem pE:aN ["edit","words"] ["edit"] (ag eE):=fsc (by trivial)
abbrev d3:Stmt:=top 41
theorem q8:aN ["deed","kind"] ["deed"] (ag d3):=fsc (by trivial)
abbrev mz:Scope:={ kind:=.function,names:=[(ar ".0",.local),(ar "number",.local),(ar "str",.globalImplicit)],isGenerator:=false,isCoroutine:=false,more:=[] }
theorem wj:eA mz (ag d3) "number" ["deed","kind"] ["deed","kind"]:=⟨rfl,rfl,by trivial,by trivial,rfl,by trivial,by trivial,by trivial,by trivial,rfl,by trivial,by trivial⟩
abbrev iN:Stmt:=top 42
theorem Ey:aN ["deed"] ["deed"] (ag iN):=fsc (by trivial)
abbrev lX:Stmt:=top 44
theorem Jw:aN ["need","ayes","noes"] ["need","ayes","noes"] (ag lX):=fsc (by trivial)
abbrev iO:Stmt:=top 48
theorem Ez:aN ["_law_script","_law_k"] ["_law_script","_law_k"] (ag iO):=fsc (by trivial)
abbrev pG:Stmt:=top 49
theorem pH:aN ["_law_cell","_law_signs","_law_word_here","_law_k"] ["_law_cell"] (ag pG):=fsc (by trivial)
abbrev jH:Stmt:=top 50
theorem kQ:aN ["_law_cell","_law_words_here","_law_number","_law_k"] ["_law_cell"] (ag jH):=fsc (by trivial)
abbrev pI:Stmt:=top 51
theorem Df:aN ["_law_cell","_law_size","_law_thing","_law_place"] ["_law_cell","_law_size","_law_thing"] (ag pI):=fsc (by trivial)
abbrev pJ:Stmt:=top 52
theorem Mp:aN ["_law_things","_law_edit_here"] ["_law_things","_law_edit_here"] (ag pJ):=fsc (by trivial)
abbrev pL:Stmt:=top 53
theorem Dg:aN ["_law_things","_law_edit_here","_law_at"] ["_law_things","_law_edit_here"] (ag pL):=fsc (by trivial)
abbrev lY:Stmt:=top 54
theorem Jx:aN ["_law_clause_here"] ["_law_clause_here"] (ag lY):=fsc (by trivial)
abbrev pM:Stmt:=top 55
theorem Mq:aN ["_law_kind"] ["_law_kind"] (ag pM):=fsc (by trivial)
abbrev uf:Stmt:=top 56
theorem Og:aN [] [] (ag uf):=fsc (by trivial)
abbrev ug:Stmt:=top 57
theorem Oh:aN ["_law_m","_law_number"] ["_law_m","_law_number"] (ag ug):=fsc (by trivial)
abbrev uh:Stmt:=top 58
theorem A9:aN ["_law_m","_law_bar_here"] ["_law_m"] (ag uh):=fsc (by trivial)
abbrev lZ:Stmt:=top 59
theorem uS:aN ["_law_m","_law_motion","_law_kind","_law_top"] ["_law_m","_law_motion"] (ag lZ):=fsc (by trivial)
abbrev pN:Stmt:=top 60
theorem jI:aN ["_law_m","_law_motion","_law_matter","_law_change","_law_word_here","_law_at","_law_clause_here","_law_until"] ["_law_m","_law_motion"] (ag pN):=fsc (by trivial)
abbrev l7:Stmt:=top 61
theorem Ba:aN ["_law_m","_law_word_here","_law_number"] ["_law_m","_law_word_here"] (ag l7):=fsc (by trivial)
abbrev l8:Stmt:=top 62
theorem uT:aN ["_law_m","_law_ayes","_law_noes","_law_seats_here","_law_kept"] ["_law_m","_law_ayes","_law_noes","_law_seats_here"] (ag l8):=fsc (by trivial)
abbrev l9:Stmt:=top 63
theorem uU:aN ["_law_m","_law_number","_law_until","_law_pile"] ["_law_m","_law_number"] (ag l9):=fsc (by trivial)
abbrev ui:Stmt:=top 64
theorem FX:aN ["_law_m","_law_deed_here","_law_seats_here","_law_lack"] ["_law_m","_law_deed_here","_law_seats_here"] (ag ui):=fsc (by trivial)
abbrev pO:Stmt:=top 66
theorem pP:aN ["_law_cell","_law_seats_here","_law_ayes","_law_noes"] ["_law_cell","_law_seats_here"] (ag pO):=fsc (by trivial)
abbrev jJ:Stmt:=top 67
theorem yT:aN ["_law_m","_law_way","_law_top"] ["_law_m","_law_way"] (ag jJ):=fsc (by trivial)
abbrev mB:Stmt:=top 68
theorem fh:aN ["_law_m","_law_cell","_law_seats_here","_law_way","_law_more","_law_size","_law_clause_here","_law_bottom","_law_top"] ["_law_m","_law_cell","_law_seats_here"] (ag mB):=fsc (by trivial)
abbrev wk:Scope:={ kind:=.function,names:=[(ar ".0",.local),(ar "_law_k",.local),(ar "_law_clause",.globalImplicit),(ar "_law_more",.free)],isGenerator:=false,isCoroutine:=false,more:=[] }
theorem FY:eA wk (ag mB) "_law_k" ["_law_m","_law_cell","_law_seats_here","_law_way","_law_more","_law_size","_law_clause_here","_law_bottom","_law_top"] ["_law_m","_law_cell","_law_seats_here","_law_way","_law_more","_law_size","_law_clause_here","_law_bottom","_law_top"]:=⟨rfl,rfl,by trivial,by trivial,rfl,by trivial,by trivial,by trivial,by trivial,rfl,by trivial,by trivial⟩
abbrev pQ:Stmt:=top 69
theorem xR:aN ["_law_chamber","_law_deed_here","_law_found"] ["_law_chamber","_law_deed_here"] (ag pQ):=fsc (by trivial)
abbrev md:Stmt:=top 70
theorem Jy:aN ["_law_cell"] ["_law_cell"] (ag md):=fsc (by trivial)
abbrev mf:Stmt:=top 71
theorem qE:aN ["_law_first","_law_edits","_law_text","_law_edit_here"] ["_law_first","_law_edits"] (ag mf):=fsc (by trivial)
abbrev eF:Stmt:=top 72
theorem g8:aN ["_law_chamber","_law_number","_law_first","_law_before","_law_change","_law_told","_law_kept","_law_held"] ["_law_chamber","_law_number","_law_first","_law_before","_law_change"] (ag eF):=fsc (by trivial)
abbrev wm:Stmt:=top 73
theorem gB:aN ["_law_script","_law_seats_here","_law_chamber","_law_m","_law_firsts","_law_kepts","_law_cell","_law_deed_here","_law_pile","_law_change","_law_found","_law_number","_law_more","_law_kept"] ["_law_script"] (ag wm):=fsc (by trivial)
structure Adr where
 fits:Addr
 EA:kj
 sJ:Addr
 mC:kj
 laid:Addr
 EB:kj
 words_of:Addr
 iP:kj
 pR:Addr
 i3:kj
 pS:Addr
 i4:kj
 Jz:Addr
 xS:kj
 uV:Addr
 oq:kj
 ot:Addr
 jK:kj
 i5:Addr
 gC:kj
 jL:Addr
 hX:kj
 ou:Addr
 jM:kj
 ox:Addr
 jN:kj
 qF:Addr
 ll:kj
 mh:Addr
 g9:kj
 EC:Addr
 uW:kj
 xT:Addr
 qG:kj
 JA:Addr
 xU:kj
 wo:Addr
 nS:kj
 JB:Addr
 xV:kj
 JC:Addr
 xW:kj
 JD:Addr
 xX:kj
 ED:Addr
 uX:kj
 JE:Addr
 xY:kj
 Oi:Addr
 Bb:kj
 Lu:Addr
 wq:kj
 Oj:Addr
 Bc:kj
 EE:Addr
 uY:kj
 JF:Addr
 xZ:kj
 EF:Addr
 uZ:kj
 EG:Addr
 u0:kj
 EH:Addr
 u3:kj
 Ol:Addr
 Bd:kj
 JG:Addr
 x5:kj
 Be:Addr
 sL:kj
 JH:Addr
 x6:kj
 EI:Addr
 uj:kj
 EJ:Addr
 u4:kj
 EK:Addr
 u5:kj
 oy:Addr
 jO:kj
 kz:Tok
 c0:Addr
 c1:Addr
 c2:Addr
 c3:Addr
 c4:Addr
 c5:Addr
 c6:Addr
 c7:Addr
 Cm:Addr
 tab:Addr
 Vt:Addr
 Om:kj
 Vu:Addr
 Oo:kj
 Vv:Addr
 Oq:kj
 Vw:Addr
 Ot:kj
 Vx:Addr
 Ou:kj
 Vy:Addr
 Ov:kj
 Vz:Addr
 Ow:kj
 VA:Addr
 Ox:kj
 f_r:Addr
 Rg:kj
 f_n:Addr
 EL:kj
 VB:Addr
 Oy:kj
 f_t:Addr
 Oz:kj
 VC:Addr
 OA:kj
 VD:Addr
 OB:kj
 VE:Addr
 OC:kj
 VF:Addr
 OD:kj
 VG:Addr
 OE:kj
 VH:Addr
 OF:kj
 VI:Addr
 OG:kj
 VJ:Addr
 OH:kj
 VL:Addr
 OI:kj
 VM:Addr
 OJ:kj
 ax:Addr
 cO:Addr
 lq:kj
 cP:Addr
 lu:kj
 cQ:Addr
 lx:kj
 cS:Addr
 ly:kj
 cT:Addr
 lz:kj
 cC:Addr
 jP:kj
 cc:Addr
 i6:kj
 bB:Addr
 fj:kj
 bH:Addr
 gj:kj
 bW:Addr
 iz:kj
 bI:Addr
 gk:kj
 bg:Addr
 dv:kj
 bq:Addr
 d4:kj
 br:Addr
 ei:kj
 cf:Addr
 i7:kj
 bC:Addr
 fm:kj
 bK:Addr
 gD:kj
 bx:Addr
 eL:kj
 bz:Addr
 eM:kj
 bL:Addr
 gF:kj
 bM:Addr
 uk:Addr
 sM:Addr
 qH:Addr
 qI:Addr
 mD:Addr
 pT:Addr
 um:Addr
 uo:Addr
 sN:Addr
 qJ:Addr
 Bf:Addr
 x8:kj
 u6:Addr
 sO:kj
 Bg:Addr
 x9:kj
def Adr.C (A:Adr):Nat->Addr
 | 0=>A.c0
 | 1=>A.c1
 | 2=>A.c2
 | 3=>A.c3
 | 4=>A.c4
 | 5=>A.c5
 | 6=>A.c6
 |_=>A.c7
def Adr.fk (A:Adr):Nat->Addr
 | 0=>A.Vt
 | 1=>A.Vu
 | 2=>A.Vv
 | 3=>A.Vw
 | 4=>A.Vx
 | 5=>A.Vy
 | 6=>A.Vz
 |_=>A.VA
def Adr.fkd (A:Adr):Nat->kj
 | 0=>A.Om
 | 1=>A.Oo
 | 2=>A.Oq
 | 3=>A.Ot
 | 4=>A.Ou
 | 5=>A.Ov
 | 6=>A.Ow
 |_=>A.Ox
def Adr.fn (A:Adr):Nat->Addr
 | 0=>A.f_n
 | 1=>A.f_n
 | 2=>A.f_n
 | 3=>A.f_n
 | 4=>A.VB
 | 5=>A.f_n
 | 6=>A.f_n
 |_=>A.f_n
def Adr.fnd (A:Adr):Nat->kj
 | 0=>A.EL
 | 1=>A.EL
 | 2=>A.EL
 | 3=>A.EL
 | 4=>A.Oy
 | 5=>A.EL
 | 6=>A.EL
 |_=>A.EL
def Adr.ft (A:Adr):Nat->Addr
 | 0=>A.VC
 | 1=>A.VD
 | 2=>A.VE
 | 3=>A.VF
 | 4=>A.f_t
 | 5=>A.f_t
 | 6=>A.f_t
 |_=>A.VG
def Adr.ftd (A:Adr):Nat->kj
 | 0=>A.OA
 | 1=>A.OB
 | 2=>A.OC
 | 3=>A.OD
 | 4=>A.Oz
 | 5=>A.Oz
 | 6=>A.Oz
 |_=>A.OE
def nm:Nat->Str
 | 0=>ar "matter"
 | 1=>ar "change"
 | 2=>ar "mend"
 | 3=>ar "put off"
 | 4=>ar "close"
 | 5=>ar "lay"
 | 6=>ar "rest"
 |_=>ar "point"
structure Txt (P:Params)(K:bo)(mg:Str->Option Value)(A:Adr):Prop where
 JI:Fun K "fits" "fits" xP A.fits A.EA
 OK:Binds K A.EA ["things","edit"] []
 OL:mg "fits"=some (.ref A.fits)
 ij:Fun K "require_fit" "require_fit" gi A.sJ A.mC
 kA:Binds K A.mC ["things","edit"] []
 kB:mg "require_fit"=some (.ref A.sJ)
 EM:Fun K "laid" "laid" xQ A.laid A.EB
 JJ:Binds K A.EB ["things","edit"] []
 JK:mg "laid"=some (.ref A.laid)
 iA:Fun K "words_of" "words_of" jF A.words_of A.iP
 jQ:Binds K A.iP ["clause"] []
 jR:mg "words_of"=some (.ref A.words_of)
 nU:Fun K "clause_of" "clause_of" iL A.pR A.i3
 sP:Binds K A.i3 ["words"] []
 sQ:mg "clause_of"=some (.ref A.pR)
 nX:Fun K "motion_of" "motion_of" iM A.pS A.i4
 yU:Binds K A.i4 ["told"] []
 yV:mg "motion_of"=some (.ref A.pS)
 wu:Fun K "bar_of" "bar_of" pA A.Jz A.xS
 Bh:Binds K A.xS ["pile","closed"] []
 Bi:mg "bar_of"=some (.ref A.Jz)
 lO:Fun K "has_matter" "has_matter" fK A.uV A.oq
 qK:Binds K A.oq ["pile"] []
 qL:mg "has_matter"=some (.ref A.uV)
 lA:Fun K "can_be_mended" "can_be_mended" eC A.ot A.jK
 q9:Binds K A.jK ["pile"] []
 rg:mg "can_be_mended"=some (.ref A.ot)
 hZ:Fun K "has_what_it_needs" "has_what_it_needs" dh A.i5 A.gC
 lI:Binds K A.gC ["kind","pile"] []
 lJ:mg "has_what_it_needs"=some (.ref A.i5)
 iB:Fun K "require_in_order" "require_in_order" du A.jL A.hX
 mE:Binds K A.hX ["kind","pile","closed"] []
 mF:mg "require_in_order"=some (.ref A.jL)
 lB:Fun K "words_of_text" "words_of_text" eD A.ou A.jM
 rh:Binds K A.jM ["text"] []
 rj:mg "words_of_text"=some (.ref A.ou)
 lC:Fun K "words_of_edit" "words_of_edit" eE A.ox A.jN
 rl:Binds K A.jN ["edit"] []
 rm:mg "words_of_edit"=some (.ref A.ox)
 mG:Fun K "words_behind" "words_behind" d3 A.qF A.ll
 sS:Binds K A.ll ["deed"] []
 sT:mg "words_behind"=some (.ref A.qF)
 kR:Fun K "show_deed" "show_deed" iN A.mh A.g9
 nY:Binds K A.g9 ["deed"] []
 nZ:mg "show_deed"=some (.ref A.mh)
 ya:Fun K "is_kept" "is_kept" lX A.EC A.uW
 Dh:Binds K A.uW ["need","ayes","noes"] []
 Di:mg "is_kept"=some (.ref A.EC)
 sU:Fun K "_law_cell_at" "_law_cell_at" iO A.xT A.qG
 yW:Binds K A.qG ["_law_script","_law_k"] []
 yX:mg "_law_cell_at"=some (.ref A.xT)
 wy:Fun K "_law_word" "_law_word" pG A.JA A.xU
 Bj:Binds K A.xU ["_law_cell"] []
 Bk:mg "_law_word"=some (.ref A.JA)
 mH:Fun K "_law_clause" "_law_clause" jH A.wo A.nS
 qM:Binds K A.nS ["_law_cell"] []
 qN:mg "_law_clause"=some (.ref A.wo)
 wz:Fun K "_law_edit" "_law_edit" pI A.JB A.xV
 Bl:Binds K A.xV ["_law_cell","_law_size","_law_thing"] []
 Bm:mg "_law_edit"=some (.ref A.JB)
 sV:Fun K "_law_fits" "_law_fits" pJ A.JC A.xW
 wA:Binds K A.xW ["_law_things","_law_edit_here"] []
 wB:mg "_law_fits"=some (.ref A.JC)
 sW:Fun K "_law_laid" "_law_laid" pL A.JD A.xX
 wC:Binds K A.xX ["_law_things","_law_edit_here"] []
 wD:mg "_law_laid"=some (.ref A.JD)
 pU:Fun K "_law_words" "_law_words" lY A.ED A.uX
 uq:Binds K A.uX ["_law_clause_here"] []
 ur:mg "_law_words"=some (.ref A.ED)
 wF:Fun K "_law_rank" "_law_rank" pM A.JE A.xY
 Bn:Binds K A.xY ["_law_kind"] []
 Bo:mg "_law_rank"=some (.ref A.JE)
 EN:Fun K "_law_new" "_law_new" uf A.Oi A.Bb
 Lv:Binds K A.Bb [] []
 Lw:mg "_law_new"=some (.ref A.Oi)
 i8:Fun K "_law_now" "_law_now" ug A.Lu A.wq
 kD:Binds K A.wq ["_law_m","_law_number"] []
 kF:mg "_law_now"=some (.ref A.Lu)
 wG:Fun K "_law_bar" "_law_bar" uh A.Oj A.Bc
 Av:Binds K A.Bc ["_law_m"] []
 Aw:mg "_law_bar"=some (.ref A.Oj)
 yb:Fun K "_law_lacks" "_law_lacks" lZ A.EE A.uY
 Dj:Binds K A.uY ["_law_m","_law_motion"] []
 Dk:mg "_law_lacks"=some (.ref A.EE)
 Bp:Fun K "_law_keep" "_law_keep" pN A.JF A.xZ
 FZ:Binds K A.xZ ["_law_m","_law_motion"] []
 F0:mg "_law_keep"=some (.ref A.JF)
 uu:Fun K "_law_ended" "_law_ended" l7 A.EF A.uZ
 yc:Binds K A.uZ ["_law_m","_law_word_here"] []
 yd:mg "_law_ended"=some (.ref A.EF)
 ye:Fun K "_law_voted" "_law_voted" l8 A.EG A.u0
 Dl:Binds K A.u0 ["_law_m","_law_ayes","_law_noes","_law_seats_here"] []
 Dm:mg "_law_voted"=some (.ref A.EG)
 yf:Fun K "_law_taken" "_law_taken" l9 A.EH A.u3
 Dn:Binds K A.u3 ["_law_m","_law_number"] []
 Dp:mg "_law_taken"=some (.ref A.EH)
 EO:Fun K "_law_due" "_law_due" ui A.Ol A.Bd
 Lx:Binds K A.Bd ["_law_m","_law_deed_here","_law_seats_here"] []
 Ly:mg "_law_due"=some (.ref A.Ol)
 Bq:Fun K "_law_vote" "_law_vote" pO A.JG A.x5
 F2:Binds K A.x5 ["_law_cell","_law_seats_here"] []
 F3:mg "_law_vote"=some (.ref A.JG)
 u7:Fun K "_law_guided" "_law_guided" jJ A.Be A.sL
 Br:Binds K A.sL ["_law_m","_law_way"] []
 Bs:mg "_law_guided"=some (.ref A.Be)
 Bt:Fun K "_law_deed" "_law_deed" mB A.JH A.x6
 F4:Binds K A.x6 ["_law_m","_law_cell","_law_seats_here"] []
 F5:mg "_law_deed"=some (.ref A.JH)
 Bu:Fun K "_law_done" "_law_done" pQ A.EI A.uj
 F6:Binds K A.uj ["_law_chamber","_law_deed_here"] []
 F7:mg "_law_done"=some (.ref A.EI)
 yg:Fun K "_law_seats" "_law_seats" md A.EJ A.u4
 Dq:Binds K A.u4 ["_law_cell"] []
 Dr:mg "_law_seats"=some (.ref A.EJ)
 yh:Fun K "_law_plain" "_law_plain" mf A.EK A.u5
 Ds:Binds K A.u5 ["_law_first","_law_edits"] []
 Dt:mg "_law_plain"=some (.ref A.EK)
 lD:Fun K "_law_matter_good" "_law_matter_good" eF A.oy A.jO
 rn:Binds K A.jO ["_law_chamber","_law_number","_law_first","_law_before","_law_change"] []
 rp:mg "_law_matter_good"=some (.ref A.oy)
 Ax:mg "range"=none
 i9:mg "list"=none
 ER:mg "isinstance"=none
 n5:mg "len"=none
 F8:mg "max"=none
 Tp:mg "any"=none
 OM:mg "str"=none
 Bv:mg "sorted"=none
 ON:mg "int"=none
 ES:mg "ValueError"=none
 wH:mg "CLOSED_BAR"=some (.int 4 A.kz)
 cl:∀k,k < 8->Cls K (A.C k)
 wI:mg "Matter"=some (.ref (A.C 0))
 wJ:mg "Change"=some (.ref (A.C 1))
 JL:mg "Mend"=some (.ref (A.C 2))
 Bw:mg "PutOff"=some (.ref (A.C 3))
 ET:mg "Close"=some (.ref (A.C 4))
 OO:mg "Lay"=some (.ref (A.C 5))
 JM:mg "Rest"=some (.ref (A.C 6))
 EU:mg "Point"=some (.ref (A.C 7))
 EV:mg "RANKS"=some (.ref A.tab)
 tb:ZZ P K A.tab
 rk:∀k,k < 8->∃t,di K A.tab (nm k)=some (some (.int k t))
 oz:∀k,k < 8->Meth K (A.C k) "kind" (A.fk k)
 oB:∀k,k < 8->Binds K (A.fkd k) ["self"] []
 OP:∀k,k < 8->Meth K (A.C k) "need" (A.fn k)
 OQ:∀k,k < 8->Binds K (A.fnd k) ["self"] []
 JN:∀k,k < 8->Meth K (A.C k) "told" (A.ft k)
 JO:∀k,k < 8->Binds K (A.ftd k) ["self"] []
 OR:∀k,k < 8->Meth K (A.C k) "rank" A.f_r
 OS:∀k,k < 8->Binds K A.Rg ["self"] []
 aad:Fun K "kind" "Matter.kind" fS A.Vt A.Om
 aae:Fun K "kind" "Change.kind" fU A.Vu A.Oo
 aaf:Fun K "kind" "Mend.kind" iH A.Vv A.Oq
 aag:Fun K "kind" "PutOff.kind" fV A.Vw A.Ot
 aah:Fun K "kind" "Close.kind" gX A.Vx A.Ou
 aai:Fun K "kind" "Lay.kind" jE A.Vy A.Ov
 aaj:Fun K "kind" "Rest.kind" iI A.Vz A.Ow
 aak:Fun K "kind" "Point.kind" gY A.VA A.Ox
 F_r:Fun K "rank" "Motion.rank" fW A.f_r A.Rg
 F_n:Fun K "need" "Motion.need" fX A.f_n A.EL
 aal:Fun K "need" "Close.need" gZ A.VB A.Oy
 F_t:Fun K "told" "Motion.told" fY A.f_t A.Oz
 aam:Fun K "told" "Matter.told" fZ A.VC A.OA
 aan:Fun K "told" "Change.told" f6 A.VD A.OB
 aao:Fun K "told" "Mend.told" iJ A.VE A.OC
 aap:Fun K "told" "PutOff.told" f7 A.VF A.OD
 aaq:Fun K "told" "Point.told" g0 A.VG A.OE
 aar:Fun K "__init__" "Matter.__init__" f9 A.VH A.OF
 aas:Fun K "__init__" "Change.__init__" gb A.VI A.OG
 aat:Fun K "__init__" "Mend.__init__" iK A.VJ A.OH
 aau:Fun K "__init__" "PutOff.__init__" gf A.VL A.OI
 aav:Fun K "__init__" "Point.__init__" g7 A.VM A.OJ
 wK:Mk K (A.C 0) A.VH
 Rh:Binds K A.OF ["self","text"] []
 na0:d0 K (A.C 0) "text"
 wL:Mk K (A.C 1) A.VI
 Ri:Binds K A.OG ["self","edit"] []
 na1:d0 K (A.C 1) "edit"
 JP:Mk K (A.C 2) A.VJ
 VN:Binds K A.OH ["self","edit"] []
 na2:d0 K (A.C 2) "edit"
 Bx:Mk K (A.C 3) A.VL
 VO:Binds K A.OI ["self","sitting"] []
 na3:d0 K (A.C 3) "sitting"
 EW:Mk K (A.C 7) A.VM
 VP:Binds K A.OJ ["self","clause"] []
 na7:d0 K (A.C 7) "clause"
 mkn:∀k,k=4\/k=5\/k=6->MkN K (A.C k)
 Du:mg "Chamber"=some (.ref A.ax)
 aq:Cls K A.ax
 gG:Fun K "__init__" "Chamber.__init__" eX A.cO A.lq
 ja:Binds K A.lq ["self","seats"] []
 Dv:Mk K A.ax A.cO
 gH:Fun K "move" "Chamber.move" eY A.cP A.lu
 jb:Binds K A.lu ["self","told"] []
 sX:Meth K A.ax "move" A.cP
 gI:Fun K "vote" "Chamber.vote" eZ A.cQ A.lx
 jc:Binds K A.lx ["self","ayes","noes"] []
 sY:Meth K A.ax "vote" A.cQ
 gJ:Fun K "drop" "Chamber.drop" fb A.cS A.ly
 jd:Binds K A.ly ["self"] []
 sZ:Meth K A.ax "drop" A.cS
 gK:Fun K "take" "Chamber.take" fg A.cT A.lz
 je:Binds K A.lz ["self","number"] []
 tf:Meth K A.ax "take" A.cT
 fQ:Fun K "state" "Chamber.state" dN A.cC A.jP
 iu:Binds K A.jP ["self"] []
 rq:Meth K A.ax "state" A.cC
 fq:Fun K "motion" "Chamber.motion" dX A.cc A.i6
 dZ:Binds K A.i6 ["self","number"] []
 hG:Meth K A.ax "motion" A.cc
 cU:Fun K "kept_changes" "Chamber.kept_changes" b8 A.bB A.fj
 cV:Binds K A.fj ["self","number"] []
 fL:Meth K A.ax "kept_changes" A.bB
 dE:Fun K "first_text" "Chamber.first_text" cF A.bH A.gj
 dF:Binds K A.gj ["self","number"] []
 gL:Meth K A.ax "first_text" A.bH
 eI:Fun K "pending" "Chamber.pending" cN A.bW A.iz
 eJ:Binds K A.iz ["self"] []
 jf:Meth K A.ax "pending" A.bW
 dG:Fun K "told_aside" "Chamber.told_aside" cG A.bI A.gk
 eK:Binds K A.gk ["self","number"] []
 kS:Meth K A.ax "told_aside" A.bI
 bN:Fun K "require_can_be_made" "Chamber.require_can_be_made" bF A.bg A.dv
 cw:Binds K A.dv ["self","told"] []
 fE:Meth K A.ax "require_can_be_made" A.bg
 cj:Fun K "require_pending" "Chamber.require_pending" bO A.bq A.d4
 ck:Binds K A.d4 ["self"] []
 eu:Meth K A.ax "require_pending" A.bq
 cy:Fun K "require_matter" "Chamber.require_matter" bU A.br A.ei
 cz:Binds K A.ei ["self","number"] []
 eN:Meth K A.ax "require_matter" A.br
 fv:Fun K "decide" "Chamber.decide" dY A.cf A.i7
 fw:Binds K A.i7 ["self","word"] []
 jS:Meth K A.ax "decide" A.cf
 cW:Fun K "end_decision" "Chamber.end_decision" b9 A.bC A.fm
 cX:Binds K A.fm ["self","deed"] []
 fM:Meth K A.ax "end_decision" A.bC
 dO:Fun K "carry_out" "Chamber.carry_out" df A.bK A.gD
 eR:Binds K A.gD ["self","motion"] []
 lK:Meth K A.ax "carry_out" A.bK
 cH:Fun K "lay_on_matter" "Chamber.lay_on_matter" bX A.bx A.eL
 dJ:Binds K A.eL ["self","edit"] []
 iQ:Meth K A.ax "lay_on_matter" A.bx
 cI:Fun K "lay_on_change" "Chamber.lay_on_change" bY A.bz A.eM
 dM:Binds K A.eM ["self","edit"] []
 iR:Meth K A.ax "lay_on_change" A.bz
 dP:Fun K "put_aside" "Chamber.put_aside" dg A.bL A.gF
 dQ:Binds K A.gF ["self","until"] []
 ia:Meth K A.ax "put_aside" A.bL
 jqr:d0 K A.ax "seats"
 jq1:d0 K A.ax "sitting"
 jq5:d0 K A.ax "closed"
 jq2:d0 K A.ax "made"
 jq0:d0 K A.ax "pile"
 jq4:d0 K A.ax "aside"
 jqj:d0 K A.ax "decided"
 jq3:d0 K A.ax "first_texts"
 jq6:d0 K A.ax "edits_kept"
 jqk:d0 K A.ax "rows"
 gM:mg "ChamberError"=some (.ref A.bM)
 Lz:mg "NoFit"=some (.ref A.uk)
 By:mg "Barred"=some (.ref A.sM)
 Bz:mg "NoMatter"=some (.ref A.qH)
 BA:mg "NoChange"=some (.ref A.qI)
 BB:mg "NotLater"=some (.ref A.mD)
 Dw:mg "Nothing"=some (.ref A.pT)
 Dx:mg "TooMany"=some (.ref A.um)
 Dy:mg "NoAside"=some (.ref A.uo)
 F9:mg "NotYet"=some (.ref A.sN)
 va:mg "NoNumber"=some (.ref A.qJ)
 iw:Tn K A.bM
 Ga:FN K A.uk
 jqo:ake K (.ref A.uk) (.ref A.bM)=some true
 yY:FN K A.qH
 jqc:ake K (.ref A.qH) (.ref A.bM)=some true
 yZ:FN K A.qI
 jqd:ake K (.ref A.qI) (.ref A.bM)=some true
 BC:FN K A.pT
 jqg:ake K (.ref A.pT) (.ref A.bM)=some true
 BD:FN K A.um
 jqh:ake K (.ref A.um) (.ref A.bM)=some true
 BE:FN K A.uo
 jqi:ake K (.ref A.uo) (.ref A.bM)=some true
 tj:FN K A.qJ
 jqe:ake K (.ref A.qJ) (.ref A.bM)=some true
 mI:Fun K "__init__" "Barred.__init__" gg A.Bf A.x8
 mJ:Binds K A.x8 ["self","bar"] []
 pV:Em K A.sM A.Bf "bar"
 jql:ake K (.ref A.sM) (.ref A.bM)=some true
 jg:Fun K "__init__" "NotLater.__init__" eB A.u6 A.sO
 lP:Binds K A.sO ["self","sitting"] []
 n6:Em K A.mD A.u6 "sitting"
 jqf:ake K (.ref A.mD) (.ref A.bM)=some true
 mK:Fun K "__init__" "NotYet.__init__" gh A.Bg A.x9
 qO:Binds K A.x9 ["self","sitting"] []
 uv:Em K A.sN A.Bg "sitting"
 jqm:ake K (.ref A.sN) (.ref A.bM)=some true
theorem sl (n:Nat)(h:n<=64:=by decide):n<=gr:=adm h (by decide)
abbrev bl1:Str:=ar " "
def Asc (x:Str):Prop:=∀c∈x.cps.toList,c < 128
theorem Asc.ok {x:Str}(h:Asc x):ako x=true:=by
 unfold ako;rw[Array.all_eq_true];intro i hi;have:=h x.cps[i] (by simp)
 exact decide_eq_true (by omega)
theorem pW {sep:Str}(hs:Asc sep):∀ws:List Str,(∀w∈ws,Asc w)->Asc (si sep ws)
 |[],_=>λc hc=>by
  have:c∈([]:List Nat):=hc;cases this
 |[x],h=>h x fe
 |x::y::r,h=>λc hc=>by
  have hc':c∈((x++sep)++si sep (y::r)).cps.toList:=hc;rw[fH,fH,List.mem_append,List.mem_append]at hc';rcases hc' with (h1 | h1) | h1
  ·exact h x fe c h1
  ·exact hs c h1
  ·exact pW hs (y::r) (λw hw=>h w (ky _ hw)) c h1
structure Sh (n:Nat)(x:Str):Prop where
 asc:Asc x
 len:x.length<=n
structure Ed where
 k:Nat
 at_:Int
 th:Str
def kn:Nat->Str
 | 0=>ar "put"
 | 1=>ar "cut"
 |_=>ar "turn"
def dH (e:Ed):List V:=match e.k with
 | 0=>[.str (kn 0),.int e.at_,.str e.th]
 | 1=>[.str (kn 1),.int e.at_]
 |_=>[.str (kn 2),.int e.at_,.str e.th]
def edD (e:Ed):PyData:=match e.k with
 | 0=>.tuple [.str (kn 0),.int e.at_,.str e.th]
 | 1=>.tuple [.str (kn 1),.int e.at_]
 |_=>.tuple [.str (kn 2),.int e.at_,.str e.th]
structure qP (e:Ed):Prop where
 k3:e.k=0\/e.k=1\/e.k=2
 lo:-1000<=e.at_
 hi:e.at_<=1000
 th:Sh 100000 e.th
def d9 (n:Nat)(e:Ed):Bool:=decide (0<=e.at_) && decide (e.at_ < (n:Int)+(if e.k=0 then 1 else 0))
def bE (xs:List Str)(e:Ed):List Str:=match e.k with
 | 0=>xs.take e.at_.toNat++e.th::xs.drop e.at_.toNat
 | 1=>xs.eraseIdx e.at_.toNat
 |_=>xs.set e.at_.toNat e.th
theorem oE (e:Ed):atI (dH e) 0=some (.str (kn e.k)):=by
 unfold dH;split
 ·rename_i h;rw[h];rfl
 ·rename_i h;rw[h];rfl
 ·rename_i h1 h2;have:kn e.k=kn 2:=by
   unfold kn;split
   ·rename_i h;exact absurd h h1
   ·rename_i h;exact absurd h h2
   ·rfl
  rw[this];rfl
theorem vc (e:Ed):atI (dH e) 1=some (.int e.at_):=by
 unfold dH;split <;> rfl
theorem vd {e:Ed}(h:e.k≠1):atI (dH e) 2=some (.str e.th):=by
 unfold dH;split
 ·rfl
 ·rename_i z;exact absurd z h
 ·rfl
theorem OT (e:Ed){K:bo}{H:Hp}{t:Addr}(h:SqT K H t (dH e)):DV K H (edD e) (.ref t):=by
 unfold dH at h;unfold edD;split
 ·rename_i z;rw[z]at h;unfold DV;exact⟨t,_,rfl,h,by unfold DVs;exact⟨_,_,rfl,by unfold DV;rfl,by unfold DVs;exact⟨_,_,rfl,by unfold DV;rfl,by unfold DVs;exact⟨_,_,rfl,by unfold DV;rfl,by unfold DVs;rfl⟩⟩⟩⟩
 ·rename_i z;rw[z]at h;unfold DV;exact⟨t,_,rfl,h,by unfold DVs;exact⟨_,_,rfl,by unfold DV;rfl,by unfold DVs;exact⟨_,_,rfl,by unfold DV;rfl,by unfold DVs;rfl⟩⟩⟩
 ·rename_i z1 z2;split at h
  ·rename_i z;exact absurd z z1
  ·rename_i z;exact absurd z z2
  ·unfold DV;exact⟨t,_,rfl,h,by unfold DVs;exact⟨_,_,rfl,by unfold DV;rfl,by unfold DVs;exact⟨_,_,rfl,by unfold DV;rfl,by unfold DVs;exact⟨_,_,rfl,by unfold DV;rfl,by unfold DVs;rfl⟩⟩⟩⟩
theorem Dz {i:Int}(h0:-1000<=i)(h1:i<=1000):i.natAbs.log2 < 1920:=by
 have h:i.natAbs < 2 ^ 10:=by omega
 by_cases hz:i.natAbs=0
 ·rw[hz];decide
 ·exact Nat.lt_trans ((Nat.log2_lt hz).mpr h) (by decide)
theorem OU {e:Ed}(o:qP e):(edD e).showable=true/\(edD e).hasDict=false/\(edD e).depth<=60:=by
 have lg:=Dz o.lo o.hi;unfold edD;split <;> simp[PyData.showable,PyData.showableAll,PyData.hasDict,PyData.hasDictAll,akE,aks,lg]
theorem Rj {i:Int}(h0:-1000<=i)(h1:i<=1000):(ar (toString i)).length<=1921:=by
 have h:=int_text_length_le (a:=i) (k:=1920) (by decide) (Dz h0 h1)
 have e:(ar (toString i)).length=(toString i).length:=by first | exact PySem.ofString_length _ | exact ofString_length _
 omega
theorem Sh.rep {n:Nat}{x:Str}(s:Sh n x):(reprText x).length<=10 * n+2:=by
 have h:=StrLaws.reprText_len x λc hc=>Nat.lt_trans (s.asc c hc) (by decide)
 have:=s.len;omega
theorem OV (k:Nat):Sh 4 (kn k):=by
 unfold kn;split <;> exact⟨by unfold Asc;trivial,by trivial⟩
theorem Rk {e:Ed}(o:qP e):(edD e).shown.length<=1100000:=by
 have a:=(OV 0).rep;have b:=(OV 1).rep;have c:=(OV 2).rep;have d:=o.th.rep;have i:=Rj o.lo o.hi;unfold edD;split
 ·have h:=tupleText_len_le [reprText (kn 0),ar (toString e.at_),reprText e.th];simp only[km,akD,List.sum_cons,List.sum_nil,aj3,alu]at h;show (tupleText [reprText (kn 0),ar (toString e.at_),reprText e.th]).length<=_;omega
 ·have h:=tupleText_len_le [reprText (kn 1),ar (toString e.at_)];simp only[km,akD,List.sum_cons,List.sum_nil,aj3,alu]at h;show (tupleText [reprText (kn 1),ar (toString e.at_)]).length<=_;omega
 ·have h:=tupleText_len_le [reprText (kn 2),ar (toString e.at_),reprText e.th];simp only[km,akD,List.sum_cons,List.sum_nil,aj3,alu]at h;show (tupleText [reprText (kn 2),ar (toString e.at_),reprText e.th]).length<=_;omega
theorem yi {e:Ed}(o:qP e):(V.str (kn e.k)=V.str (ar "put"))↔e.k=0:=by
 rcases o.k3 with h | h | h <;> rw[h] <;> trivial
theorem ve {e:Ed}(o:qP e):(V.str (kn e.k)=V.str (ar "cut"))↔e.k=1:=by
 rcases o.k3 with h | h | h <;> rw[h] <;> trivial
theorem LA {e:Ed}(o:qP e):(V.str (kn e.k)=V.str (ar "turn"))↔e.k=2:=by
 rcases o.k3 with h | h | h <;> rw[h] <;> trivial
def OW (K:bo):Sp:=λvs H Q _=>∃(a t:Addr) (xs:List V) (e:Ed),vs=[.ref a,.ref t]/\SqL K H a xs/\SqT K H t (dH e)/\qP e/\Q (.bl (d9 xs.length e)) H
def aaw (A:Adr)(K:bo):Sp:=λvs H Q E=>∃(a t:Addr) (xs:List V) (e:Ed),vs=[.ref a,.ref t]/\SqL K H a xs/\SqT K H t (dH e)/\qP e/\(d9 xs.length e=true->Q .non H)/\(d9 xs.length e=false->E (.ref A.uk) none H)
def VQ (A:Adr)(K:bo):Sp:=λvs H Q E=>∃(a t:Addr) (xs:List Str) (e:Ed),vs=[.ref a,.ref t]/\SqL K H a (xs.map V.str)/\xs.length<=1000/\SqT K H t (dH e)/\qP e /\
 (d9 xs.length e=true->∀p,H p=none->Q (.ref p) (upd H p (.lst ((bE xs e).map V.str))))/\(d9 xs.length e=false->E (.ref A.uk) none H)
theorem BF {n:Nat}{e:Ed}:d9 n e=true↔0<=e.at_/\e.at_ < (n:Int)+(if e.k=0 then 1 else 0):=by
 unfold d9;rw[akG,decide_eq_true_iff,decide_eq_true_iff]
section
variable{P:sr}{w:World}{K:bo}{mg:Str->Option Value}{base:Heap}{A:Adr}
theorem OX {H H':Hp}{t:Addr}{xs:List V}(s:bu H H')(h:SqT K H t xs):SqT K H' t xs:=by
 rcases h with (h | ⟨o,h⟩) | h
 ·exact .inl (.inl (s _ _ h))
 ·exact .inl (.inr ⟨o,s _ _ h⟩)
 ·exact .inr h
theorem Rm (T:Txt w.params K mg A):a7 P w K mg base CX0 1 A.fits A.EA ["things","edit"] (OW K):=by
 refine T.JI.ok Ew (λvs H Q E h=>?_) (λcdv A' outer s H vs Q E hr h=>?_)
 ·obtain⟨a,t,xs,e,rfl,_⟩:=h;rfl
 ·obtain⟨a,t,xs,e,rfl,ha,ht,o,q⟩:=h;refine⟨_,(ai (a4 (i:=2) Ew.nd rfl (wt rfl) (cD cM (by rfl) T.n5 jC (aa (pv 0) af)))
 (ai (a9 (az bt (aS aU (pv 1) ah (λ_ _=>rfl)) ao (aJ _))
 (aj (a4 (i:=2) Ew.nd rfl (wt rfl) (bc eh (pv 2) ah)))
 aC)
 (aj (aG (AE vN sy ah (aS aU (pv 1) ah (λ_ _=>rfl)) (pv 2)))))),?_⟩
  try dsimp only[bG]
  refine⟨_,rfl,a,xs,rfl,.inl ha,?_⟩;refine ixv rfl ht (oE e) ⟨rfl,_,rfl,fG (λz=>?_) (λz=>?_)⟩
  ·have hk:e.k=0:=(yi o).mp (of_decide_eq_true z);refine⟨_,rfl,_,_,rfl,rfl,?_⟩;unfold d9 at q;rw[if_pos hk]at q;refine ixv rfl ht (vc e) ⟨_,_,rfl,rfl,_,rfl,fG (λz1=>?_) (λz1=>?_)⟩
   ·have h1:0<=e.at_:=of_decide_eq_true z1;rw[decide_eq_true h1,Bool.true_and]at q;exact⟨_,rfl,_,_,rfl,rfl,q⟩
   ·have h1:¬0<=e.at_:=λy=>z1 (decide_eq_true y)
    rw[decide_eq_false h1,Bool.false_and]at q;exact q
  ·have hk:¬e.k=0:=λy=>z (decide_eq_true ((yi o).mpr y))
   unfold d9 at q;rw[if_neg hk,Int.add_zero]at q;refine ixv rfl ht (vc e) ⟨_,_,rfl,rfl,_,rfl,fG (λz1=>?_) (λz1=>?_)⟩
   ·have h1:0<=e.at_:=of_decide_eq_true z1;rw[decide_eq_true h1,Bool.true_and]at q;exact⟨_,rfl,_,_,rfl,rfl,q⟩
   ·have h1:¬0<=e.at_:=λy=>z1 (decide_eq_true y)
    rw[decide_eq_false h1,Bool.false_and]at q;exact q
theorem mL (T:Txt w.params K mg A):a7 P w K mg base (CXX P w) 2 A.sJ A.mC ["things","edit"] (aaw A K):=by
 refine T.ij.okX A8 (λvs H Q E h=>?_) (λcdv A' outer s H vs Q E hr h=>?_)
 ·obtain⟨a,t,xs,e,rfl,_⟩:=h;rfl
 ·obtain⟨a,t,xs,e,rfl,ha,ht,o,q1,q2⟩:=h;have hgd:=hr.gd;have jh:=hr.units;refine⟨_,(bw (gA (sv (oj (aX (Rm T) hr rfl T.OL T.JI.kp T.OK .nil a5 (aa (pv 0) (aa (pv 1) af)))))
 (bw (iF T.Ga rfl rfl T.Lz (aa (Z3 hgd jh (pv 1)) af)))
 (uM aC))),?_⟩
  try dsimp only[bG]
  refine⟨_,rfl,_,rfl,a,t,xs,e,rfl,ha,ht,o,_,rfl,?_⟩;cases hf:d9 xs.length e with
  |true=>exact bZ (q1 hf)
  |false =>
   refine aQ λGq gq=>?_
   obtain⟨s1,s2,s3⟩:=OU o;have s4:=Rk o;refine gq ?_;refine dW ⟨_,rfl,t,edD e,rfl,OT e ht,s1,s2,s3,adm (Nat.add_le_add_right s4 _) (by trivial),λz=>?_⟩
   exact⟨(sl 1),q2 hf⟩
theorem LB (T:Txt w.params K mg A):a7 P w K mg base (CXX P w) 3 A.laid A.EB ["things","edit"] (VQ A K):=by
 refine T.EM.okX Au (λvs H Q E h=>?_) (λcdv A' outer s H vs Q E hr h=>?_)
 ·obtain⟨a,t,xs,e,rfl,_⟩:=h;rfl
 ·obtain⟨a,t,xs,e,rfl,ha,hz,ht,o,q1,q2⟩:=h;refine⟨_,(bb (iY (vZ (mL T) hr rfl T.kB T.ij.kp T.kA (pax (aa (pv 0) (aa (pv 1) af)))))
 (bb (psx (a4 (i:=2) Au.nd rfl (wt rfl) (aS aU (pv 1) ah (λ_ _=>rfl))))
 (bb (psx (a4 (i:=3) Au.nd rfl (wt rfl) (aS aU (pv 1) ah (λ_ _=>rfl))))
 (bb (psx (a4 (i:=4) Au.nd rfl (wt rfl) (cE cB (by rfl) T.i9 gU (aa (pv 0) af))))
 (bb (psx (a9 (az bt (pv 2) ao (aJ _))
 (aj (bJ (gw rf PySem.F.slot_list_insert PySem.F.type_list_insert Mh (pv 4) (aa (pv 3) (aa (aS aU (pv 1) ah (λ_ _=>rfl)) af)))))
 (aj (a9 (az bt (pv 2) ao (aJ _))
 (aj (bJ (gw rf PySem.F.slot_list_pop PySem.F.type_list_pop NO (pv 4) (aa (pv 3) af))))
 (aj (AD (aS aU (pv 1) ah (λ_ _=>rfl)) (IV (pv 4) (pv 3) set_list)))))))
 (bw (psx (aG (pv 4))))))))),?_⟩
  try dsimp only[bG]
  refine⟨_,rfl,_,rfl,a,t,_,e,rfl,ha,ht,o,λhf=>?_,λhf=>q2 (by rw[ba]at hf;exact hf)⟩
  refine aQ λGq gq=>?_
  rw[ba]at hf;obtain⟨f0,f1⟩:=BF.mp hf;have q:=q1 hf;have lim:(1001:Nat) < gr:=by decide
  obtain⟨n,hn⟩:∃n:Nat,e.at_=(n:Int):=⟨e.at_.toNat,by omega⟩
  refine gq ?_;refine ixv rfl ht (oE e) ?_;refine ixv rfl ht (vc e) ?_;refine⟨_,rfl,a,_,rfl,.inl ha,λp hp=>?_⟩
  have sp:bu H (upd H p (.lst (xs.map V.str))):=aB hp;have ht':=OX sp ht;have q:=q p hp;rw[hn];rw[hn]at f1;refine⟨_,rfl,rfl,_,rfl,fG (λz=>?_) (λz=>?_)⟩
  ·have hk:e.k=0:=(yi o).mp (of_decide_eq_true z);rw[if_pos hk]at f1;refine⟨_,rfl,.inl ⟨rfl,_,SqL.of ae⟩,_,rfl,ixv rfl ht' (vd (by omega)) ⟨p,_,_,n,_,rfl,rfl,rfl,ae,(by rw[ba];omega),(by rw[ba];omega),?_⟩⟩
   rw[nO];refine⟨_,rfl,?_⟩;have e1:(bE xs e).map V.str=(xs.map V.str).take n++V.str e.th::(xs.map V.str).drop n:=by
    unfold bE;rw[hk,hn];simp
   rw[e1]at q;exact q
  ·have hk0:¬e.k=0:=λy=>z (decide_eq_true ((yi o).mpr y))
   rw[if_neg hk0,Int.add_zero]at f1;have hlt:n < xs.length:=by omega
   refine⟨_,rfl,rfl,_,rfl,fG (λz2=>?_) (λz2=>?_)⟩
   ·have hk:e.k=1:=(ve o).mp (of_decide_eq_true z2);refine⟨_,rfl,.inl ⟨rfl,_,SqL.of ae⟩,_,rfl,p,_,(n:Int),n,_,rfl,rfl,ae,by omega,by omega,?_,(by rw[wa (by rw[ba];exact hlt)]),?_⟩
    ·rw[ba];exact(D8 (by unfold ixN;rw[if_pos (by omega),if_pos (by omega)];rfl)).1
    ·rw[nO];refine⟨_,rfl,?_⟩;have e1:(bE xs e).map V.str=(xs.map V.str).eraseIdx n:=by
      unfold bE;rw[hk,hn];exact C6 V.str xs _
     rw[e1]at q;exact q
   ·have hk1:¬e.k=1:=λy=>z2 (decide_eq_true ((ve o).mpr y))
    have hk:e.k=2:=by have:=o.k3;omega
    refine ixv rfl ht' (vd (by omega)) ⟨_,rfl,_,rfl,p,_,(n:Int),n,rfl,rfl,ae,?_,?_⟩
    ·rw[ba];unfold ixN;rw[if_pos (by omega),if_pos (by omega)];rfl
    ·rw[nO];refine⟨_,rfl,?_⟩;have e1:(bE xs e).map V.str=(xs.map V.str).set n (V.str e.th):=by
      unfold bE;rw[hk,hn];simp[List.map_set]
     rw[e1]at q;exact q
end
mutual
theorem eqv_refl:∀d:PyData,d.canLay0=true->akR d d=true
 | .none,_=>by simp[akR]
 | .bool _,_=>by simp[akR]
 | .int _,_=>by simp[akR]
 | .str _,_=>by simp[akR]
 | .list xs,h=>by simp only[akR];exact eqvAll_refl xs (by simpa [akm] using h)
 | .tuple xs,h=>by simp only[akR];exact eqvAll_refl xs (by simpa [akm] using h)
 | .dict _,h=>by simp[akm]at h
theorem eqvAll_refl:∀xs:List PyData,aj1 xs=true->akQ xs xs=true
 |[],_=>by simp[akQ]
 |x::xs,h=>by
  have h':x.canLay0=true/\aj1 xs=true:=by simpa [aj1] using h
  simp only[akQ,eqv_refl x h'.1,eqvAll_refl xs h'.2,akM]
end
theorem y6:∀k,k < 8->ako (nm k)=true
 | 0,_=>by trivial
 | 1,_=>by trivial
 | 2,_=>by trivial
 | 3,_=>by trivial
 | 4,_=>by trivial
 | 5,_=>by trivial
 | 6,_=>by trivial
 | 7,_=>by trivial
 |n+8,h=>absurd h (by omega)
def nd (k:Nat):Str:=if k=4 then ar "two thirds" else ar "more"
def rowOf (k:Nat)(v:V):List V:=match k with
 | 4=>[.str (nm 4)]
 | 5=>[.str (nm 5)]
 | 6=>[.str (nm 6)]
 |k=>[.str (nm k),v]
def pX (k:Nat)(v:V):List (Str×V):=match k with
 | 0=>[(ar "text",v)]
 | 1=>[(ar "edit",v)]
 | 2=>[(ar "edit",v)]
 | 3=>[(ar "sitting",v)]
 | 4=>[]
 | 5=>[]
 | 6=>[]
 |_=>[(ar "clause",v)]
theorem LC {m:Str}(h:m≠ar "text"/\m≠ar "edit"/\m≠ar "sitting"/\m≠ar "clause")(k:Nat)(v:V):(pX k v).lookup m=none:=by
 obtain⟨h1,h2,h3,h4⟩:=h;have b1:(m == ar "text")=false:=beq_eq_false_iff_ne.mpr h1;have b2:(m == ar "edit")=false:=beq_eq_false_iff_ne.mpr h2;have b3:(m == ar "sitting")=false:=beq_eq_false_iff_ne.mpr h3;have b4:(m == ar "clause")=false:=beq_eq_false_iff_ne.mpr h4;unfold pX;split <;> simp[List.lookup_cons,b1,b2,b3,b4]
theorem lQ (k:Nat)(v:V):(pX k v).lookup (ar "kind")=none:=LC (by trivial) k v
theorem Rn (k:Nat)(v:V):(pX k v).lookup (ar "rank")=none:=LC (by trivial) k v
theorem Ro (k:Nat)(v:V):(pX k v).lookup (ar "need")=none:=LC (by trivial) k v
theorem LD (k:Nat)(v:V):(pX k v).lookup (ar "told")=none:=LC (by trivial) k v
def gu (k:Nat):Sp:=λvs H Q _=>∃m:Addr,vs=[.ref m]/\Q (.str (nm k)) H
def OY (A:Adr):Sp:=λvs H Q _=>∃(m:Addr) (k:Nat) (dx:Addr) (fs:List (Str×V)),k < 8/\vs=[.ref m]/\H m=some (.ins (A.C k) dx fs)/\fs.lookup (ar "kind")=none/\Q (.int k) H
def EX (k:Nat):Sp:=λvs H Q _=>∃m:Addr,vs=[.ref m]/\Q (.str (nd k)) H
def LF (A:Adr):Sp:=λvs H Q _=>∃(m:Addr) (k:Nat) (dx:Addr) (fs:List (Str×V)),k < 8/\vs=[.ref m]/\H m=some (.ins (A.C k) dx fs)/\fs.lookup (ar "kind")=none/\∀p,H p=none->Q (.ref p) (upd H p (.tup [.str (nm k)]))
def Ay (A:Adr)(k:Nat)(a:Str):Sp:=λvs H Q _=>∃(m dx:Addr) (fs:List (Str×V)) (v:V),vs=[.ref m]/\H m=some (.ins (A.C k) dx fs)/\fs.lookup (ar "kind")=none/\fs.lookup a=some v/\∀p,H p=none->Q (.ref p) (upd H p (.tup [.str (nm k),v]))
def JQ (A:Adr)(k:Nat):Sp:=λvs H Q _=>1<=k/\∃(m dx:Addr) (v:V),vs=[.ref m]/\H m=some (.ins (A.C k) dx (pX k v))/\∀p,H p=none->Q (.ref p) (upd H p (.tup (rowOf k v)))
def EY (A:Adr)(k:Nat):Sp:=λvs H Q _=>∃(m dx:Addr) (v:V),vs=[.ref m,v]/\H m=some (.ins (A.C k) dx [])/\Q .non (upd H m (.ins (A.C k) dx (pX k v)))
def LG (A:Adr)(K:bo):Sp:=λvs H Q _=>∃(m dx L:Addr) (xs:List V),vs=[.ref m]/\H m=some (.ins (A.C 0) dx (pX 0 (.ref L)))/\SqL K H L xs/\∀p q,H p=none->H q=none->p≠q->Q (.ref q) (upd (upd H p (.lst xs)) q (.tup [.str (nm 0),.ref p]))
def Rp (A:Adr)(K:bo):Sp:=λvs H Q _=>∃(m dx L:Addr) (xs:List V),vs=[.ref m,.ref L]/\H m=some (.ins (A.C 0) dx [])/\SqL K H L xs/\∀p,H p=none->Q .non (upd (upd H p (.lst xs)) m (.ins (A.C 0) dx (pX 0 (.ref p))))
def LH (A:Adr):Sp:=λvs H Q _=>∃(t:Addr) (k:Nat) (v:V),1<=k/\k < 8/\vs=[.ref t]/\H t=some (.tup (rowOf k v))/\∀m H',bu H H'->H m=none->(∃dx,H' m=some (.ins (A.C k) dx (pX k v)))->Q (.ref m) H'
def Gb (A:Adr)(K:bo):Sp:=λvs H Q _=>∃(t L:Addr) (xs:List V),vs=[.ref t]/\H t=some (.tup [.str (nm 0),.ref L])/\SqL K H L xs /\
 ∀m p H',bu H H'->H m=none->H p=none->H' p=some (.lst xs)->(∃dx,H' m=some (.ins (A.C 0) dx (pX 0 (.ref p))))->Q (.ref m) H'
section
variable{P:sr}{w:World}{K:bo}{mg:Str->Option Value}{base:Heap}{A:Adr}
theorem BG (T:Txt w.params K mg A):a7 P w K mg base CX0 1 A.Vt A.Om ["self"] (gu 0):=by
 refine T.aad.ok AU (λvs H Q E h=>?_) (λcdv A' outer s H vs Q E hr h=>?_)
 ·obtain⟨m,rfl,_⟩:=h;rfl
 ·obtain⟨m,rfl,q⟩:=h;exact⟨_,(aj (aG ao)),q⟩
theorem BH (T:Txt w.params K mg A):a7 P w K mg base CX0 1 A.Vu A.Oo ["self"] (gu 1):=by
 refine T.aae.ok AV (λvs H Q E h=>?_) (λcdv A' outer s H vs Q E hr h=>?_)
 ·obtain⟨m,rfl,_⟩:=h;rfl
 ·obtain⟨m,rfl,q⟩:=h;exact⟨_,(aj (aG ao)),q⟩
theorem EZ (T:Txt w.params K mg A):a7 P w K mg base CX0 1 A.Vv A.Oq ["self"] (gu 2):=by
 refine T.aaf.ok Er (λvs H Q E h=>?_) (λcdv A' outer s H vs Q E hr h=>?_)
 ·obtain⟨m,rfl,_⟩:=h;rfl
 ·obtain⟨m,rfl,q⟩:=h;exact⟨_,(aj (aG ao)),q⟩
theorem BI (T:Txt w.params K mg A):a7 P w K mg base CX0 1 A.Vw A.Ot ["self"] (gu 3):=by
 refine T.aag.ok AW (λvs H Q E h=>?_) (λcdv A' outer s H vs Q E hr h=>?_)
 ·obtain⟨m,rfl,_⟩:=h;rfl
 ·obtain⟨m,rfl,q⟩:=h;exact⟨_,(aj (aG ao)),q⟩
theorem CC (T:Txt w.params K mg A):a7 P w K mg base CX0 1 A.Vx A.Ou ["self"] (gu 4):=by
 refine T.aah.ok Cv (λvs H Q E h=>?_) (λcdv A' outer s H vs Q E hr h=>?_)
 ·obtain⟨m,rfl,_⟩:=h;rfl
 ·obtain⟨m,rfl,q⟩:=h;exact⟨_,(aj (aG ao)),q⟩
theorem Gd (T:Txt w.params K mg A):a7 P w K mg base CX0 1 A.Vy A.Ov ["self"] (gu 5):=by
 refine T.aai.ok FV (λvs H Q E h=>?_) (λcdv A' outer s H vs Q E hr h=>?_)
 ·obtain⟨m,rfl,_⟩:=h;rfl
 ·obtain⟨m,rfl,q⟩:=h;exact⟨_,(aj (aG ao)),q⟩
theorem E1 (T:Txt w.params K mg A):a7 P w K mg base CX0 1 A.Vz A.Ow ["self"] (gu 6):=by
 refine T.aaj.ok Es (λvs H Q E h=>?_) (λcdv A' outer s H vs Q E hr h=>?_)
 ·obtain⟨m,rfl,_⟩:=h;rfl
 ·obtain⟨m,rfl,q⟩:=h;exact⟨_,(aj (aG ao)),q⟩
theorem CD (T:Txt w.params K mg A):a7 P w K mg base CX0 1 A.VA A.Ox ["self"] (gu 7):=by
 refine T.aak.ok Cw (λvs H Q E h=>?_) (λcdv A' outer s H vs Q E hr h=>?_)
 ·obtain⟨m,rfl,_⟩:=h;rfl
 ·obtain⟨m,rfl,q⟩:=h;exact⟨_,(aj (aG ao)),q⟩
theorem lR (T:Txt w.params K mg A):∀k,k < 8->a7 P w K mg base CX0 1 (A.fk k) (A.fkd k) ["self"] (gu k)
 | 0,_=>BG T
 | 1,_=>BH T
 | 2,_=>EZ T
 | 3,_=>BI T
 | 4,_=>CC T
 | 5,_=>Gd T
 | 6,_=>E1 T
 | 7,_=>CD T
 |n+8,h=>absurd h (by omega)
theorem Rq (T:Txt w.params K mg A):a7 P w K mg base CX0 2 A.f_r A.Rg ["self"] (OY A):=by
 have gN:∀k,k < 8->a7 P w K mg base CX0 1 (A.fk k) (A.fkd k) ["self"] (gu k):=lR T;refine T.F_r.ok AX (λvs H Q E h=>?_) (λcdv A' outer s H vs Q E hr h=>?_)
 ·obtain⟨m,k,dx,fs,_,rfl,_⟩:=h;rfl
 ·obtain⟨m,k,dx,fs,hk,rfl,hm,hl,q⟩:=h;obtain⟨t,ht⟩:=T.rk k hk;refine⟨_,(aj (aG (aS NX (D2 (v:=V.ref A.tab) rfl T.EV rfl) (ib (pv 0) (T.cl k hk) (T.oz k hk) (gN k hk) hr (T.oB k hk) .nil a5) (λ_ _=>rfl)))),?_⟩
  try dsimp only[bG]
  exact⟨_,rfl,m,dx,fs,rfl,hm,hl,m,rfl,A.tab,nm k,.int k,_,rfl,rfl,T.tb,ht,⟨_,rfl⟩,q⟩
theorem yj (T:Txt w.params K mg A):a7 P w K mg base CX0 2 A.f_t A.Oz ["self"] (LF A):=by
 have gN:∀k,k < 8->a7 P w K mg base CX0 1 (A.fk k) (A.fkd k) ["self"] (gu k):=lR T;refine T.F_t.ok AZ (λvs H Q E h=>?_) (λcdv A' outer s H vs Q E hr h=>?_)
 ·obtain⟨m,k,dx,fs,_,rfl,_⟩:=h;rfl
 ·obtain⟨m,k,dx,fs,hk,rfl,hm,hl,q⟩:=h;refine⟨_,(aj (aG (bp (aa (ib (pv 0) (T.cl k hk) (T.oz k hk) (gN k hk) hr (T.oB k hk) .nil a5) af)))),?_⟩
  try dsimp only[bG]
  exact⟨_,rfl,m,dx,fs,rfl,hm,hl,m,rfl,(sl 1),λp hp=>q p hp⟩
theorem BJ (T:Txt w.params K mg A):a7 P w K mg base CX0 2 A.VD A.OB ["self"] (Ay A 1 "edit"):=by
 have gN:∀k,k < 8->a7 P w K mg base CX0 1 (A.fk k) (A.fkd k) ["self"] (gu k):=lR T;refine T.aan.ok A1 (λvs H Q E h=>?_) (λcdv A' outer s H vs Q E hr h=>?_)
 ·obtain⟨m,dx,fs,v,rfl,_⟩:=h;rfl
 ·obtain⟨m,dx,fs,v,rfl,hm,hl,hv,q⟩:=h;obtain⟨k,hk,ek⟩:∃k,k < 8/\k=1:=⟨1,by decide,rfl⟩
  have hm':H m=some (.ins (A.C k) dx fs):=by rw[ek];exact hm
  refine⟨_,(aj (aG (bp (aa (ib (pv 0) (T.cl k hk) (T.oz k hk) (gN k hk) hr (T.oB k hk) .nil a5) (aa (bh (pv 0) rfl) af))))),?_⟩
  try dsimp only[bG]
  subst ek;exact⟨_,rfl,m,dx,fs,rfl,hm,hl,m,rfl,_,rfl,m,A.C 1,dx,fs,v,rfl,hm,T.cl 1 hk,T.na1,hv,(sl 2),λp hp=>q p hp⟩
theorem mM (T:Txt w.params K mg A):a7 P w K mg base CX0 1 A.VI A.OG ["self","edit"] (EY A 1):=by
 refine T.aas.ok A4 (λvs H Q E h=>?_) (λcdv A' outer s H vs Q E hr h=>?_)
 ·obtain⟨m,dx,v,rfl,_⟩:=h;rfl
 ·obtain⟨m,dx,v,rfl,hm,q⟩:=h;refine⟨_,(aj (eU (pv 0) (pv 1) rfl)),?_⟩
  try dsimp only[bG]
  exact⟨_,rfl,_,rfl,m,A.C 1,dx,[],rfl,hm,T.cl 1 (by decide),T.na1,by decide,q⟩
theorem E2 (T:Txt w.params K mg A):a7 P w K mg base CX0 2 A.VE A.OC ["self"] (Ay A 2 "edit"):=by
 have gN:∀k,k < 8->a7 P w K mg base CX0 1 (A.fk k) (A.fkd k) ["self"] (gu k):=lR T;refine T.aao.ok Et (λvs H Q E h=>?_) (λcdv A' outer s H vs Q E hr h=>?_)
 ·obtain⟨m,dx,fs,v,rfl,_⟩:=h;rfl
 ·obtain⟨m,dx,fs,v,rfl,hm,hl,hv,q⟩:=h;obtain⟨k,hk,ek⟩:∃k,k < 8/\k=2:=⟨2,by decide,rfl⟩
  have hm':H m=some (.ins (A.C k) dx fs):=by rw[ek];exact hm
  refine⟨_,(aj (aG (bp (aa (ib (pv 0) (T.cl k hk) (T.oz k hk) (gN k hk) hr (T.oB k hk) .nil a5) (aa (bh (pv 0) rfl) af))))),?_⟩
  try dsimp only[bG]
  subst ek;exact⟨_,rfl,m,dx,fs,rfl,hm,hl,m,rfl,_,rfl,m,A.C 2,dx,fs,v,rfl,hm,T.cl 2 hk,T.na2,hv,(sl 2),λp hp=>q p hp⟩
theorem wM (T:Txt w.params K mg A):a7 P w K mg base CX0 1 A.VJ A.OH ["self","edit"] (EY A 2):=by
 refine T.aat.ok Eu (λvs H Q E h=>?_) (λcdv A' outer s H vs Q E hr h=>?_)
 ·obtain⟨m,dx,v,rfl,_⟩:=h;rfl
 ·obtain⟨m,dx,v,rfl,hm,q⟩:=h;refine⟨_,(aj (eU (pv 0) (pv 1) rfl)),?_⟩
  try dsimp only[bG]
  exact⟨_,rfl,_,rfl,m,A.C 2,dx,[],rfl,hm,T.cl 2 (by decide),T.na2,by decide,q⟩
theorem BK (T:Txt w.params K mg A):a7 P w K mg base CX0 2 A.VF A.OD ["self"] (Ay A 3 "sitting"):=by
 have gN:∀k,k < 8->a7 P w K mg base CX0 1 (A.fk k) (A.fkd k) ["self"] (gu k):=lR T;refine T.aap.ok A2 (λvs H Q E h=>?_) (λcdv A' outer s H vs Q E hr h=>?_)
 ·obtain⟨m,dx,fs,v,rfl,_⟩:=h;rfl
 ·obtain⟨m,dx,fs,v,rfl,hm,hl,hv,q⟩:=h;obtain⟨k,hk,ek⟩:∃k,k < 8/\k=3:=⟨3,by decide,rfl⟩
  have hm':H m=some (.ins (A.C k) dx fs):=by rw[ek];exact hm
  refine⟨_,(aj (aG (bp (aa (ib (pv 0) (T.cl k hk) (T.oz k hk) (gN k hk) hr (T.oB k hk) .nil a5) (aa (bh (pv 0) rfl) af))))),?_⟩
  try dsimp only[bG]
  subst ek;exact⟨_,rfl,m,dx,fs,rfl,hm,hl,m,rfl,_,rfl,m,A.C 3,dx,fs,v,rfl,hm,T.cl 3 hk,T.na3,hv,(sl 2),λp hp=>q p hp⟩
theorem tq (T:Txt w.params K mg A):a7 P w K mg base CX0 1 A.VL A.OI ["self","sitting"] (EY A 3):=by
 refine T.aau.ok A5 (λvs H Q E h=>?_) (λcdv A' outer s H vs Q E hr h=>?_)
 ·obtain⟨m,dx,v,rfl,_⟩:=h;rfl
 ·obtain⟨m,dx,v,rfl,hm,q⟩:=h;refine⟨_,(aj (eU (pv 0) (pv 1) rfl)),?_⟩
  try dsimp only[bG]
  exact⟨_,rfl,_,rfl,m,A.C 3,dx,[],rfl,hm,T.cl 3 (by decide),T.na3,by decide,q⟩
theorem CF (T:Txt w.params K mg A):a7 P w K mg base CX0 2 A.VG A.OE ["self"] (Ay A 7 "clause"):=by
 have gN:∀k,k < 8->a7 P w K mg base CX0 1 (A.fk k) (A.fkd k) ["self"] (gu k):=lR T;refine T.aaq.ok Cz (λvs H Q E h=>?_) (λcdv A' outer s H vs Q E hr h=>?_)
 ·obtain⟨m,dx,fs,v,rfl,_⟩:=h;rfl
 ·obtain⟨m,dx,fs,v,rfl,hm,hl,hv,q⟩:=h;obtain⟨k,hk,ek⟩:∃k,k < 8/\k=7:=⟨7,by decide,rfl⟩
  have hm':H m=some (.ins (A.C k) dx fs):=by rw[ek];exact hm
  refine⟨_,(aj (aG (bp (aa (ib (pv 0) (T.cl k hk) (T.oz k hk) (gN k hk) hr (T.oB k hk) .nil a5) (aa (bh (pv 0) rfl) af))))),?_⟩
  try dsimp only[bG]
  subst ek;exact⟨_,rfl,m,dx,fs,rfl,hm,hl,m,rfl,_,rfl,m,A.C 7,dx,fs,v,rfl,hm,T.cl 7 hk,T.na7,hv,(sl 2),λp hp=>q p hp⟩
theorem uE (T:Txt w.params K mg A):a7 P w K mg base CX0 1 A.VM A.OJ ["self","clause"] (EY A 7):=by
 refine T.aav.ok CA (λvs H Q E h=>?_) (λcdv A' outer s H vs Q E hr h=>?_)
 ·obtain⟨m,dx,v,rfl,_⟩:=h;rfl
 ·obtain⟨m,dx,v,rfl,hm,q⟩:=h;refine⟨_,(aj (eU (pv 0) (pv 1) rfl)),?_⟩
  try dsimp only[bG]
  exact⟨_,rfl,_,rfl,m,A.C 7,dx,[],rfl,hm,T.cl 7 (by decide),T.na7,by decide,q⟩
theorem OZ {k:Nat}{f:Addr}{fd:kj}{ps:List Str}{sp:Sp}(h:∀vs H Q E,¬sp vs H Q E):a7 P w K mg base CX0 k f fd ps sp :=
 ⟨λvs H Q E z=>(h vs H Q E z).elim,λ_ _ _ H _ _ vs Q E _ _ _ _ z=>(h vs H Q E z).elim⟩
theorem vf {k:Nat}(hk:k=4\/k=5\/k=6):∀vs H Q E,JQ A k vs H Q E->LF A vs H Q E:=λvs H Q E ⟨_,m,dx,v,e,hm,q⟩ =>
 ⟨m,k,dx,pX k v,by omega,e,hm,lQ k v,λp hp=>by
  have:=q p hp;rcases hk with rfl | rfl | rfl <;> exact this⟩
theorem qQ (T:Txt w.params K mg A):∀k,k < 8->a7 P w K mg base CX0 2 (A.ft k) (A.ftd k) ["self"] (JQ A k)
 | 0,_=>OZ λvs H Q E h=>absurd h.1 (by decide)
 | 1,_=>(BJ T).imp λvs H Q E ⟨_,m,dx,v,e,hm,q⟩=>⟨m,dx,_,v,e,hm,lQ 1 v,rfl,q⟩
 | 2,_=>(E2 T).imp λvs H Q E ⟨_,m,dx,v,e,hm,q⟩=>⟨m,dx,_,v,e,hm,lQ 2 v,rfl,q⟩
 | 3,_=>(BK T).imp λvs H Q E ⟨_,m,dx,v,e,hm,q⟩=>⟨m,dx,_,v,e,hm,lQ 3 v,rfl,q⟩
 | 4,_=>(yj T).imp (vf (.inl rfl))
 | 5,_=>(yj T).imp (vf (.inr (.inl rfl)))
 | 6,_=>(yj T).imp (vf (.inr (.inr rfl)))
 | 7,_=>(CF T).imp λvs H Q E ⟨_,m,dx,v,e,hm,q⟩=>⟨m,dx,_,v,e,hm,lQ 7 v,rfl,q⟩
 |n+8,h=>absurd h (by omega)
theorem BL (T:Txt w.params K mg A):a7 P w K mg base CX0 1 A.VH A.OF ["self","text"] (Rp A K):=by
 refine T.aar.ok A3 (λvs H Q E h=>?_) (λcdv A' outer s H vs Q E hr h=>?_)
 ·obtain⟨m,dx,L,xs,rfl,_⟩:=h;rfl
 ·obtain⟨m,dx,L,xs,rfl,hm,hL,q⟩:=h;refine⟨_,(aj (eU (pv 0) (cE cB (by rfl) T.i9 gU (aa (pv 1) af)) rfl)),?_⟩
  try dsimp only[bG]
  refine⟨_,rfl,L,xs,rfl,.inl hL,λp hp=>?_⟩
  have nmp:m≠p:=aI hm hp;exact⟨_,rfl,m,A.C 0,dx,[],rfl,(aw nmp).trans hm,T.cl 0 (by decide),T.na0,by decide,q p hp⟩
theorem O0 (T:Txt w.params K mg A):a7 P w K mg base CX0 2 A.VC A.OA ["self"] (LG A K):=by
 have gN:∀k,k < 8->a7 P w K mg base CX0 1 (A.fk k) (A.fkd k) ["self"] (gu k):=lR T;refine T.aam.ok A0 (λvs H Q E h=>?_) (λcdv A' outer s H vs Q E hr h=>?_)
 ·obtain⟨m,dx,L,xs,rfl,_⟩:=h;rfl
 ·obtain⟨m,dx,L,xs,rfl,hm,hL,q⟩:=h;obtain⟨k,hk,ek⟩:∃k,k < 8/\k=0:=⟨0,by decide,rfl⟩
  refine⟨_,(aj (aG (bp (aa (ib (pv 0) (T.cl k hk) (T.oz k hk) (gN k hk) hr (T.oB k hk) .nil a5) (aa (cE cB (by rfl) T.i9 gU (aa (bh (pv 0) rfl) af)) af))))),?_⟩
  try dsimp only[bG]
  subst ek;refine⟨_,rfl,m,dx,_,rfl,hm,lQ 0 _,m,rfl,_,rfl,m,A.C 0,dx,_,_,rfl,hm,T.cl 0 hk,T.na0,rfl,L,xs,rfl,.inl hL,λp hp=>⟨(sl 2),λq' hq'=>?_⟩⟩
  have npq:p≠q':=aI ae hq';have hq:H q'=none:=by rw[aw (akp npq)]at hq';exact hq'
  exact q p q' hp hq npq
theorem E3 (T:Txt w.params K mg A):a7 P w K mg base CX0 3 A.pS A.i4 ["told"] (LH A):=by
 refine T.nX.ok lN (λvs H Q E h=>?_) (λcdv A' outer s H vs Q E hr h=>?_)
 ·obtain⟨t,k,v,_,_,rfl,_⟩:=h;rfl
 ·obtain⟨t,k,v,h1,h8,rfl,ht,q⟩:=h;have ji:=hr;refine⟨_,(ai (a4 (i:=1) lN.nd rfl (wt rfl) (aS aU (pv 0) ah (λ_ _=>rfl)))
 (ai (a9 (az bt (pv 1) ao (aJ _))
 (aj (aG (gS T.wK (BL T) ji rfl T.wI T.Rh .nil a5 (aa (aS aU (pv 0) ah (λ_ _=>rfl)) af))))
 aC)
 (ai (a9 (az bt (pv 1) ao (aJ _))
 (aj (aG (gS T.wL (mM T) ji rfl T.wJ T.Ri .nil a5 (aa (aS aU (pv 0) ah (λ_ _=>rfl)) af))))
 aC)
 (ai (a9 (az bt (pv 1) ao (aJ _))
 (aj (aG (gS T.JP (wM T) ji rfl T.JL T.VN .nil a5 (aa (aS aU (pv 0) ah (λ_ _=>rfl)) af))))
 aC)
 (ai (a9 (az bt (pv 1) ao (aJ _))
 (aj (aG (gS T.Bx (tq T) ji rfl T.Bw T.VO .nil a5 (aa (aS aU (pv 0) ah (λ_ _=>rfl)) af))))
 aC)
 (ai (a9 (az bt (pv 1) ao (aJ _))
 (aj (aG (ph (T.mkn 4 (by decide)) rfl T.ET)))
 aC)
 (ai (a9 (az bt (pv 1) ao (aJ _))
 (aj (aG (ph (T.mkn 5 (by decide)) rfl T.OO)))
 aC)
 (ai (a9 (az bt (pv 1) ao (aJ _))
 (aj (aG (ph (T.mkn 6 (by decide)) rfl T.JM)))
 aC)
 (aj (aG (gS T.EW (uE T) ji rfl T.EU T.VP .nil a5 (aa (aS aU (pv 0) ah (λ_ _=>rfl)) af)))))))))))),?_⟩
  try dsimp only[bG]
  have h0:atI (rowOf k v) 0=some (.str (nm k)):=by
   have hk:k=1\/k=2\/k=3\/k=4\/k=5\/k=6\/k=7:=by omega
   rcases hk with rfl | rfl | rfl | rfl | rfl | rfl | rfl <;> rfl
  refine ixv rfl (SqT.of ht) h0 ?_;have hk:k=1\/k=2\/k=3\/k=4\/k=5\/k=6\/k=7:=by omega
  rcases hk with rfl | rfl | rfl | rfl | rfl | rfl | rfl
  ·refine⟨_,rfl,rfl,tsf (by trivial) ⟨_,rfl,rfl,tst (by trivial) ?_⟩⟩
   exact⟨_,rfl,t,_,_,v,rfl,rfl,SqT.of ht,rfl,λm dx nm ndx ne=>⟨m,dx,v,rfl,ae,rfl,q m _ ((((bu.refl H).own ndx).own nm).own nm) nm ⟨dx,ae⟩⟩⟩
  ·refine⟨_,rfl,rfl,tsf (by trivial) ⟨_,rfl,rfl,tsf (by trivial) ⟨_,rfl,rfl,tst (by trivial) ?_⟩⟩⟩
   exact⟨_,rfl,t,_,_,v,rfl,rfl,SqT.of ht,rfl,λm dx nm ndx ne=>⟨m,dx,v,rfl,ae,rfl,q m _ ((((bu.refl H).own ndx).own nm).own nm) nm ⟨dx,ae⟩⟩⟩
  ·refine⟨_,rfl,rfl,tsf (by trivial) ⟨_,rfl,rfl,tsf (by trivial) ⟨_,rfl,rfl,tsf (by trivial) ⟨_,rfl,rfl,tst (by trivial) ?_⟩⟩⟩⟩
   exact⟨_,rfl,t,_,_,v,rfl,rfl,SqT.of ht,rfl,λm dx nm ndx ne=>⟨m,dx,v,rfl,ae,rfl,q m _ ((((bu.refl H).own ndx).own nm).own nm) nm ⟨dx,ae⟩⟩⟩
  ·refine⟨_,rfl,rfl,tsf (by trivial) ⟨_,rfl,rfl,tsf (by trivial) ⟨_,rfl,rfl,tsf (by trivial) ⟨_,rfl,rfl,tsf (by trivial) ⟨_,rfl,rfl,tst (by trivial) ?_⟩⟩⟩⟩⟩
   exactλm dx nm ndx ne=>q m _ (((bu.refl H).own ndx).own nm) nm ⟨dx,ae⟩
  ·refine⟨_,rfl,rfl,tsf (by trivial) ⟨_,rfl,rfl,tsf (by trivial) ⟨_,rfl,rfl,tsf (by trivial) ⟨_,rfl,rfl,tsf (by trivial) ⟨_,rfl,rfl,tsf (by trivial) ⟨_,rfl,rfl,tst (by trivial) ?_⟩⟩⟩⟩⟩⟩
   exactλm dx nm ndx ne=>q m _ (((bu.refl H).own ndx).own nm) nm ⟨dx,ae⟩
  ·refine⟨_,rfl,rfl,tsf (by trivial) ⟨_,rfl,rfl,tsf (by trivial) ⟨_,rfl,rfl,tsf (by trivial) ⟨_,rfl,rfl,tsf (by trivial) ⟨_,rfl,rfl,tsf (by trivial) ⟨_,rfl,rfl,tsf (by trivial) ⟨_,rfl,rfl,tst (by trivial) ?_⟩⟩⟩⟩⟩⟩⟩
   exactλm dx nm ndx ne=>q m _ (((bu.refl H).own ndx).own nm) nm ⟨dx,ae⟩
  ·refine⟨_,rfl,rfl,tsf (by trivial) ⟨_,rfl,rfl,tsf (by trivial) ⟨_,rfl,rfl,tsf (by trivial) ⟨_,rfl,rfl,tsf (by trivial) ⟨_,rfl,rfl,tsf (by trivial) ⟨_,rfl,rfl,tsf (by trivial) ⟨_,rfl,rfl,tsf (by trivial) ?_⟩⟩⟩⟩⟩⟩⟩
   exact⟨_,rfl,t,_,_,v,rfl,rfl,SqT.of ht,rfl,λm dx nm ndx ne=>⟨m,dx,v,rfl,ae,rfl,q m _ ((((bu.refl H).own ndx).own nm).own nm) nm ⟨dx,ae⟩⟩⟩
theorem CG (T:Txt w.params K mg A):a7 P w K mg base CX0 3 A.pS A.i4 ["told"] (Gb A K):=by
 refine T.nX.ok lN (λvs H Q E h=>?_) (λcdv A' outer s H vs Q E hr h=>?_)
 ·obtain⟨t,L,xs,rfl,_⟩:=h;rfl
 ·obtain⟨t,L,xs,rfl,ht,hL,q⟩:=h;have ji:=hr;refine⟨_,(ai (a4 (i:=1) lN.nd rfl (wt rfl) (aS aU (pv 0) ah (λ_ _=>rfl)))
 (ai (a9 (az bt (pv 1) ao (aJ _))
 (aj (aG (gS T.wK (BL T) ji rfl T.wI T.Rh .nil a5 (aa (aS aU (pv 0) ah (λ_ _=>rfl)) af))))
 aC)
 (ai (a9 (az bt (pv 1) ao (aJ _))
 (aj (aG (gS T.wL (mM T) ji rfl T.wJ T.Ri .nil a5 (aa (aS aU (pv 0) ah (λ_ _=>rfl)) af))))
 aC)
 (ai (a9 (az bt (pv 1) ao (aJ _))
 (aj (aG (gS T.JP (wM T) ji rfl T.JL T.VN .nil a5 (aa (aS aU (pv 0) ah (λ_ _=>rfl)) af))))
 aC)
 (ai (a9 (az bt (pv 1) ao (aJ _))
 (aj (aG (gS T.Bx (tq T) ji rfl T.Bw T.VO .nil a5 (aa (aS aU (pv 0) ah (λ_ _=>rfl)) af))))
 aC)
 (ai (a9 (az bt (pv 1) ao (aJ _))
 (aj (aG (ph (T.mkn 4 (by decide)) rfl T.ET)))
 aC)
 (ai (a9 (az bt (pv 1) ao (aJ _))
 (aj (aG (ph (T.mkn 5 (by decide)) rfl T.OO)))
 aC)
 (ai (a9 (az bt (pv 1) ao (aJ _))
 (aj (aG (ph (T.mkn 6 (by decide)) rfl T.JM)))
 aC)
 (aj (aG (gS T.EW (uE T) ji rfl T.EU T.VP .nil a5 (aa (aS aU (pv 0) ah (λ_ _=>rfl)) af)))))))))))),?_⟩
  try dsimp only[bG]
  refine ixv rfl (SqT.of ht) rfl ?_;refine⟨_,rfl,rfl,tst (by trivial) ?_⟩
  refine⟨_,rfl,t,_,_,.ref L,rfl,rfl,SqT.of ht,rfl,λm dx nm ndx ne=>⟨m,dx,L,xs,rfl,ae,(((bu.refl H).own ndx).own nm).seq hL,λp hp=>⟨rfl,?_⟩⟩⟩
  have s1:bu H (upd (upd H dx (.own m)) m (.ins (A.C 0) dx [])):=((bu.refl H).own ndx).own nm;have npm:p≠m:=λz=>by rw[z,ae]at hp;cases hp
  exact q m p _ ((s1.new hp).own nm) nm (s1.free hp) ((aw npm).trans ae) ⟨dx,ae⟩
end
abbrev Ge:Str:=ar "more"
def mO (n:Str)(a b:Int):Bool:=if a<=b then false else (decide (n=Ge) || decide (2 * b<=a))
def VR:Sp:=λvs H Q _=>∃(n:Str) (a b:Int),vs=[.str n,.int a,.int b]/\Q (.bl (mO n a b)) H
section
variable{P:sr}{w:World}{K:bo}{mg:Str->Option Value}{base:Heap}{A:Adr}
theorem JR (T:Txt w.params K mg A):a7 P w K mg base CX0 1 A.EC A.uW ["need","ayes","noes"] VR:=by
 refine T.ya.ok Jw (λvs H Q E h=>?_) (λcdv A' outer s H vs Q E hr h=>?_)
 ·obtain⟨n,a,b,rfl,_⟩:=h;rfl
 ·obtain⟨n,a,b,rfl,q⟩:=h;refine⟨_,(ai (a9 (az vN (pv 1) (pv 2) (aJ _))
 (aj (aG kK))
 aC)
 (aj (aG (Zv (nP bt (pv 0) ao (aJ _)) (IU (nP S9 (pv 1) (bc xD ah (pv 2)) (aJ _))))))),?_⟩
  try dsimp only[bG]
  refine⟨_,rfl,_,rfl,_,_,rfl,rfl,_,rfl,fG (λe=>?_) (λe=>?_)⟩
  ·have e':a<=b:=of_decide_eq_true e;rw[mO,if_pos e']at q;exact q
  ·have e':¬a<=b:=λz=>e (decide_eq_true z)
   rw[mO,if_neg e']at q;refine⟨_,rfl,rfl,_,rfl,fG (λe2=>?_) (λe2=>?_)⟩
   ·have h2:n=Ge:=by injection of_decide_eq_true e2
    rw[decide_eq_true h2,Bool.true_or]at q;exact q
   ·have h2:¬n=Ge:=λz=>e2 (decide_eq_true (by rw[z]))
    rw[decide_eq_false h2,Bool.false_or]at q;exact⟨_,rfl,_,rfl,_,_,rfl,rfl,.inl ⟨by decide,by decide⟩,_,_,rfl,rfl,q⟩
end
namespace R
abbrev bl1:Str:=ar " "
abbrev em:Str:=ar ""
theorem oF:bl1=⟨#[32]⟩:=by trivial
theorem Tq:em=⟨#[]⟩:=by trivial
def Sign (c:Nat):Prop:=33<=c/\c<=126/\c≠37
instance:DecidablePred Sign:=λc=>by unfold Sign;exact inferInstance
structure oG (x:Str):Prop where
 l1:1<=x.length
 l2:x.length<=20
 sgn:∀c∈x.cps.toList,Sign c
 ns:x≠ar "/"
def Asc (x:Str):Prop:=∀c∈x.cps.toList,c < 128
theorem Asc.ok {x:Str}(h:Asc x):ako x=true:=by
 unfold ako;rw[Array.all_eq_true];intro i hi;have:=h x.cps[i] (by simp)
 exact decide_eq_true (by omega)
theorem oG.asc {x:Str}(w:oG x):Asc x:=λc hc=>by have:=w.sgn c hc;unfold Sign at this;omega
theorem pW {sep:Str}(hs:Asc sep):∀ws:List Str,(∀w∈ws,Asc w)->Asc (si sep ws)
 |[],_=>λc hc=>by
  have:c∈([]:List Nat):=hc;cases this
 |[x],h=>h x fe
 |x::y::r,h=>λc hc=>by
  have hc':c∈((x++sep)++si sep (y::r)).cps.toList:=hc;rw[fH,fH,List.mem_append,List.mem_append]at hc';rcases hc' with (h1 | h1) | h1
  ·exact h x fe c h1
  ·exact hs c h1
  ·exact pW hs (y::r) (λw hw=>h w (ky _ hw)) c h1
abbrev aax:List Str:=[ar "-",ar "put",ar "/a",ar "0",ar "off",ar "//",ar "matter",ar "a"]
theorem O1 {x:Str}(h:decide (1<=x.length/\x.length<=20/\(∀c∈x.cps.toList,Sign c)/\x≠ar "/")=true):oG x:=by
 obtain⟨a,b,c,d⟩:=of_decide_eq_true h;exact⟨a,b,c,d⟩
theorem VS:∀x∈aax,oG x:=by
 intro x hx;simp only[List.mem_cons,List.not_mem_nil,or_false]at hx;rcases hx with rfl | rfl | rfl | rfl | rfl | rfl | rfl | rfl <;> exact O1 (by trivial)
structure Clause (n:Nat)(x:Str)(ws:List Str):Prop where
 eq:x=si bl1 ws
 len:ws.length<=n
 wd:∀w∈ws,oG w
theorem Clause.asc {n:Nat}{x:Str}{ws:List Str}(c:Clause n x ws):Asc x:=by
 rw[c.eq];exact pW (by rw[oF];intro d hd;have:d=32:=(by simpa using hd);omega) ws λw hw=>(c.wd w hw).asc
theorem DA {ws:List Str}(h:∀w∈ws,oG w):(ws.map (·.length)).sum<=ws.length * 20:=StrLaws.sumLen_le ws λw hw=>(h w hw).l2
theorem Clause.size {n:Nat}{x:Str}{ws:List Str}(c:Clause n x ws):x.length<=n * 21:=by
 rw[c.eq,oF];have h1:=ub 32 ws;have h2:=DA c.wd;have h3:=c.len;omega
abbrev sl1:Str:=ar "/"
def num (i:Int):Str:=ar (toString i)
theorem LI {i:Int}(h0:0<=i)(h1:i < 10 ^ 10):(num i).length<=10:=PyProof.Rows.toString_length_le h0 (by decide) h1
theorem LJ {i:Int}(h0:0<=i)(h1:i < 10 ^ 10):i.natAbs.log2 < 1920:=by
 have h:i.natAbs < 2 ^ 34:=by
  have:(10:Int) ^ 10<=2 ^ 34:=by decide
  omega
 by_cases hz:i.natAbs=0
 ·rw[hz];decide
 ·exact Nat.lt_trans ((Nat.log2_lt hz).mpr h) (by decide)
def bj (z:Str):List Str:=if z=em then [] else PySem.Txt.split z bl1
theorem oG.free {x:Str}(w:oG x):32∉x.cps.toList:=λz=>by have:=w.sgn _ z;unfold Sign at this;omega
theorem lS {ws:List Str}(h:∀w∈ws,oG w):bj (si bl1 ws)=ws:=by
 cases ws with
 |nil=>exact if_pos (by rw[Tq];rfl)
 |cons x r =>
  have l:=Cu (c:=32) (akq x r) λw hw=>(h w hw).l1
  have ne:¬si bl1 (x::r)=em:=λe=>by
   rw[oF]at e;rw[e,Tq]at l;exact absurd l (by decide)
  unfold bj;rw[if_neg ne,oF];exact Jm (akq x r) λw hw=>(h w hw).free
inductive d7 where
 |mat (cs:List (List Str))
 |ed (m:Bool) (k:Nat) (i:Int) (ws:List Str)
 |pt (ws:List Str)
 |nums (kd:Str) (ns:List Int)
def kEd (m:Bool):Str:=if m then ar "mend" else ar "change"
def kn:Nat->Str
 | 0=>ar "put"
 | 1=>ar "cut"
 |_=>ar "turn"
def edR (k:Nat)(i:Int)(x:Str):List V:=if k=1 then [.str (kn 1),.int i] else [.str (kn k),.int i,.str x]
def jj:List (Str×Nat):=[(ar "put off",1),(ar "vote",2),(ar "take",1),(ar "close",0),(ar "lay",0),(ar "rest",0),(ar "drop",0)]
structure BM (n:Nat)(ws:List Str):Prop where
 len:ws.length<=n
 wd:∀w∈ws,oG w
def DOk:d7->Prop
 | .mat cs=>cs.length<=12/\∀ws∈cs,BM 12 ws
 | .ed m k i ws=>(k=0\/k=1\/k=2)/\(0<=i/\i < 10 ^ 10)/\BM 12 ws/\(m=true->ws.length=1)
 | .pt ws=>BM 12 ws
 | .nums kd ns=>(kd,ns.length)∈jj/\∀i∈ns,0<=i/\i < 10 ^ 10
def tw (K:bo)(H:Hp):d7->Addr->Prop
 | .mat cs,t=>∃L,SqT K H t [.str (ar "matter"),.ref L]/\SqL K H L ((cs.map (si bl1)).map V.str)
 | .ed m k i ws,t=>∃e,SqT K H t [.str (kEd m),.ref e]/\SqT K H e (edR k i (si bl1 ws))
 | .pt ws,t=>SqT K H t [.str (ar "point"),.str (si bl1 ws)]
 | .nums kd ns,t=>SqT K H t (.str kd::ns.map V.int)
theorem tw.same {K:bo}{H H':Hp}(s:bu H H'):∀ {d:d7} {t:Addr},tw K H d t->tw K H' d t
 | .mat _,_,⟨L,a,b⟩=>⟨L,bR s a,s.seq b⟩
 | .ed _ _ _ _,_,⟨e,a,b⟩=>⟨e,bR s a,bR s b⟩
 | .pt _,_,a=>bR s a
 | .nums _ _,_,a=>bR s a
def jk:d7->Str
 | .mat _=>ar "matter"
 | .ed m _ _ _=>kEd m
 | .pt _=>ar "point"
 | .nums kd _=>kd
def jm:d7->List Str
 | .mat cs=>cs.flatMap λws=>sl1::ws
 | .ed _ k i ws=>kn k::num i::(if k=1 then [] else ws)
 | .pt ws=>ws
 | .nums _ ns=>ns.map num
def tD (d:d7):Str:=si bl1 (jk d::jm d)
theorem VT (k:Nat):(kn k).length<=4:=by
 unfold kn;split <;> trivial
theorem Rr (m:Bool):(kEd m).length<=6:=by cases m <;> trivial
theorem kd_len {kd:Str}{n:Nat}(h:(kd,n)∈jj):kd.length<=7/\n<=2:=by
 simp only[jj,List.mem_cons,List.not_mem_nil,or_false,Prod.mk.injEq]at h;rcases h with ⟨rfl,rfl⟩ | ⟨rfl,rfl⟩ | ⟨rfl,rfl⟩ | ⟨rfl,rfl⟩ | ⟨rfl,rfl⟩ | ⟨rfl,rfl⟩ | ⟨rfl,rfl⟩ <;> trivial
theorem DB {d:d7}(o:DOk d):(jm d).length<=200/\(∀w∈jm d,w.length<=20)/\(jk d).length<=20:=by
 cases d with
 |mat cs =>
  obtain⟨o1,o2⟩:=o;refine⟨?_,λw hw=>?_,by show (ar "matter").length<=20;trivial⟩
  ·show (cs.flatMap λws=>sl1::ws).length<=200
   have:∀l:List (List Str),(∀ws∈l,BM 12 ws)->(l.flatMap λws=>sl1::ws).length<=l.length * 13:=λl=>by
    induction l with
    |nil=>intro _;exact kq _
    |cons x l ih =>
     intro h;have h1:=(h x fe).len;have h2:=ih λw hw=>h w (ky _ hw)
     rw[List.flatMap_cons,me,aj3,aj3];omega
   have:=this cs o2;omega
  ·obtain⟨ws,h1,h2⟩:=List.mem_flatMap.mp hw;rcases List.mem_cons.mp h2 with rfl | h2
   ·trivial
   ·exact((o2 ws h1).wd w h2).l2
 |ed m k i ws =>
  obtain⟨o1,⟨i0,i1⟩,o3,_⟩:=o;have l:=o3.len;refine⟨?_,λw hw=>?_,?_⟩
  ·show (kn k::num i::(if k=1 then [] else ws)).length<=200
   split <;> simp <;> omega
  ·have hw':w∈kn k::num i::(if k=1 then [] else ws):=hw
   rcases List.mem_cons.mp hw' with rfl | hw'
   ·have:=VT k;omega
   ·rcases List.mem_cons.mp hw' with rfl | hw'
    ·have:=LI i0 i1;omega
    ·split at hw'
     ·cases hw'
     ·exact(o3.wd w hw').l2
  ·have:=Rr m;show (kEd m).length<=20;omega
 |pt ws=>exact⟨by have:=o.len;show ws.length<=200;omega,λw hw=>(o.wd w hw).l2,by show (ar "point").length<=20;trivial⟩
 |nums kd ns =>
  obtain⟨o1,o2⟩:=o;have:=kd_len o1;refine⟨by show (ns.map num).length<=200;rw[ba];omega,λw hw=>?_,by show kd.length<=20;omega⟩
  obtain⟨i,hi,rfl⟩:=List.mem_map.mp hw;have:=LI (o2 i hi).1 (o2 i hi).2;omega
def pY:Sp:=λvs H Q _=>∃z,vs=[.str z]/\z.length+2<=gr/\∀p,H p=none->Q (.ref p) (upd H p (.lst ((bj z).map V.str)))
def vg (K:bo):Sp:=λvs H Q _=>∃a ws,vs=[.ref a]/\SqL K H a (ws.map V.str)/\(ws.map (·.length)).sum+ws.length<=16777216/\Q (.str (si bl1 ws)) H
def VU (K:bo):Sp:=λvs H Q _=>∃(L:Addr) (cs:List (List Str)),vs=[.ref L]/\SqL K H L ((cs.map (si bl1)).map V.str)/\DOk (.mat cs)/\∀p H',bu H H'->H p=none->H' p=some (.lst ((jm (.mat cs)).map V.str))->Q (.ref p) H'
def Rt (K:bo):Sp:=λvs H Q _=>∃(t:Addr) (m:Bool) (k:Nat) (i:Int) (ws:List Str),vs=[.ref t]/\SqT K H t (edR k i (si bl1 ws))/\DOk (.ed m k i ws)/\∀p H',bu H H'->H p=none->H' p=some (.lst ((jm (.ed m k i ws)).map V.str))->Q (.ref p) H'
def O2 (K:bo):Sp:=λvs H Q _=>∃(t:Addr) (d:d7),vs=[.ref t]/\tw K H d t/\DOk d/\∀p H',bu H H'->H p=none->H' p=some (.lst ((jm d).map V.str))->Q (.ref p) H'
def E4 (K:bo):Sp:=λvs H Q _=>∃(t:Addr) (d:d7),vs=[.ref t]/\tw K H d t/\DOk d/\∀H',bu H H'->Q (.str (tD d)) H'
theorem ve {k:Nat}(h:k=0\/k=1\/k=2):(V.str (kn k)=V.str (ar "cut"))↔k=1:=by
 rcases h with rfl | rfl | rfl <;> trivial
theorem LK (k:Nat)(i:Int)(x:Str):atI (edR k i x) 0=some (.str (kn k)):=by
 unfold edR;split
 ·rename_i h;rw[h];rfl
 ·rfl
theorem Ru (k:Nat)(i:Int)(x:Str):atI (edR k i x) 1=some (.int i):=by
 unfold edR;split <;> rfl
theorem Rv {k:Nat}(h:k≠1)(i:Int)(x:Str):atI (edR k i x) 2=some (.str x):=by
 unfold edR;rw[if_neg h];rfl
theorem vh {ws:List Str}(o:BM 12 ws):(si bl1 ws).length<=300:=by
 have h1:=ub 32 ws;have h2:=DA o.wd;have h3:=o.len;rw[oF];omega
theorem aay {kd:Str}{n:Nat}(h:(kd,n)∈jj):V.str kd≠V.str (ar "matter")/\V.str kd≠V.str (ar "change")/\V.str kd≠V.str (ar "mend")/\V.str kd≠V.str (ar "point"):=by
 simp only[jj,List.mem_cons,List.not_mem_nil,or_false,Prod.mk.injEq]at h;rcases h with ⟨rfl,rfl⟩ | ⟨rfl,rfl⟩ | ⟨rfl,rfl⟩ | ⟨rfl,rfl⟩ | ⟨rfl,rfl⟩ | ⟨rfl,rfl⟩ | ⟨rfl,rfl⟩ <;> trivial
section
variable{K:bo}
theorem tw.at0 {H:Hp}{d:d7}{t:Addr}(h:tw K H d t):∃xs,SqT K H t xs/\atI xs 0=some (.str (jk d)):=by
 cases d with
 |mat cs=>obtain⟨L,a,b⟩:=h;exact⟨_,a,rfl⟩
 |ed m k i ws=>obtain⟨e,a,b⟩:=h;exact⟨_,a,rfl⟩
 |pt ws=>exact⟨_,h,rfl⟩
 |nums kd ns=>exact⟨_,h,dI (j:=0) rfl⟩
end
section
variable{P:sr}{w:World}{K:bo}{mg:Str->Option Value}{base:Heap}{A:Adr}
theorem wN (T:Txt w.params K mg A):a7 P w K mg base CX0 1 A.pR A.i3 ["words"] (vg K):=by
 refine T.nU.ok Ex (λvs H Q E h=>?_) (λcdv A' outer s H vs Q E hr h=>?_)
 ·obtain⟨a,ws,rfl,_⟩:=h;rfl
 ·obtain⟨a,ws,rfl,hq,hz,k⟩:=h;refine⟨_,(aj (aG (gw alf PySem.F.slot_str_join PySem.F.type_str_join Ee ao (aa (pv 0) af)))),?_⟩
  try dsimp only[bG]
  exact⟨rfl,_,rfl,bl1,a,ws,rfl,rfl,hq,by rw[oF];show _+ws.length * 1<=_;omega,k⟩
theorem kT (T:Txt w.params K mg A):a7 P w K mg base CX0 1 A.words_of A.iP ["clause"] pY:=by
 refine T.iA.ok FW (λvs H Q E h=>?_) (λcdv A' outer s H vs Q E hr h=>?_)
 ·obtain⟨z,rfl,_⟩:=h;rfl
 ·obtain⟨z,rfl,hz,k⟩:=h;refine⟨_,(ai (a9 (az bt (pv 0) ao (aJ _))
 (aj (aG (bQ af)))
 aC)
 (aj (aG (gw alf PySem.F.slot_str_split PySem.F.type_str_split FF (pv 0) (aa ao af))))),?_⟩
  try dsimp only[bG]
  refine⟨_,rfl,rfl,_,rfl,fG (λe=>?_) (λe=>?_)⟩
  ·have e':z=em:=by injection of_decide_eq_true e
   refine⟨akX _,λp hp=>?_⟩
   have:=k p hp;rw[bj,if_pos e']at this;exact this
  ·have e':¬z=em:=λq=>e (decide_eq_true (by rw[q]))
   refine⟨_,rfl,rfl,z,bl1,rfl,rfl,by rw[oF];rfl,hz,λp hp=>?_⟩
   have:=k p hp;rw[bj,if_neg e']at this;exact this
theorem yk (T:Txt w.params K mg A):a7 P w K mg base CX0 2 A.ou A.jM ["text"] (VU K):=by
 refine T.lB.ok jG (λvs H Q E h=>?_) (λcdv A' outer s H vs Q E hr h=>?_)
 ·obtain⟨L,cs,rfl,_⟩:=h;rfl
 ·obtain⟨L,cs,rfl,hL,o,k⟩:=h;refine⟨_,(ai (a4 (i:=1) jG.nd rfl (wt rfl) (bQ af))
 (ai (xC alv rfl (qz (pv 0)) (iW (i:=2) jG.nd rfl (wt rfl))
 (ai (bJ (gw rf aj4 aj5 dn (pv 1) (aa ao af)))
 (aj (bJ (gw rf PySem.F.slot_list_extend PySem.F.type_list_extend C2 (pv 1) (aa (aX (kT T) hr rfl T.jR T.iA.kp T.jQ .nil a5 (aa (pv 2) af)) af))))))
 (aj (aG (pv 1))))),?_⟩
  try dsimp only[bG]
  have lim:gr=16777216:=by decide
  refine⟨akX _,λW hW=>?_⟩
  refine⟨_,rfl,L,rfl,⟨_,(aB hW).seq hL⟩,?_⟩;refine vM (K:=K) (a:=L) (xs:=(cs.map (si bl1)).map V.str) (λi σ H2=>∃v2:Option V,σ=[some (.ref L),some (.ref W),v2]/\bu H H2/\H2 W=some (.lst ((jm (.mat (cs.take i))).map V.str)))
   ⟨_,rfl,aB hW,ae⟩ (λi σ H2 _ ⟨_,_,s2,_⟩=>s2.seq hL) ?_ ?_
  ·rintro i y σ H2 hi ⟨v2,rfl,s2,h2⟩;rw[aj7,aj7]at hi;cases hc:cs[i]? with
   |none=>rw[hc]at hi;cases hi
   |some ws =>
    rw[hc]at hi;obtain rfl:V.str (si bl1 ws)=y:=ajZ hi;have ow:=o.2 ws (akl hc);have hcl:=vh ow;have hil:i < cs.length:=(List.getElem?_eq_some_iff.mp hc).1;have hb:(jm (.mat (cs.take i))).length<=200:=(DB (d:=.mat (cs.take i)) ⟨by rw[akF];have:=o.1;omega,λws hw=>o.2 ws (List.mem_of_mem_take hw)⟩).1
    refine⟨_,rfl,.inl ⟨rfl,_,SqL.of h2⟩,W,_,_,rfl,rfl,h2,(by rw[ba];omega),?_⟩
    refine⟨_,rfl,.inl ⟨rfl,_,SqL.of ae⟩,_,rfl,_,rfl,by omega,λp hp=>?_⟩
    rw[lS ow.wd];have nWp:W≠p:=aI ae hp;have wl:=ow.len;refine⟨W,p,_,_,rfl,rfl,(aw nWp).trans ae,ae,(by rw[me,ba,ba];show _+1+_<=_;omega),?_⟩
    refine⟨_,rfl,((s2.own hW).new hp).own hW,?_⟩;rw[ae,List.take_succ,hc];show some (HO.lst _)=some (HO.lst (((cs.take i++[ws]).flatMap λws=>sl1::ws).map V.str))
    rw[List.flatMap_append];simp[jm]
  ·rintro σ H2 ⟨v2,rfl,s2,h2⟩;rw[ba,ba,alq]at h2;exact⟨_,rfl,k W H2 s2 hW h2⟩
theorem ym (T:Txt w.params K mg A):a7 P w K mg base CX0 2 A.ox A.jN ["edit"] (Rt K):=by
 refine T.lC.ok pE (λvs H Q E h=>?_) (λcdv A' outer s H vs Q E hr h=>?_)
 ·obtain⟨t,m,k,i,ws,rfl,_⟩:=h;rfl
 ·obtain⟨t,m,k,i,ws,rfl,ht,⟨o1,⟨i0,i1⟩,o3,_⟩,q⟩:=h;refine⟨_,(ai (a4 (i:=1) pE.nd rfl (wt rfl) (bQ (aa (aS aU (pv 0) ah (λ_ _=>rfl)) (aa (cE vO (by rfl) T.OM NR (aa (aS aU (pv 0) ah (λ_ _=>rfl)) af)) af))))
 (ai (a9 (az yO (aS aU (pv 0) ah (λ_ _=>rfl)) ao (aJ _))
 (aj (bJ (gw rf PySem.F.slot_list_extend PySem.F.type_list_extend C2 (pv 1) (aa (aX (kT T) hr rfl T.jR T.iA.kp T.jQ .nil a5 (aa (aS aU (pv 0) ah (λ_ _=>rfl)) af)) af))))
 aC)
 (aj (aG (pv 1))))),?_⟩
  try dsimp only[bG]
  have lim:gr=16777216:=by decide
  refine ixv rfl ht (LK k i _) (ixv rfl ht (Ru k i _) ⟨_,rfl,LJ i0 i1,(sl 2),λW hW=>?_⟩)
  have s1:bu H (upd H W (.lst [V.str (kn k),V.str (num i)])):=aB hW;have hcl:=vh o3;refine ixv rfl (bR s1 ht) (LK k i _) ⟨rfl,_,rfl,?_⟩
  by_cases hk:k=1
  ·rw[decide_eq_true ((ve o1).mpr hk)];refine bZ ⟨_,rfl,q W _ s1 hW ?_⟩;show (upd H W (.lst [V.str (kn k),V.str (num i)])) W=some (.lst ((kn k::num i::(if k=1 then [] else ws)).map V.str))
   rw[ae,if_pos hk];rfl
  ·rw[decide_eq_false λz=>hk ((ve o1).mp z)]
   refine dW ⟨_,rfl,.inl ⟨rfl,_,SqL.of ae⟩,ixv rfl (bR s1 ht) (Rv hk i _) ⟨_,rfl,by omega,λp hp=>?_⟩⟩
   rw[lS o3.wd];have nWp:W≠p:=aI ae hp;have wl:=o3.len;refine⟨W,p,_,_,rfl,rfl,(aw nWp).trans ae,ae,(by rw[ba];show 2+_<=_;omega),_,rfl,q W _ ((s1.new hp).own hW) hW ?_⟩
   show (upd (upd (upd H W (.lst [V.str (kn k),V.str (num i)])) p (.lst (ws.map V.str))) W (.lst ([V.str (kn k),V.str (num i)]++ws.map V.str))) W=some (.lst ((kn k::num i::(if k=1 then [] else ws)).map V.str))
   rw[ae,if_neg hk];rfl
theorem zq (T:Txt w.params K mg A):a7 P w K mg base CX0 3 A.qF A.ll ["deed"] (O2 K):=by
 have mP:a7 P w K mg base CX0 2 A.words_of A.iP ["clause"] pY:=(kT T).mono (by decide)
 refine T.mG.ok q8 (λvs H Q E h=>?_) (λcdv A' outer s H vs Q E hr h=>?_)
 ·obtain⟨t,d,rfl,_⟩:=h;rfl
 ·obtain⟨t,d,rfl,hd,o,q⟩:=h;refine⟨_,(ai (a4 (i:=1) q8.nd rfl (wt rfl) (aS aU (pv 0) ah (λ_ _=>rfl)))
 (ai (a9 (az bt (pv 1) ao (aJ _))
 (aj (aG (aX (yk T) hr rfl T.rj T.lB.kp T.rh .nil a5 (aa (aS aU (pv 0) ah (λ_ _=>rfl)) af))))
 aC)
 (ai (a9 (PW.pt (pw_or (az bt (pv 1) ao (aJ _)) (pw_or1 (az bt (pv 1) ao (aJ _)))))
 (aj (aG (aX (ym T) hr rfl T.rm T.lC.kp T.rl .nil a5 (aa (aS aU (pv 0) ah (λ_ _=>rfl)) af))))
 aC)
 (ai (a9 (az bt (pv 1) ao (aJ _))
 (aj (aG (aX mP hr rfl T.jR T.iA.kp T.jQ .nil a5 (aa (aS aU (pv 0) ah (λ_ _=>rfl)) af))))
 aC)
 (aj (aG (An (scope:=mz) wj rfl (US (pf U5 (pv 0) (qB ah) vR)) (λ_ _ _ _ _=>(cE vO (by rfl) T.OM NR (aa (pv 0) af)))))))))),?_⟩
  try dsimp only[bG]
  have lim:gr=16777216:=by decide
  cases d with
  |mat cs =>
   refine aQ λGq gq=>?_
   obtain⟨L,ht,hL⟩:=hd;refine gq ?_;refine ixv rfl ht rfl ?_;refine⟨_,rfl,rfl,tst (decide_eq_true rfl) ?_⟩;exact ixv rfl ht rfl ⟨L,cs,rfl,hL,o,q⟩
  |ed m k i ws =>
   refine aQ λGq gq=>?_
   obtain⟨e,ht,he⟩:=hd;refine gq ?_;refine ixv rfl ht rfl ?_;refine⟨_,rfl,rfl,tsf (decide_eq_false (by cases m <;> trivial)) ?_⟩
   cases m with
   |false =>
    refine⟨_,rfl,rfl,tst (decide_eq_true rfl) ?_⟩;exact ixv rfl ht rfl ⟨e,false,k,i,ws,rfl,he,o,q⟩
   |true =>
    refine⟨_,rfl,rfl,tsf (decide_eq_false (by trivial)) ?_⟩
    refine⟨_,rfl,rfl,tst (decide_eq_true rfl) ?_⟩;exact ixv rfl ht rfl ⟨e,true,k,i,ws,rfl,he,o,q⟩
  |pt ws =>
   have ht:=hd;refine ixv rfl ht rfl ?_;refine⟨_,rfl,rfl,tsf (decide_eq_false (by trivial)) ?_⟩
   refine⟨_,rfl,rfl,tsf (decide_eq_false (by trivial)) ?_⟩
   refine⟨_,rfl,rfl,tsf (decide_eq_false (by trivial)) ?_⟩
   refine⟨_,rfl,rfl,tst (decide_eq_true rfl) ?_⟩;have hcl:=vh o;refine ixv rfl ht rfl ⟨_,rfl,by omega,λp hp=>q p _ (aB hp) hp ?_⟩
   rw[ae,lS o.wd];rfl
  |nums kd ns =>
   refine aQ λGq gq=>?_
   have ht:=hd;obtain⟨o1,o2⟩:=o;obtain⟨n1,n2,n3,n4⟩:=aay o1;have kl:=(kd_len o1).2;refine gq ?_;refine ixv rfl ht (dI (j:=0) rfl) ?_;refine⟨_,rfl,rfl,tsf (decide_eq_false n1) ?_⟩;refine⟨_,rfl,rfl,tsf (decide_eq_false n2) ?_⟩;refine⟨_,rfl,rfl,tsf (decide_eq_false n3) ?_⟩;refine⟨_,rfl,rfl,tsf (decide_eq_false n4) ?_⟩;refine⟨_,rfl,_,rfl,t,_,rfl,ht,λz=>?_,λp hp=>?_⟩
   ·have z1:=z.1;rw[show (1:Int)=((1:Nat):Int) from rfl,HT.vP,aj3]at z1
    omega
   ·rw[show (1:Int)=((1:Nat):Int) from rfl,AK]
    show _;have hs1:bu H (upd H p (.tup (ns.map V.int))):=aB hp;have hpp:(upd H p (.tup (ns.map V.int))) p=some (.tup (ns.map V.int)):=ae;refine⟨p,rfl,⟨_,SqT.of hpp⟩,λD hD=>?_⟩
    have npD:p≠D:=aI hpp hD;refine N8 (K:=K) (a:=p) (xs:=ns.map V.int) (λi ys H3=>ys=(ns.take i).map (λn=>V.str (num n))/\H3=upd (upd H p (.tup (ns.map V.int))) D (.lst ys)) ⟨rfl,rfl⟩ (by rw[ba];omega) ?_ ?_ ?_
    ·rintro i ys H3 hi ⟨rfl,rfl⟩;rw[ba]at hi;exact⟨SqT.of ((aw npD).trans hpp),ae,by rw[ba,akF];omega⟩
    ·rintro i y ys H3 hi ⟨rfl,rfl⟩;rw[aj7]at hi;cases hc:ns[i]? with
     |none=>rw[hc]at hi;cases hi
     |some n =>
      refine aQ λGq gq=>?_
      rw[hc]at hi;obtain rfl:V.int n=y:=ajZ hi;obtain⟨b0,b1⟩:=o2 n (akl hc);refine gq ?_;refine⟨_,rfl,_,rfl,LJ b0 b1,?_⟩;refine ie.mk (by rw[ba];exact(List.getElem?_eq_some_iff.mp hc).1) ae ⟨?_,by rw[nO]⟩
      rw[List.take_succ,hc,kx];rfl
    ·rintro ys H3 ⟨rfl,rfl⟩;rw[ba,alq];refine q D _ (hs1.new hD) (hs1.free hD) ?_;rw[ae];show some (HO.lst _)=some (HO.lst ((ns.map num).map V.str));rw[List.map_map];rfl
theorem qR (T:Txt w.params K mg A):a7 P w K mg base CX0 4 A.mh A.g9 ["deed"] (E4 K):=by
 have tE:a7 P w K mg base CX0 3 A.pR A.i3 ["words"] (vg K):=(wN T).mono (by decide)
 refine T.kR.ok Ey (λvs H Q E h=>?_) (λcdv A' outer s H vs Q E hr h=>?_)
 ·obtain⟨t,d,rfl,_⟩:=h;rfl
 ·obtain⟨t,d,rfl,hd,o,q⟩:=h;refine⟨_,(aj (aG (aX tE hr rfl T.sQ T.nU.kp T.sP .nil a5 (aa (bc vW (bQ (aa (aS aU (pv 0) ah (λ_ _=>rfl)) af)) (aX (zq T) hr rfl T.sT T.mG.kp T.sS .nil a5 (aa (pv 0) af))) af)))),?_⟩
  try dsimp only[bG]
  refine aQ λGq gq=>?_
  have lim:gr=16777216:=by decide
  obtain⟨b1,b2,b3⟩:=DB o;obtain⟨xs,hx,hx0⟩:=hd.at0;refine gq ?_;refine ixv rfl hx hx0 ⟨(sl 1),λp hp=>?_⟩
  refine⟨_,rfl,t,d,rfl,hd.same (aB hp),o,λp2 H2 s2 hn2 h2=>?_⟩
  have hp2:H2 p=some (.lst [V.str (jk d)]):=s2 _ _ ae;refine⟨p,p2,_,_,rfl,rfl,hp2,h2,(by rw[ba];show 1+_<=_;omega),λp3 hp3=>?_⟩
  refine⟨p3,jk d::jm d,rfl,SqL.of (by rw[ae];rfl),?_,q _ (((aB hp).trans s2).new hp3)⟩
  have:=StrLaws.sumLen_le (B:=20) (jk d::jm d) (λw hw=>by
   rcases List.mem_cons.mp hw with rfl | hw
   ·exact b3
   ·exact b2 w hw)
  rw[aj3]at this ⊢;omega
end
end R
inductive Rl where
 |ob | made | au | aH | decided | firsts | kept | rows
 |fA (n:Nat) | gO (n:Nat) | dA (n:Nat)
abbrev Col:=Addr->Option (Nat×Rl)
def d8 (i:Nat)(x:Option (Nat×Rl)):Prop:=∃r,x=some (i,r)
theorem eO {i j:Nat}(n:i≠j)(r:Rl):¬d8 j (some (i,r)):=λ⟨_,e⟩=>by cases e;exact n rfl
theorem aV {i:Nat}:¬d8 i none:=λ⟨_,e⟩=>by cases e
structure Step (W:Option (Nat×Rl)->Prop)(c c':Col)(H H':Hp):Prop where
 nn:¬W none
 keep:∀a v,H a=some v->¬W (c a)->H' a=some v
 there:∀a v,H a=some v->∃v',H' a=some v'
 col:∀a v,H a=some v->¬W (c a)->c' a=c a
section
variable{W W':Option (Nat×Rl)->Prop}{c c1 c2:Col}{H H' H1 H2:Hp}{a:Addr}{o:HO}
theorem Step.refl (n:¬W none):Step W c c H H:=⟨n,λ_ _ h _=>h,λ_ v h=>⟨v,h⟩,λ_ _ _ _=>rfl⟩
theorem Step.same (n:¬W none)(s:bu H H'):Step W c c H H':=⟨n,λa v h _=>s a v h,λa v h=>⟨v,s a v h⟩,λ_ _ _ _=>rfl⟩
theorem Step.mono (f:∀x,W x->W' x)(n:¬W' none)(s:Step W c c1 H H1):Step W' c c1 H H1 where
 nn:=n
 keep:=λa v h m=>s.keep a v h λz=>m (f _ z)
 there:=s.there
 col:=λa v h m=>s.col a v h λz=>m (f _ z)
theorem Step.trans (x:Step W c c1 H H1)(y:Step W c1 c2 H1 H2):Step W c c2 H H2 where
 nn:=x.nn
 keep:=λa v h n=>y.keep a v (x.keep a v h n) (by rw[x.col a v h n];exact n)
 there:=λa v h=>let ⟨v1,h1⟩:=x.there a v h;y.there a v1 h1
 col:=λa v h n=>(y.col a v (x.keep a v h n) (by rw[x.col a v h n];exact n)).trans (x.col a v h n)
theorem Step.upd (n:¬W none)(m:W (c a)):Step W c c H (L2.upd H a o) where
 nn:=n
 keep:=λb v h n=>by rw[aw (λz=>n (by rw[z];exact m))];exact h
 there:=λb v h=>by
  by_cases z:b=a
  ·rw[z];exact⟨o,ae⟩
  ·exact⟨v,by rw[aw z];exact h⟩
 col:=λ_ _ _ _=>rfl
def ay (c:Col)(a:Addr)(x:Option (Nat×Rl)):Col:=λb=>if b=a then x else c b
theorem aW {x:Option (Nat×Rl)}:ay c a x a=x:=if_pos rfl
theorem av {b:Addr}{x:Option (Nat×Rl)}(h:b≠a):ay c a x b=c b:=if_neg h
theorem Step.new {x:Option (Nat×Rl)}(n:¬W none)(h:H a=none):Step W c (ay c a x) H (L2.upd H a o) where
 nn:=n
 keep:=λb v e _=>aB h b v e
 there:=λb v e=>⟨v,aB h b v e⟩
 col:=λb v e _=>av (λz=>by rw[z,h]at e;cases e)
theorem Step.role {x:Option (Nat×Rl)}(n:¬W none)(m:W (c a)):Step W c (ay c a x) H H where
 nn:=n
 keep:=λ_ _ h _=>h
 there:=λ_ v h=>⟨v,h⟩
 col:=λb _ _ n=>av (λz=>n (by rw[z];exact m))
def bS (c:Col)(H:Hp):Col:=λa=>if (H a).isSome then c a else none
theorem bT (h:H a=none):bS c H a=none:=by unfold bS;rw[h];rfl
theorem O3 {v:HO}(h:H a=some v):bS c H a=c a:=by unfold bS;rw[h];rfl
theorem Step.cl (n:¬W none)(s:bu H H'):Step W c (bS c H) H H':=⟨n,λa v h _=>s a v h,λa v h=>⟨v,s a v h⟩,λ_ _ h _=>O3 h⟩
end
def Wr (i:Nat)(p:Rl->Bool)(x:Option (Nat×Rl)):Prop:=∃r,x=some (i,r)/\p r=true
section
variable{i:Nat}{p:Rl->Bool}{r:Rl}{c c':Col}{H H':Hp}{a:Addr}
theorem Wr.nn:¬Wr i p none:=λ⟨_,e,_⟩=>nomatch e
theorem Wr.no (h:p r=false):¬Wr i p (some (i,r)):=λ⟨_,e,z⟩=>by cases e;rw[h]at z;cases z
theorem Wr.yes (e:c a=some (i,r))(h:p r=true):Wr i p (c a):=⟨r,e,h⟩
theorem Step.gP (s:Step (Wr i p) c c' H H'):Step (d8 i) c c' H H':=s.mono (λ_ ⟨r,e,_⟩=>⟨r,e⟩) aV
theorem mQ {o:Addr}{v:HO}(h:p .ob=false)(s:Step (Wr i p) c c' H H')(h1:c o=some (i,.ob))(h2:H o=some v):c' o=some (i,.ob)/\H' o=some v:=by
 have hn:¬Wr i p (c o):=by rw[h1];exact Wr.no h
 exact⟨by rw[s.col o _ h2 hn];exact h1,s.keep _ _ h2 hn⟩
end
inductive Mn where
 |mat (tx:List Str) | chg (e:Ed) | mnd (e:Ed) | off (n:Int) | cls | lay | rst | pnt (z:Str)
def Mn.k:Mn->Nat
 | .mat _=>0 | .chg _=>1 | .mnd _=>2 | .off _=>3 | .cls=>4 | .lay=>5 | .rst=>6 | .pnt _=>7
theorem Mn.k8 (m:Mn):m.k < 8:=by cases m <;> simp only[Mn.k] <;> omega
def TupAt (c:Col)(H:Hp)(t:Addr)(xs:List V):Prop:=c t=none/\Rd H t (.tup xs)
theorem TupAt.sq {K:bo}{c:Col}{H:Hp}{t:Addr}{xs:List V}(h:TupAt c H t xs):SqT K H t xs:=.inl h.2
theorem TupAt.step {W:Option (Nat×Rl)->Prop}{c c':Col}{H H':Hp}{t:Addr}{xs:List V}(s:Step W c c' H H')(h:TupAt c H t xs):TupAt c' H' t xs:=by
 obtain⟨n,h⟩:=h;have hn:¬W (c t):=by rw[n];exact s.nn
 rcases h with h | ⟨o,h⟩
 ·exact⟨by rw[s.col t _ h hn];exact n,.inl (s.keep _ _ h hn)⟩
 ·exact⟨by rw[s.col t _ h hn];exact n,.inr ⟨o,s.keep _ _ h hn⟩⟩
def DC (c:Col)(H:Hp)(p:Addr)(tx:List Str):Prop:=c p=none/\H p=some (.lst (tx.map V.str))
theorem DC.step {W:Option (Nat×Rl)->Prop}{c c':Col}{H H':Hp}{p:Addr}{tx:List Str}(s:Step W c c' H H')(h:DC c H p tx):DC c' H' p tx :=
 have hn:¬W (c p):=by rw[h.1];exact s.nn
 ⟨by rw[s.col p _ h.2 hn];exact h.1,s.keep _ _ h.2 hn⟩
def Mn.Val (c:Col)(H:Hp):Mn->V->Prop
 | .mat tx,v=>∃p,v=.ref p/\DC c H p tx
 | .chg e,v=>∃t,v=.ref t/\TupAt c H t (dH e)
 | .mnd e,v=>∃t,v=.ref t/\TupAt c H t (dH e)
 | .off n,v=>v=.int n
 | .pnt z,v=>v=.str z
 |_,_=>True
theorem Mn.Val.step {W:Option (Nat×Rl)->Prop}{c c':Col}{H H':Hp}(s:Step W c c' H H'):∀ {m:Mn} {v:V},m.Val c H v->m.Val c' H' v
 | .mat _,_,⟨p,e,h⟩=>⟨p,e,h.step s⟩
 | .chg _,_,⟨t,e,h⟩=>⟨t,e,h.step s⟩
 | .mnd _,_,⟨t,e,h⟩=>⟨t,e,h.step s⟩
 | .off _,_,h=>h
 | .pnt _,_,h=>h
 | .cls,_,_=>trivial
 | .lay,_,_=>trivial
 | .rst,_,_=>trivial
def mR (A:Adr)(c:Col)(H:Hp)(m:Mn)(o:Addr):Prop:=c o=none/\∃dx v,H o=some (.ins (A.C m.k) dx (pX m.k v))/\m.Val c H v
theorem mR.step {A:Adr}{W:Option (Nat×Rl)->Prop}{c c':Col}{H H':Hp}{m:Mn}{o:Addr}(s:Step W c c' H H')(h:mR A c H m o):mR A c' H' m o:=by
 obtain⟨n,dx,v,h,hv⟩:=h;have hn:¬W (c o):=by rw[n];exact s.nn
 exact⟨by rw[s.col o _ h hn];exact n,dx,v,s.keep _ _ h hn,hv.step s⟩
structure Ch where
 cK:Int
 aT:Int
 closed:Bool
 made:List Mn
 au:List Nat
 aH:List (Nat×Int×List Nat)
 decided:List (Nat×Str)
 firsts:List (Nat×List Str)
 kept:List (Nat×List Ed)
 rows:List Str
def nV (n:Nat):V:=.int (n:Int)
def aZ (xs:List (Nat×V)):List (Key×V):=xs.map λp=>(kf (p.1:Int),p.2)
inductive bD {α β:Type}(R:α->β->Prop):List α->List β->Prop
 |nil:bD R [] []
 |cons {a b as bs}:R a b->bD R as bs->bD R (a::as) (b::bs)
theorem bD.imp {α β:Type}{R R':α->β->Prop}(f:∀a b,R a b->R' a b):∀ {as:List α} {bs:List β},bD R as bs->bD R' as bs
 |_,_,.nil=>.nil
 |_,_,.cons h t=>.cons (f _ _ h) (t.imp f)
def LstAt (i:Nat)(c:Col)(H:Hp)(r:Rl)(a:Addr)(xs:List V):Prop:=c a=some (i,r)/\H a=some (.lst xs)
def iS (i:Nat)(c:Col)(H:Hp)(r:Rl)(a:Addr)(xs:List (Nat×V)):Prop:=c a=some (i,r)/\H a=some (.dK (aZ xs))
def chF (v0 v1 v2 v3 v4 v5 v6 v7 v8 v9:V):List (Str×V):=[(ar "seats",v0),(ar "sitting",v1),(ar "closed",v2),(ar "made",v3),(ar "pile",v4),(ar "aside",v5),(ar "decided",v6),(ar "first_texts",v7),(ar "edits_kept",v8),(ar "rows",v9)]
abbrev LL (i:Nat)(c:Col)(H:Hp)(x:Nat×Int×List Nat)(v:V):Prop:=∃t p,v=.ref t/\TupAt c H t [.int x.2.1,.ref p]/\LstAt i c H (.fA x.1) p (x.2.2.map nV)
abbrev E5 (i:Nat)(c:Col)(H:Hp)(x:Nat×List Str)(v:V):Prop:=∃p,v=.ref p/\LstAt i c H (.dA x.1) p (x.2.map V.str)
abbrev LM (i:Nat)(c:Col)(H:Hp)(x:Nat×List Ed)(v:V):Prop:=∃p ts,v=.ref p/\LstAt i c H (.gO x.1) p (ts.map V.ref)/\bD (λe t=>TupAt c H t (dH e)) x.2 ts
structure ChX (A:Adr)(i:Nat)(c:Col)(H:Hp)(o:Addr)(st:Ch)(dx aM aP aA aD aF aE aR:Addr)(ms ds:List Addr)(ws fs es:List V):Prop where
 co:c o=some (i,.ob)
 ob:H o=some (.ins A.ax dx (chF (.int st.cK) (.int st.aT) (.bl st.closed) (.ref aM) (.ref aP) (.ref aA) (.ref aD) (.ref aF) (.ref aE) (.ref aR)))
 made:iS i c H .made aM ((aku 1 st.made.length).zip (ms.map V.ref))
 mot:bD (λm p=>mR A c H m p) st.made ms
 au:LstAt i c H .au aP (st.au.map nV)
 aH:iS i c H .aH aA ((st.aH.map (·.1)).zip ws)
 wait:bD (LL i c H) st.aH ws
 dec:LstAt i c H .decided aD (ds.map V.ref)
 mS:bD (λ(x:Nat×Str) t=>TupAt c H t [nV x.1,.str x.2]) st.decided ds
 firsts:iS i c H .firsts aF ((st.firsts.map (·.1)).zip fs)
 first:bD (E5 i c H) st.firsts fs
 jx:iS i c H .kept aE ((st.kept.map (·.1)).zip es)
 kept:bD (LM i c H) st.kept es
 rows:LstAt i c H .rows aR (st.rows.map V.str)
structure eP (A:Adr)(i:Nat)(c:Col)(H:Hp)(o:Addr)(st:Ch):Prop where
 ex:∃(dx aM aP aA aD aF aE aR:Addr) (ms ds:List Addr) (ws fs es:List V),ChX A i c H o st dx aM aP aA aD aF aE aR ms ds ws fs es
theorem LstAt.keep {i:Nat}{W:Option (Nat×Rl)->Prop}{c c':Col}{H H':Hp}{r:Rl}{a:Addr}{xs:List V}(n:¬W (some (i,r)))(s:Step W c c' H H')(h:LstAt i c H r a xs):LstAt i c' H' r a xs:=by
 have hn:¬W (c a):=by rw[h.1];exact n
 exact⟨by rw[s.col a _ h.2 hn];exact h.1,s.keep _ _ h.2 hn⟩
theorem iS.keep {i:Nat}{W:Option (Nat×Rl)->Prop}{c c':Col}{H H':Hp}{r:Rl}{a:Addr}{xs:List (Nat×V)}(n:¬W (some (i,r)))(s:Step W c c' H H')(h:iS i c H r a xs):iS i c' H' r a xs:=by
 have hn:¬W (c a):=by rw[h.1];exact n
 exact⟨by rw[s.col a _ h.2 hn];exact h.1,s.keep _ _ h.2 hn⟩
section
variable{A:Adr}{i:Nat}{p:Rl->Bool}{r:Rl}{c c':Col}{H H':Hp}{a o:Addr}
theorem LstAt.kp {xs:List V}(h:p r=false)(s:Step (Wr i p) c c' H H')(z:LstAt i c H r a xs):LstAt i c' H' r a xs:=z.keep (Wr.no h) s
theorem iS.kp {xs:List (Nat×V)}(h:p r=false)(s:Step (Wr i p) c c' H H')(z:iS i c H r a xs):iS i c' H' r a xs:=z.keep (Wr.no h) s
theorem bD.imp_mem {α β:Type}{R R':α->β->Prop}:∀ {as:List α} {bs:List β},(∀a∈as,∀b,R a b->R' a b)->bD R as bs->bD R' as bs
 |_,_,_,.nil=>.nil
 |_,_,f,.cons h t=>.cons (f _ fe _ h) (t.imp_mem λa m b=>f a (ky _ m) b)
theorem tG {as:List Mn}{ms:List Addr}{W:Option (Nat×Rl)->Prop}(s:Step W c c' H H')(z:bD (λm p=>mR A c H m p) as ms):bD (λm p=>mR A c' H' m p) as ms:=z.imp λ_ _ y=>y.step s
theorem jn {as:List (Nat×Str)}{ds:List Addr}{W:Option (Nat×Rl)->Prop}(s:Step W c c' H H')(z:bD (λ(x:Nat×Str) t=>TupAt c H t [nV x.1,.str x.2]) as ds):bD (λ(x:Nat×Str) t=>TupAt c' H' t [nV x.1,.str x.2]) as ds:=z.imp λ_ _ y=>y.step s
theorem kU {as:List (Nat×Int×List Nat)}{ws:List V}(h:∀x∈as,p (.fA x.1)=false)(s:Step (Wr i p) c c' H H')(z:bD (LL i c H) as ws):bD (LL i c' H') as ws :=
 z.imp_mem λx m v ⟨t,q,e,z1,z2⟩=>⟨t,q,e,z1.step s,z2.kp (h x m) s⟩
theorem uF {as:List (Nat×List Str)}{ws:List V}(h:∀x∈as,p (.dA x.1)=false)(s:Step (Wr i p) c c' H H')(z:bD (E5 i c H) as ws):bD (E5 i c' H') as ws :=
 z.imp_mem λx m v ⟨q,e,z2⟩=>⟨q,e,z2.kp (h x m) s⟩
theorem wO {as:List (Nat×List Ed)}{ws:List V}(h:∀x∈as,p (.gO x.1)=false)(s:Step (Wr i p) c c' H H')(z:bD (LM i c H) as ws):bD (LM i c' H') as ws :=
 z.imp_mem λx m v ⟨q,ts,e,z2,z3⟩=>⟨q,ts,e,z2.kp (h x m) s,z3.imp λ_ _ y=>y.step s⟩
end
theorem eP.other {A:Adr}{i j:Nat}(n:i≠j){c c':Col}{H H':Hp}{o:Addr}{st:Ch}(s:Step (d8 j) c c' H H')(h:eP A i c H o st):eP A i c' H' o st:=by
 obtain⟨dx,aM,aP,aA,aD,aF,aE,aR,ms,ds,ws,fs,es,h1,h2,h3,h4,h5,h6,h7,h8,h9,h10,h11,h12,h13,h14⟩:=h.ex;have no:=λr=>eO n r
 have hn:¬d8 j (c o):=by rw[h1];exact no _
 refine⟨dx,aM,aP,aA,aD,aF,aE,aR,ms,ds,ws,fs,es,by rw[s.col o _ h2 hn];exact h1,s.keep _ _ h2 hn,h3.keep (no _) s,h4.imp λ_ _ z=>z.step s,h5.keep (no _) s,h6.keep (no _) s,h7.imp ?_,h8.keep (no _) s,h9.imp λ_ _ z=>z.step s,
  h10.keep (no _) s,h11.imp ?_,h12.keep (no _) s,h13.imp ?_,h14.keep (no _) s⟩
 ·rintro x v ⟨t,p,e,z1,z2⟩;exact⟨t,p,e,z1.step s,z2.keep (no _) s⟩
 ·rintro x v ⟨p,e,z⟩;exact⟨p,e,z.keep (no _) s⟩
 ·rintro x v ⟨p,ts,e,z1,z2⟩;exact⟨p,ts,e,z1.keep (no _) s,z2.imp λ_ _ y=>y.step s⟩
section
variable{v0 v1 v2 v3 v4 v5 v6 v7 v8 v9 y:V}
theorem Mr:(chF v0 v1 v2 v3 v4 v5 v6 v7 v8 v9).lookup (ar "seats")=some v0:=by simp only[chF,akI,show (ar "seats" == ar "seats")=true from by trivial]
theorem iT:(chF v0 v1 v2 v3 v4 v5 v6 v7 v8 v9).lookup (ar "sitting")=some v1:=by simp only[chF,akI,show (ar "sitting" == ar "seats")=false from by trivial,show (ar "sitting" == ar "sitting")=true from by trivial]
theorem qS:(chF v0 v1 v2 v3 v4 v5 v6 v7 v8 v9).lookup (ar "closed")=some v2:=by simp only[chF,akI,show (ar "closed" == ar "seats")=false from by trivial,show (ar "closed" == ar "sitting")=false from by trivial,show (ar "closed" == ar "closed")=true from by trivial]
theorem il:(chF v0 v1 v2 v3 v4 v5 v6 v7 v8 v9).lookup (ar "made")=some v3:=by simp only[chF,akI,show (ar "made" == ar "seats")=false from by trivial,show (ar "made" == ar "sitting")=false from by trivial,show (ar "made" == ar "closed")=false from by trivial,show (ar "made" == ar "made")=true from by trivial]
theorem fB:(chF v0 v1 v2 v3 v4 v5 v6 v7 v8 v9).lookup (ar "pile")=some v4:=by simp only[chF,akI,show (ar "pile" == ar "seats")=false from by trivial,show (ar "pile" == ar "sitting")=false from by trivial,show (ar "pile" == ar "closed")=false from by trivial,show (ar "pile" == ar "made")=false from by trivial,show (ar "pile" == ar "pile")=true from by trivial]
theorem jT:(chF v0 v1 v2 v3 v4 v5 v6 v7 v8 v9).lookup (ar "aside")=some v5:=by simp only[chF,akI,show (ar "aside" == ar "seats")=false from by trivial,show (ar "aside" == ar "sitting")=false from by trivial,show (ar "aside" == ar "closed")=false from by trivial,show (ar "aside" == ar "made")=false from by trivial,show (ar "aside" == ar "pile")=false from by trivial,show (ar "aside" == ar "aside")=true from by trivial]
theorem y7:(chF v0 v1 v2 v3 v4 v5 v6 v7 v8 v9).lookup (ar "decided")=some v6:=by simp only[chF,akI,show (ar "decided" == ar "seats")=false from by trivial,show (ar "decided" == ar "sitting")=false from by trivial,show (ar "decided" == ar "closed")=false from by trivial,show (ar "decided" == ar "made")=false from by trivial,show (ar "decided" == ar "pile")=false from by trivial,show (ar "decided" == ar "aside")=false from by trivial,show (ar "decided" == ar "decided")=true from by trivial]
theorem lE:(chF v0 v1 v2 v3 v4 v5 v6 v7 v8 v9).lookup (ar "first_texts")=some v7:=by simp only[chF,akI,show (ar "first_texts" == ar "seats")=false from by trivial,show (ar "first_texts" == ar "sitting")=false from by trivial,show (ar "first_texts" == ar "closed")=false from by trivial,show (ar "first_texts" == ar "made")=false from by trivial,show (ar "first_texts" == ar "pile")=false from by trivial,show (ar "first_texts" == ar "aside")=false from by trivial,show (ar "first_texts" == ar "decided")=false from by trivial,show (ar "first_texts" == ar "first_texts")=true from by trivial]
theorem mT:(chF v0 v1 v2 v3 v4 v5 v6 v7 v8 v9).lookup (ar "edits_kept")=some v8:=by simp only[chF,akI,show (ar "edits_kept" == ar "seats")=false from by trivial,show (ar "edits_kept" == ar "sitting")=false from by trivial,show (ar "edits_kept" == ar "closed")=false from by trivial,show (ar "edits_kept" == ar "made")=false from by trivial,show (ar "edits_kept" == ar "pile")=false from by trivial,show (ar "edits_kept" == ar "aside")=false from by trivial,show (ar "edits_kept" == ar "decided")=false from by trivial,show (ar "edits_kept" == ar "first_texts")=false from by trivial,show (ar "edits_kept" == ar "edits_kept")=true from by trivial]
theorem wQ:(chF v0 v1 v2 v3 v4 v5 v6 v7 v8 v9).lookup (ar "rows")=some v9:=by simp only[chF,akI,show (ar "rows" == ar "seats")=false from by trivial,show (ar "rows" == ar "sitting")=false from by trivial,show (ar "rows" == ar "closed")=false from by trivial,show (ar "rows" == ar "made")=false from by trivial,show (ar "rows" == ar "pile")=false from by trivial,show (ar "rows" == ar "aside")=false from by trivial,show (ar "rows" == ar "decided")=false from by trivial,show (ar "rows" == ar "first_texts")=false from by trivial,show (ar "rows" == ar "edits_kept")=false from by trivial,show (ar "rows" == ar "rows")=true from by trivial]
theorem Gf:gx (ar "sitting") y (chF v0 v1 v2 v3 v4 v5 v6 v7 v8 v9)=chF v0 y v2 v3 v4 v5 v6 v7 v8 v9:=by
 unfold chF;simp only[gx];rw[if_neg (by trivial),if_pos trivial]
theorem BN:gx (ar "closed") y (chF v0 v1 v2 v3 v4 v5 v6 v7 v8 v9)=chF v0 v1 y v3 v4 v5 v6 v7 v8 v9:=by
 unfold chF;simp only[gx];rw[if_neg (by trivial),if_neg (by trivial),if_pos trivial]
theorem Gg:gx (ar "pile") y (chF v0 v1 v2 v3 v4 v5 v6 v7 v8 v9)=chF v0 v1 v2 v3 y v5 v6 v7 v8 v9:=by
 unfold chF;simp only[gx];rw[if_neg (by trivial),if_neg (by trivial),if_neg (by trivial),if_neg (by trivial),if_pos trivial]
end
def Ms (A:Adr)(i:Nat):Sp:=λvs H Q E=>∃(o:Addr) (c:Col) (st:Ch),vs=[.ref o]/\eP A i c H o st/\(st.au≠[]->Q .non H)/\(st.au=[]->E (.ref A.pT) none H)
section
variable{P:sr}{w:World}{K:bo}{mg:Str->Option Value}{base:Heap}{A:Adr}
theorem mU (T:Txt w.params K mg A){i:Nat}:a7 P w K mg base (CXX P w) 1 A.bq A.d4 ["self"] (Ms A i):=by
 refine T.cj.okX my (λvs H Q E h=>?_) (λcdv A' outer s H vs Q E hr h=>?_)
 ·obtain⟨o,c,st,rfl,_⟩:=h;rfl
 ·obtain⟨o,c,st,rfl,hc,q1,q2⟩:=h;obtain⟨dx,aM,aP,aA,aD,aF,aE,aR,ms,ds,ws,fs,es,h1,h2,h3,h4,h5,h6,h7,h8,h9,h10,h11,h12,h13,h14⟩:=hc.ex;refine⟨_,(bw (gA (sv (sA (bh (pv 0) rfl) (λ_=>rfl)))
 (bw (iF T.BC rfl rfl T.Dw (aa ao af)))
 (uM aC))),?_⟩
  try dsimp only[bG]
  refine eW rfl h2 T.aq T.jq0 fB ?_;refine⟨_,.inl ⟨_,.inl (.inl h5.2),rfl⟩,?_⟩;cases e:st.au with
  |nil=>exact dW ⟨by decide,q2 e⟩
  |cons x r=>exact bZ (q1 (by rw[e];exact akq _ _))
end
theorem bD.len {α β:Type}{R:α->β->Prop}:∀ {as:List α} {bs:List β},bD R as bs->as.length=bs.length
 |_,_,.nil=>rfl
 |_,_,.cons _ t=>by rw[aj3,aj3,t.len]
theorem bD.get {α β:Type}{R:α->β->Prop}:∀ {as:List α} {bs:List β} {i:Nat} {a:α},bD R as bs->as[i]?=some a->∃b,bs[i]?=some b/\R a b
 |_,_,_,_,.nil,h=>by simp at h
 |_,_,0,_,.cons h t,e=>by
  rw[aj8]at e;cases e;exact⟨_,aj8,h⟩
 |_,_,i+1,_,.cons h t,e=>by
  rw[akn]at e;obtain⟨b,e1,e2⟩:=t.get e;exact⟨b,by rw[akn];exact e1,e2⟩
theorem BO:∀(ms:List Addr) (s k:Nat) {o:Addr},ms[k]?=some o->gW (aZ ((aku s ms.length).zip (ms.map V.ref))) (kf ((s+k:Nat):Int))=some (.ref o)
 |[],_,_,_,h=>by simp at h
 |m::ms,s,0,o,h=>by
  rw[aj8]at h;cases h;exact eV (p:=(kf ((s:Nat):Int),V.ref m)) rfl
 |m::ms,s,k+1,o,h=>by
  rw[akn]at h;have ih:=BO ms (s+1) k h;have e:s+(k+1)=s+1+k:=by omega
  rw[e];refine(bV (p:=(kf ((s:Nat):Int),V.ref m)) ?_).trans ih;intro z;have z':((s:Nat):Int)=((s+1+k:Nat):Int):=Sum.inl.inj z;omega
def Ch.mo (st:Ch)(n:Nat):Mn:=st.made.getD (n - 1) .cls
def cY (st:Ch)(n:Nat):Prop:=1<=n/\n<=st.made.length
def Mt (A:Adr)(i:Nat):Sp:=λvs H Q _=>∃(o:Addr) (c:Col) (st:Ch),vs=[.ref o]/\eP A i c H o st/\(∀n∈st.au,cY st n)/\st.au.length<=1000 /\
 ∀R os,H R=none->bD (λn m=>mR A c H (st.mo n) m) st.au os->Q (.ref R) (upd H R (.lst (os.map V.ref)))
theorem LN {A:Adr}{c:Col}{H:Hp}{st:Ch}{ms:List Addr}(h:bD (λm p=>mR A c H m p) st.made ms):∀(ns:List Nat),(∀n∈ns,cY st n)->bD (λn m=>mR A c H (st.mo n) m) ns (ns.map λn=>ms.getD (n - 1) 0)
 |[],_=>.nil
 |n::ns,g=>by
  have hn:=g n fe;have hlt:n - 1 < st.made.length:=by have:=hn.1;have:=hn.2;omega
  obtain⟨b,e1,e2⟩:=h.get (wa hlt);refine .cons ?_ (LN h ns λn hn=>g n (ky _ hn))
  have e3:st.mo n=st.made[n - 1]:=by unfold Ch.mo;rw[aj9,wa hlt];rfl
  have e4:ms.getD (n - 1) 0=b:=by rw[aj9,e1];rfl
  show mR A c H (st.mo n) (ms.getD (n - 1) 0);rw[e3,e4];exact e2
section
variable{P:sr}{w:World}{K:bo}{mg:Str->Option Value}{base:Heap}{A:Adr}
theorem BP (T:Txt w.params K mg A){i:Nat}:a7 P w K mg base CX0 1 A.bW A.iz ["self"] (Mt A i):=by
 refine T.eI.ok uR (λvs H Q E h=>?_) (λcdv A' outer s H vs Q E hr h=>?_)
 ·obtain⟨o,c,st,rfl,_⟩:=h;rfl
 ·obtain⟨o,c,st,rfl,hc,hp,hpl,q⟩:=h;obtain⟨dx,aM,aP,aA,aD,aF,aE,aR,ms,ds,ws,fs,es,h1,h2,h3,h4,h5,h6,h7,h8,h9,h10,h11,h12,h13,h14⟩:=hc.ex;have hu1:=hr.u1;refine⟨_,(aj (aG (An (scope:=jv) sG rfl (qz (bh (pv 0) rfl)) (λ_ _ _ _ _=>(a8 hu1 (Rc (K:=K) rfl (pv 1) rfl) (pv 0) (λ_ _=>rfl)))))),?_⟩
  try dsimp only[bG]
  have ml:=h4.len;refine eW rfl h2 T.aq T.jq0 fB ?_;have hB:SqL K H aP (st.au.map nV):=SqL.of h5.2;refine⟨aP,rfl,⟨_,hB⟩,λR hR=>?_⟩
  have sR:∀ {o:HO},bu H (upd H R o):=aB hR;refine xJ (K:=K) (a:=aP) (xs:=st.au.map nV) (λi ys H2=>ys=((st.au.take i).map λn=>V.ref (ms.getD (n - 1) 0))/\H2=upd H R (.lst ys)) ⟨rfl,rfl⟩ (by rw[ba,sizeLine_eq];omega) ?_ ?_ ?_
  ·rintro i ys H2 hi ⟨rfl,rfl⟩;rw[ba]at hi;exact⟨sR.seq hB,ae,by rw[ba,akF];omega⟩
  ·rintro i y ys H2 hy ⟨rfl,rfl⟩;refine aQ λGq gq=>?_
   obtain⟨n,hn1,rfl⟩:∃n,st.au[i]?=some n/\nV n=y:=by
    rw[aj7]at hy;cases ht:st.au[i]? with
    |none=>rw[ht]at hy;cases hy
    |some t=>rw[ht]at hy;exact⟨t,rfl,ajZ hy⟩
   have hn:=hp n (akl hn1);have hlt:n - 1 < ms.length:=by have:=hn.1;have:=hn.2;omega
   have hm:ms[n - 1]?=some (ms.getD (n - 1) 0):=by rw[aj9,wa hlt];rfl
   have hv:=BO ms 1 (n - 1) hm;rw[<-ml,show 1+(n - 1)=n by have:=hn.1;omega]at hv
   refine gq ?_;refine eW rfl (sR _ _ h2) T.aq T.jq2 il ?_;refine⟨_,rfl,aM,_,rfl,.inl ⟨_,kf (n:Int),.inl (sR _ _ h3.2),rfl,hv.symm⟩,?_⟩;refine ie.mk (List.getElem?_eq_some_iff.mp hy).1 ae ⟨?_,by rw[nO]⟩
   rw[List.take_succ,hn1,kx];rfl
  ·rintro ys H2 ⟨rfl,rfl⟩;rw[ba,alq];have:=q R _ hR (LN h4 st.au hp);rw[List.map_map]at this;exact this
end
theorem bD.snoc {α β:Type}{R:α->β->Prop}:∀ {as:List α} {bs:List β} {a:α} {b:β},bD R as bs->R a b->bD R (as++[a]) (bs++[b])
 |_,_,_,_,.nil,h=>.cons h .nil
 |_,_,_,_,.cons g t,h=>.cons g (t.snoc h)
def O4 (A:Adr)(i:Nat):Sp:=λvs H Q _=>∃(o:Addr) (wd:Str) (c:Col) (st:Ch) (pre:List Nat) (n:Nat),vs=[.ref o,.str wd]/\eP A i c H o st/\st.au=pre++[n]/\st.au.length<=1000/\st.decided.length<=1000 /\
 ∀c' H',Step (d8 i) c c' H H'->eP A i c' H' o { st with au:=pre,decided:=st.decided++[(n,wd)] }->Q .non H'
section
variable{P:sr}{w:World}{K:bo}{mg:Str->Option Value}{base:Heap}{A:Adr}
theorem DD (T:Txt w.params K mg A){i:Nat}:a7 P w K mg base CX0 1 A.cf A.i7 ["self","word"] (O4 A i):=by
 refine T.fv.ok wg (λvs H Q E h=>?_) (λcdv A' outer s H vs Q E hr h=>?_)
 ·obtain⟨o,wd,c,st,pre,n,rfl,_⟩:=h;rfl
 ·obtain⟨o,wd,c,st,pre,n,rfl,hc,hp,hpl,hdl,q⟩:=h;obtain⟨dx,aM,aP,aA,aD,aF,aE,aR,ms,ds,ws,fs,es,h1,h2,h3,h4,h5,h6,h7,h8,h9,h10,h11,h12,h13,h14⟩:=hc.ex;refine⟨_,(aj (bJ (gw rf aj4 aj5 dn (bh (pv 0) rfl) (aa (bp (aa (NJ rf PySem.F.slot_list_pop PySem.F.type_list_pop NN (bh (pv 0) rfl)) (aa (pv 1) af))) af)))),?_⟩
  try dsimp only[bG]
  refine eW rfl h2 T.aq T.jqj y7 ?_;have hy:(st.au.map nV)[(st.au.map nV).length - 1]?=some (nV n):=by rw[hp];simp
  have hdr:(st.au.map nV).dropLast=pre.map nV:=by rw[hp,kx];simp
  have nPD:aD≠aP:=λz=>by have:=h8.1;rw[z,h5.1]at this;cases this
  refine⟨.inl ⟨rfl,_,SqL.of h8.2⟩,eW rfl h2 T.aq T.jq0 fB ?_⟩;refine⟨.inl ⟨rfl,_,SqL.of h5.2⟩,aP,_,_,rfl,rfl,h5.2,hy,_,rfl,(sl 2),λp hp0=>?_⟩
  have np:∀ {a:Addr} {v:HO},H a=some v->a≠p:=by
   intro a v e z;subst z
   by_cases y:a=aP
   ·subst y;rw[ae]at hp0;cases hp0
   ·rw[aw y,e]at hp0;cases hp0
  have nn:¬(λx=>x=some (i,Rl.au)\/x=some (i,Rl.decided)) (none:Option (Nat×Rl)):=by rintro (z | z) <;> cases z
  refine⟨aD,_,_,rfl,rfl,(aw (np h8.2)).trans ((aw nPD).trans h8.2),?_,?_⟩
  ·rw[ba,<-h9.len,sizeLine_eq];omega
  have sp:Step (λx=>x=some (i,Rl.au)\/x=some (i,Rl.decided)) c (ay c p none) H (upd (upd (upd H aP (.lst (st.au.map nV).dropLast)) p (.tup [nV n,.str wd])) aD (.lst (ds.map V.ref++[.ref p]))) :=
   ((Step.upd nn (.inl h5.1)).trans (Step.new nn hp0)).trans (Step.upd nn (.inr (by rw[av (np h8.2)];exact h8.1)))
  have ht:TupAt (ay c p none) (upd (upd (upd H aP (.lst (st.au.map nV).dropLast)) p (.tup [nV n,.str wd])) aD (.lst (ds.map V.ref++[.ref p]))) p [nV n,.str wd] :=
   ⟨aW,.inl ((aw (np h8.2).symm).trans ae)⟩
  have kp:LstAt i (ay c p none) (upd (upd (upd H aP (.lst (st.au.map nV).dropLast)) p (.tup [nV n,.str wd])) aD (.lst (ds.map V.ref++[.ref p]))) .au aP (pre.map nV) :=
   ⟨by rw[av (np h5.2)];exact h5.1,by rw[aw nPD.symm,aw (np h5.2),ae,hdr]⟩
  have kd:LstAt i (ay c p none) (upd (upd (upd H aP (.lst (st.au.map nV).dropLast)) p (.tup [nV n,.str wd])) aD (.lst (ds.map V.ref++[.ref p]))) .decided aD ((ds++[p]).map V.ref) :=
   ⟨by rw[av (np h8.2)];exact h8.1,by rw[ae,kx];rfl⟩
  generalize upd (upd (upd H aP (.lst (st.au.map nV).dropLast)) p (.tup [nV n,.str wd])) aD (.lst (ds.map V.ref++[.ref p]))=H' at sp ht kp kd ⊢;generalize ay c p none=c' at sp ht kp kd;have no:∀r,r≠Rl.au->r≠Rl.decided->¬(λx=>x=some (i,Rl.au)\/x=some (i,Rl.decided)) (some (i,r)):=λr y1 y2=>by
   rintro (z | z)
   ·cases z;exact y1 rfl
   ·cases z;exact y2 rfl
  have hno:=no .ob (λz=>nomatch z) (λz=>nomatch z)
  refine q c' H' (sp.mono (by rintro x (z | z) <;> exact⟨_,z⟩) aV) ⟨dx,aM,aP,aA,aD,aF,aE,aR,ms,ds++[p],ws,fs,es,by rw[sp.col o _ h2 (by rw[h1];exact hno)];exact h1,sp.keep _ _ h2 (by rw[h1];exact hno),
   h3.keep (no .made (λz=>nomatch z) (λz=>nomatch z)) sp,h4.imp λ_ _ z=>z.step sp,kp,h6.keep (no .aH (λz=>nomatch z) (λz=>nomatch z)) sp,h7.imp ?_,kd,(h9.imp λ_ _ z=>z.step sp).snoc ht,
   h10.keep (no .firsts (λz=>nomatch z) (λz=>nomatch z)) sp,h11.imp ?_,h12.keep (no .kept (λz=>nomatch z) (λz=>nomatch z)) sp,h13.imp ?_,h14.keep (no .rows (λz=>nomatch z) (λz=>nomatch z)) sp⟩
  ·rintro x v ⟨t,a,e,z1,z2⟩;exact⟨t,a,e,z1.step sp,z2.keep (no (.fA x.1) (λz=>nomatch z) (λz=>nomatch z)) sp⟩
  ·rintro x v ⟨a,e,z⟩;exact⟨a,e,z.keep (no (.dA x.1) (λz=>nomatch z) (λz=>nomatch z)) sp⟩
  ·rintro x v ⟨a,ts,e,z1,z2⟩;exact⟨a,ts,e,z1.keep (no (.gO x.1) (λz=>nomatch z) (λz=>nomatch z)) sp,z2.imp λ_ _ y=>y.step sp⟩
end
inductive Xc where
 |tH (b:Int) | mV | noChange | noFit | mW (n:Int) | nothing | tooMany | uw | BQ (n:Int) | BR
def Xc.At (A:Adr)(H:Hp):Xc->Value->Option Addr->Prop
 | .tH b,C,d=>C=.ref A.sM/\∃a,d=some a/\H a=some (.xd [(ar "bar",.int b)])
 | .mV,C,d=>C=.ref A.qH/\d=none
 | .noChange,C,d=>C=.ref A.qI/\d=none
 | .noFit,C,d=>C=.ref A.uk/\d=none
 | .mW n,C,d=>C=.ref A.mD/\∃a,d=some a/\H a=some (.xd [(ar "sitting",.int n)])
 | .nothing,C,d=>C=.ref A.pT/\d=none
 | .tooMany,C,d=>C=.ref A.um/\d=none
 | .uw,C,d=>C=.ref A.uo/\d=none
 | .BQ n,C,d=>C=.ref A.sN/\∃a,d=some a/\H a=some (.xd [(ar "sitting",.int n)])
 | .BR,C,d=>C=.ref A.qJ/\d=none
def Xc.New (A:Adr)(H H':Hp)(x:Xc)(C:Value)(d:Option Addr):Prop:=x.At A H' C d/\∀a,d=some a->H a=none
theorem same_none {H H':Hp}(s:bu H H'){a:Addr}(h:H' a=none):H a=none:=by
 cases z:H a with
 |none=>rfl
 |some v=>rw[s _ _ z]at h;cases h
theorem DE {i:Int}(h0:-10000000000 < i)(h1:i < 10000000000):i.natAbs.log2 < 1920:=by
 have h:i.natAbs < 2 ^ 34:=by
  have:(10000000000:Int)<=2 ^ 34:=by decide
  omega
 by_cases hz:i.natAbs=0
 ·rw[hz];decide
 ·exact Nat.lt_trans ((Nat.log2_lt hz).mpr h) (by decide)
theorem DF {i:Int}(h0:0<=i)(h1:i < 10000000000):(ar (toString i)).length<=20 :=
 adm (PyProof.Rows.toString_length_le h0 (by decide:(1:Nat)<=11) (by show i < (10:Int) ^ 11;omega)) (by decide)
theorem pZ {i:Int}(h0:0<=i)(h1:i < 10000000000):∃z,Js (.int i) z/\z.length<=10000 :=
 ⟨_,.int (DE (by omega) h1),adm (DF h0 h1) (by decide)⟩
def rO (ms:List Mn):Int:=match ms.getLast? with
 |none=>-1
 |some m=>(m.k:Int)
def oH (cl:Bool)(ms:List Mn):Int:=if cl=true then (if (4:Int) > rO ms then 4 else rO ms) else rO ms
def ux (ms:List Mn):Bool:=ms.any λm=>decide (m.k=0)
def fN (ms:List Mn):Bool:=match ms.getLast? with
 |some (.chg e)=>!decide (e.k=1)
 |_=>false
def tI (ms:List Mn)(k:Nat):Bool:=if k=2 then fN ms else if k=1\/k=3\/k=4\/k=5 then ux ms else true
def uy (cl:Bool)(ms:List Mn)(k:Nat):Option Xc :=
 if (k:Int)<=oH cl ms then some (.tH (oH cl ms)) else if tI ms k=true then none else if ux ms=true then some .noChange else some .mV
theorem O5 (ms:List Mn):-1<=rO ms/\rO ms < 8:=by
 unfold rO;split
 ·omega
 ·rename_i m _;have:=m.k8;omega
theorem BS (cl:Bool)(ms:List Mn):-1<=oH cl ms/\oH cl ms < 8:=by
 have:=O5 ms;unfold oH;split
 ·split <;> omega
 ·omega
def wR (A:Adr)(K:bo)(c:Col)(H:Hp)(B:Addr)(ms:List Mn)(os:List Addr):Prop:=SqL K H B (os.map V.ref)/\bD (λm p=>mR A c H m p) ms os
theorem mR.same {A:Adr}{c:Col}{H H':Hp}{m:Mn}{o:Addr}(s:bu H H')(h:mR A c H m o):mR A c H' m o:=h.step (Step.same (W:=λ_=>False) id s)
theorem wR.same {A:Adr}{K:bo}{c:Col}{H H':Hp}{B:Addr}{ms:List Mn}{os:List Addr}(s:bu H H')(h:wR A K c H B ms os):wR A K c H' B ms os:=⟨s.seq h.1,h.2.imp λ_ _ y=>y.same s⟩
def aaz (A:Adr)(K:bo):Sp:=λvs H Q _=>∃(B:Addr) (cl:Bool) (c:Col) (ms:List Mn) (os:List Addr),vs=[.ref B,.bl cl]/\wR A K c H B ms os/\Q (.int (oH cl ms)) H
def aaA (A:Adr)(K:bo):Sp:=λvs H Q _=>∃(B:Addr) (c:Col) (ms:List Mn) (os:List Addr),vs=[.ref B]/\wR A K c H B ms os/\ms.length<=1000/\∀H',bu H H'->Q (.bl (ux ms)) H'
def VW (A:Adr)(K:bo):Sp:=λvs H Q _=>∃(B:Addr) (c:Col) (ms:List Mn) (os:List Addr),vs=[.ref B]/\wR A K c H B ms os/\∀H',bu H H'->Q (.bl (fN ms)) H'
def Rw (A:Adr)(K:bo):Sp:=λvs H Q _=>∃(k:Nat) (B:Addr) (c:Col) (ms:List Mn) (os:List Addr),vs=[.str (nm k),.ref B]/\k < 8/\wR A K c H B ms os/\ms.length<=1000/\∀H',bu H H'->Q (.bl (tI ms k)) H'
def aaB (A:Adr)(K:bo):Sp:=λvs H Q E=>∃(k:Nat) (B:Addr) (cl:Bool) (c:Col) (ms:List Mn) (os:List Addr),vs=[.str (nm k),.ref B,.bl cl]/\k < 8/\wR A K c H B ms os/\ms.length<=1000 /\
 (uy cl ms k=none->∀H',bu H H'->Q .non H')/\∀x,uy cl ms k=some x->∀C d H',bu H H'->x.New A H H' C d->E C d H'
def E6 (A:Adr)(K:bo)(k:Nat):Sp:=λvs H Q E=>(k=0/\LG A K vs H Q E)\/JQ A k vs H Q E
theorem BU (pre:List Addr)(q:Addr):atI ((pre++[q]).map V.ref) (-1)=some (.ref q):=by
 rw[kx];exact ic _ _
theorem BV:∀k,k < 8->decide (V.str (nm k)=V.str (ar "matter"))=decide (k=0):=by trivial
theorem cg:∀k,k < 8->decide (V.str (nm k)=V.str (ar "change"))=decide (k=1):=by trivial
theorem cn:∀k,k < 8->decide (V.str (nm k)=V.str (ar "mend"))=decide (k=2):=by trivial
theorem gQ:∀k,k < 8->decide (V.str (nm k)=V.str (ar "put off"))=decide (k=3):=by trivial
theorem jo:∀k,k < 8->decide (V.str (nm k)=V.str (ar "close"))=decide (k=4):=by trivial
theorem E7:∀k,k < 8->decide (V.str (nm k)=V.str (ar "lay"))=decide (k=5):=by trivial
theorem mX:∀k,k < 8->decide (V.str (nm k)=V.str (ar "rest"))=decide (k=6):=by trivial
theorem dS:∀ {k:Nat} {v:V},atI (rowOf k v) 0=some (.str (nm k))
 | 0,_=>rfl
 | 1,_=>rfl
 | 2,_=>rfl
 | 3,_=>rfl
 | 4,_=>rfl
 | 5,_=>rfl
 | 6,_=>rfl
 | 7,_=>rfl
 |_+8,_=>rfl
theorem E8:∀k,decide (V.str (kn k)=V.str (ar "cut"))=decide (k=1)
 | 0=>by trivial
 | 1=>by trivial
 |n+2=>by rw[decide_eq_false (show ¬n+2=1 by omega)];show decide (V.str (ar "turn")=_)=_;trivial
theorem bD.last {α β:Type}{R:α->β->Prop}{as:List α}{pre:List β}{b:β}(h:bD R as (pre++[b])):∃as' a,as=as'++[a]/\bD R as' pre/\R a b:=by
 induction pre generalizing as with
 |nil =>
  cases h with
  |cons h t=>cases t;exact⟨[],_,rfl,.nil,h⟩
 |cons x r ih =>
  cases h with
  |cons h t =>
   obtain⟨as',a,rfl,h1,h2⟩:=ih t;exact⟨_::as',a,rfl,.cons h h1,h2⟩
theorem p0 (ms:List Mn)(m:Mn):rO (ms++[m])=(m.k:Int):=by unfold rO;rw[akC]
section
variable{P:sr}{w:World}{K:bo}{mg:Str->Option Value}{base:Heap}{A:Adr}
theorem y9 (T:Txt w.params K mg A):a7 P w K mg base CX0 1 A.Bf A.x8 ["self","bar"] (Mj A.sM "bar"):=by
 refine T.mI.ok A6 (λvs H Q E h=>?_) (λcdv A' outer s H vs Q E hr h=>?_)
 ·obtain⟨e,v,rfl,_⟩:=h;rfl
 ·obtain⟨e,v,rfl,hx,⟨z,fz,zl⟩,q⟩:=h;refine⟨_,(ai (bJ (AO T.iw T.pV rfl T.gM (aa (pv 0) (aa (AN (kM (uO (pv 1) uN))) af))))
 (aj (En T.pV (pv 0) (pv 1)))),?_⟩
  try dsimp only[bG]
  have sz:gr=16777216:=by decide
  have c5:(ar "barred by the bar ").length=18:=by trivial
  have e5:(akw++ar "barred by the bar ":Str).length=18:=by trivial
  refine⟨_,rfl,by rw[e5];omega,_,rfl,z,fz,by omega,by rw[len_app,e5];omega,by rw[len_app,e5];omega,e,_,rfl,hx,?_⟩
  exact⟨_,rfl,_,rfl,e,rfl,hx,λd hd=>q d hd⟩
theorem CH (T:Txt w.params K mg A):a7 P w K mg base CX0 1 A.u6 A.sO ["self","sitting"] (Mj A.mD "sitting"):=by
 refine T.jg.ok xN (λvs H Q E h=>?_) (λcdv A' outer s H vs Q E hr h=>?_)
 ·obtain⟨e,v,rfl,_⟩:=h;rfl
 ·obtain⟨e,v,rfl,hx,⟨z,fz,zl⟩,q⟩:=h;refine⟨_,(ai (bJ (AO T.iw T.n6 rfl T.gM (aa (pv 0) (aa (AN (kM (uO (pv 1) uN))) af))))
 (aj (En T.n6 (pv 0) (pv 1)))),?_⟩
  try dsimp only[bG]
  have sz:gr=16777216:=by decide
  have c5:(ar "not later than the sitting ").length=27:=by trivial
  have e5:(akw++ar "not later than the sitting ":Str).length=27:=by trivial
  refine⟨_,rfl,by rw[e5];omega,_,rfl,z,fz,by omega,by rw[len_app,e5];omega,by rw[len_app,e5];omega,e,_,rfl,hx,?_⟩
  exact⟨_,rfl,_,rfl,e,rfl,hx,λd hd=>q d hd⟩
theorem Gh (T:Txt w.params K mg A):a7 P w K mg base CX0 1 A.Bg A.x9 ["self","sitting"] (Mj A.sN "sitting"):=by
 refine T.mK.ok A7 (λvs H Q E h=>?_) (λcdv A' outer s H vs Q E hr h=>?_)
 ·obtain⟨e,v,rfl,_⟩:=h;rfl
 ·obtain⟨e,v,rfl,hx,⟨z,fz,zl⟩,q⟩:=h;refine⟨_,(ai (bJ (AO T.iw T.uv rfl T.gM (aa (pv 0) (aa (AN (kM (uO (pv 1) uN))) af))))
 (aj (En T.uv (pv 0) (pv 1)))),?_⟩
  try dsimp only[bG]
  have sz:gr=16777216:=by decide
  have c5:(ar "aside until the sitting ").length=24:=by trivial
  have e5:(akw++ar "aside until the sitting ":Str).length=24:=by trivial
  refine⟨_,rfl,by rw[e5];omega,_,rfl,z,fz,by omega,by rw[len_app,e5];omega,by rw[len_app,e5];omega,e,_,rfl,hx,?_⟩
  exact⟨_,rfl,_,rfl,e,rfl,hx,λd hd=>q d hd⟩
theorem Gi (T:Txt w.params K mg A):∀k,k < 8->a7 P w K mg base CX0 2 (A.ft k) (A.ftd k) ["self"] (E6 A K k)
 | 0,_=>(O0 T).imp λvs H Q E h=>h.elim (λz=>z.2) (λz=>absurd z.1 (by decide))
 | 1,h=>(qQ T 1 h).imp λvs H Q E h=>h.elim (λz=>absurd z.1 (by decide)) id
 | 2,h=>(qQ T 2 h).imp λvs H Q E h=>h.elim (λz=>absurd z.1 (by decide)) id
 | 3,h=>(qQ T 3 h).imp λvs H Q E h=>h.elim (λz=>absurd z.1 (by decide)) id
 | 4,h=>(qQ T 4 h).imp λvs H Q E h=>h.elim (λz=>absurd z.1 (by decide)) id
 | 5,h=>(qQ T 5 h).imp λvs H Q E h=>h.elim (λz=>absurd z.1 (by decide)) id
 | 6,h=>(qQ T 6 h).imp λvs H Q E h=>h.elim (λz=>absurd z.1 (by decide)) id
 | 7,h=>(qQ T 7 h).imp λvs H Q E h=>h.elim (λz=>absurd z.1 (by decide)) id
 |n+8,h=>absurd h (by omega)
theorem DG (T:Txt w.params K mg A):a7 P w K mg base CX0 3 A.Jz A.xS ["pile","closed"] (aaz A K):=by
 have VX:∀k,k < 8->a7 P w K mg base CX0 2 A.f_r A.Rg ["self"] (OY A):=λ_ _=>Rq T
 refine T.wu.ok De (λvs H Q E h=>?_) (λcdv A' outer s H vs Q E hr h=>?_)
 ·obtain⟨B,cl,c,ms,os,rfl,_⟩:=h;rfl
 ·obtain⟨B,cl,c,ms,os,rfl,⟨hB,ho⟩,q⟩:=h;refine⟨_,(ai (a4 (i:=2) De.nd rfl (wt rfl) (Fu (sA (pv 0) (λ_=>rfl)) (lW (n:=8) (Cf:=A.C) (aS bA (pv 0) (mr iy ah) (λ_ _=>rfl)) T.cl T.OR VX hr T.OS a5) (mr iy ah)))
 (ai (a9 (oj (pv 1))
 (aj (aG (cD (ua rfl) (by rfl) T.F8 Ec (aa (pv 2) (aa (D2 (v:=V.int 4) rfl T.wH ⟨_,rfl⟩) af)))))
 aC)
 (aj (aG (pv 2))))),?_⟩
  try dsimp only[bG]
  unfold oH at q;rcases akb os with h | ⟨pre,o,h⟩
  ·subst h;cases ho;refine⟨_,rfl,_,.inl ⟨_,hB,rfl⟩,bZ ⟨_,rfl,?_⟩⟩;refine⟨_,rfl,_,rfl,?_⟩;cases cl with
   |true=>exact dW ⟨_,rfl,_,_,rfl,q⟩
   |false=>exact bZ ⟨_,rfl,q⟩
  ·rw[akc]at h;refine aQ λGq gq=>?_
   subst h;obtain⟨ms',m,rfl,_,_,dx,v,hm,_⟩:=ho.last;rw[p0]at q;refine gq ?_;refine⟨_,rfl,_,.inl ⟨_,hB,rfl⟩,qX (by simp) ⟨_,rfl,_,rfl,B,_,_,_,rfl,rfl,hB,BU pre o,m.k,m.k8,o,dx,_,rfl,hm,Rn m.k v,o,m.k,dx,_,m.k8,rfl,hm,lQ m.k v,?_⟩⟩
   refine⟨_,rfl,_,rfl,?_⟩;cases cl with
   |true=>exact dW ⟨_,rfl,_,_,rfl,q⟩
   |false=>exact bZ ⟨_,rfl,q⟩
theorem uG (T:Txt w.params K mg A):a7 P w K mg base CX0 2 A.uV A.oq ["pile"] (aaA A K):=by
 have gN:∀k,k < 8->a7 P w K mg base CX0 1 (A.fk k) (A.fkd k) ["self"] (gu k):=lR T;refine T.lO.ok CB (λvs H Q E h=>?_) (λcdv A' outer s H vs Q E hr h=>?_)
 ·obtain⟨B,c,ms,os,rfl,_⟩:=h;rfl
 ·obtain⟨B,c,ms,os,rfl,⟨hB,ho⟩,hl,q⟩:=h;refine⟨_,(aj (aG (cD (NY rfl) (by rfl) T.Tp Vf (aa (An (scope:=pB) zp rfl (qz (pv 0)) (λ_ _ _ _ _=>(nP bt (lW (n:=8) (Cf:=A.C) (pv 0) T.cl T.oz gN hr T.oB a5) ao (aJ _)))) af)))),?_⟩
  try dsimp only[bG]
  have lim:gr=16777216:=by decide
  have ol:=ho.len;refine⟨_,rfl,B,rfl,⟨_,hB⟩,λR hR=>?_⟩
  have sR:∀ {o:HO},bu H (upd H R o):=aB hR;refine xJ (K:=K) (a:=B) (xs:=os.map V.ref) (λi ys H2=>ys=(ms.take i).map (λm=>V.bl (decide (m.k=0)))/\H2=upd H R (.lst ys)) ⟨rfl,rfl⟩ (by rw[ba];omega) ?_ ?_ ?_
  ·rintro i ys H2 hi ⟨rfl,rfl⟩;rw[ba]at hi;exact⟨sR.seq hB,ae,by rw[ba,akF];omega⟩
  ·rintro i y ys H2 hy ⟨rfl,rfl⟩;refine aQ λGq gq=>?_
   have hi:i < ms.length:=by have:=(List.getElem?_eq_some_iff.mp hy).1;rw[ba]at this;omega
   obtain⟨o,ho1,_,dx,v,ho2,_⟩:=ho.get (wa hi);rw[aj7,ho1]at hy;cases hy;refine gq ?_;refine⟨_,rfl,ms[i].k,ms[i].k8,o,dx,_,rfl,sR _ _ ho2,lQ _ v,o,rfl,rfl,?_⟩;rw[BV _ ms[i].k8];refine ie.mk (by rw[ba];omega) ae ⟨?_,by rw[nO]⟩
   rw[List.take_succ,wa hi,kx];rfl
  ·rintro ys H2 ⟨rfl,rfl⟩;rw[ba,<-ol,alq];refine⟨R,ms.map (λm=>decide (m.k=0)),rfl,SqL.of (by rw[ae,List.map_map];rfl),?_⟩
   rw[List.any_map];exact q _ sR
theorem yn (T:Txt w.params K mg A):a7 P w K mg base CX0 3 A.ot A.jK ["pile"] (VW A K):=by
 have JS:∀k,k < 8->a7 P w K mg base CX0 2 (A.ft k) (A.ftd k) ["self"] (E6 A K k):=Gi T;refine T.lA.ok pD (λvs H Q E h=>?_) (λcdv A' outer s H vs Q E hr h=>?_)
 ·obtain⟨B,c,ms,os,rfl,_⟩:=h;rfl
 ·obtain⟨B,c,ms,os,rfl,⟨hB,ho⟩,q⟩:=h;refine⟨_,(ai (a9 (sv (sA (pv 0) (λ_=>rfl)))
 (aj (aG kK))
 aC)
 (ai (a4 (i:=1) pD.nd rfl (wt rfl) (lW (n:=8) (Cf:=A.C) (aS bA (pv 0) (mr iy ah) (λ_ _=>rfl)) T.cl T.JN JS hr T.JO a5))
 (aj (aG (Nv (nP bt (aS aU (pv 1) ah (λ_ _=>rfl)) ao (aJ _)) (IU (nP yO (aS aU (aS aU (pv 1) ah (λ_ _=>rfl)) ah (λ_ _=>rfl)) ao (aJ _)))))))),?_⟩
  try dsimp only[bG]
  rcases akb os with h | ⟨pre,o,h⟩
  ·subst h;cases ho;refine⟨_,rfl,_,.inl ⟨_,hB,rfl⟩,dW ?_⟩;exact q H (bu.refl _)
  ·rw[akc]at h;subst h;refine⟨_,rfl,_,.inl ⟨_,hB,rfl⟩,qY (by simp) ?_⟩
   refine aQ λGq gq=>?_
   obtain⟨ms',m,rfl,_,_,dx,v,hm,hv⟩:=ho.last;have gl:(ms'++[m]).getLast?=some m:=akC;unfold fN at q;rw[gl]at q;refine gq ?_;refine⟨_,rfl,_,rfl,B,_,_,_,rfl,rfl,hB,BU pre o,m.k,m.k8,o,dx,_,rfl,hm,LD m.k v,?_⟩
   by_cases h0:m.k=0
   ·obtain⟨tx,rfl⟩:∃tx,m=.mat tx:=by cases m <;> first | exact⟨_,rfl⟩ | exact absurd h0 (by simp[Mn.k])
    refine aQ λGq gq=>?_
    obtain⟨p,rfl,_,hp⟩:=hv;refine gq ?_;refine .inl ⟨rfl,o,dx,p,tx.map V.str,rfl,hm,SqL.of hp,λp2 u hp2 hu npu=>?_⟩
    have nu:(upd H p2 (.lst (tx.map V.str))) u=none:=(aw (akp npu)).trans hu;refine ixv rfl (SqT.of ae) rfl ⟨rfl,_,rfl,?_⟩;rw[cg 0 (by decide)]
    exact bZ (q _ ((aB hp2).new nu))
   ·refine .inr ⟨by omega,o,dx,v,rfl,hm,λu hu=>?_⟩
    have su:=aB (o:=.tup (rowOf m.k v)) hu;refine ixv rfl (SqT.of ae) dS ⟨rfl,_,rfl,?_⟩;rw[cg m.k m.k8]
    by_cases h1:m.k=1
    ·obtain⟨e,rfl⟩:∃e,m=.chg e:=by cases m <;> first | exact⟨_,rfl⟩ | exact absurd h1 (by simp[Mn.k])
     refine aQ λGq gq=>?_
     obtain⟨t,rfl,ht⟩:=hv;refine gq ?_;refine qX (decide_eq_true rfl) (ixv rfl (SqT.of ae) rfl ⟨t,_,_,_,rfl,rfl,bR su ht.sq,oE e,rfl,?_⟩);rw[E8];exact q _ su
    ·rw[decide_eq_false h1];have q':∀H',bu H H'->Q (.bl false) H':=by
      cases m with
      |chg e=>exact absurd rfl h1
      |_=>exact q
     exact bZ (q' _ su)
theorem tJ (T:Txt w.params K mg A):a7 P w K mg base CX0 4 A.i5 A.gC ["kind","pile"] (Rw A K):=by
 refine T.hZ.ok sI (λvs H Q E h=>?_) (λcdv A' outer s H vs Q E hr h=>?_)
 ·obtain⟨k,B,c,ms,os,rfl,_⟩:=h;rfl
 ·obtain⟨k,B,c,ms,os,rfl,k8,hp,hl,q⟩:=h;refine⟨_,(ai (a9 (az bt (pv 0) ao (aJ _))
 (aj (aG (aX (yn T) hr rfl T.rg T.lA.kp T.q9 .nil a5 (aa (pv 1) af))))
 aC)
 (ai (a9 (az xG (pv 0) (bp (aa ao (aa ao (aa ao (aa ao af))))) rfl)
 (aj (aG (aX (uG T) (hr.mono (by decide)) rfl T.qL T.lO.kp T.qK .nil a5 (aa (pv 1) af))))
 aC)
 (aj (aG kK)))),?_⟩
  try dsimp only[bG]
  refine⟨_,rfl,rfl,_,rfl,?_⟩;rw[cn k k8];unfold tI at q
  by_cases h2:k=2
  ·rw[if_pos h2]at q;exact qX (decide_eq_true h2) ⟨_,rfl,B,c,ms,os,rfl,hp,q⟩
  ·rw[if_neg h2]at q;refine qY (decide_eq_false h2) ?_;refine⟨_,rfl,(sl 4),λt ht=>?_⟩
   have st:=aB (o:=.tup [V.str (ar "change"),V.str (ar "put off"),V.str (ar "close"),V.str (ar "lay")]) ht;refine⟨t,_,rfl,.inr (SqT.of ae),rfl,rfl,_,rfl,?_⟩;have ein:(if false=true then !inV (V.str (nm k)) [V.str (ar "change"),V.str (ar "put off"),V.str (ar "close"),V.str (ar "lay")] else inV (V.str (nm k)) [V.str (ar "change"),V.str (ar "put off"),V.str (ar "close"),V.str (ar "lay")])=decide (k=1\/k=3\/k=4\/k=5):=by
    have:∀k,k < 8->inV (V.str (nm k)) [V.str (ar "change"),V.str (ar "put off"),V.str (ar "close"),V.str (ar "lay")]=decide (k=1\/k=3\/k=4\/k=5):=by trivial
    exact this k k8
   rw[ein]
   by_cases h3:k=1\/k=3\/k=4\/k=5
   ·rw[if_pos h3]at q;exact qX (decide_eq_true h3) ⟨_,rfl,B,c,ms,os,rfl,hp.same st,hl,λH' s'=>q H' (st.trans s')⟩
   ·rw[if_neg h3]at q;exact qY (decide_eq_false h3) (q _ st)
theorem uz (T:Txt w.params K mg A):a7 P w K mg base (CXX P w) 5 A.jL A.hX ["kind","pile","closed"] (aaB A K):=by
 refine T.iB.okX lH (λvs H Q E h=>?_) (λcdv A' outer s H vs Q E hr h=>?_)
 ·obtain⟨k,B,cl,c,ms,os,rfl,_⟩:=h;rfl
 ·obtain⟨k,B,cl,c,ms,os,rfl,k8,hp,hl,q,qx⟩:=h;refine⟨_,(bb (psx (a4 (i:=3) lH.nd rfl (wt rfl) (aX (DG T) (hr.mono (by decide)) rfl T.Bi T.wu.kp T.Bh .nil a5 (aa (pv 1) (aa (pv 2) af)))))
 (bb (gA (az vN (aS NX (D2 (v:=V.ref A.tab) rfl T.EV rfl) (pv 0) (λ_ _=>rfl)) (pv 3) (aJ _))
 (bw (qD T.pV (y9 T) (hr.mono (by decide)) T.mJ rfl rfl T.By (aa (pv 3) af)))
 (uM aC))
 (bw (gA (sv (oj (aX (tJ T) hr rfl T.lJ T.hZ.kp T.lI .nil a5 (aa (pv 0) (aa (pv 1) af)))))
 (bb (gA (oj (aX (uG T) (hr.mono (by decide)) rfl T.qL T.lO.kp T.qK .nil a5 (aa (pv 1) af)))
 (bw (iF T.yZ rfl rfl T.BA (aa ao af)))
 (uM aC))
 (bw (iF T.yY rfl rfl T.Bz (aa (AN (uO (pv 0) (kM uN))) af))))
 (uM aC))))),?_⟩
  try dsimp only[bG]
  refine⟨_,rfl,_,rfl,B,cl,c,ms,os,rfl,hp,?_⟩;obtain⟨tk,htk⟩:=T.rk k k8;refine⟨_,rfl,A.tab,nm k,.int k,_,rfl,rfl,T.tb,htk,⟨_,rfl⟩,_,rfl,_,_,rfl,rfl,_,rfl,fG (λe=>?_) (λe=>?_)⟩
  ·have e':(k:Int)<=oH cl ms:=of_decide_eq_true e;have hb:=BS cl ms;refine⟨_,rfl,_,rfl,pZ (by omega) (by omega),λd hd=>qx (.tH (oH cl ms)) (by unfold uy;rw[if_pos e']) _ _ _ (aB hd) ⟨⟨rfl,d,rfl,ae⟩,λ_ z=>by cases z;exact hd⟩⟩
  ·have e':¬(k:Int)<=oH cl ms:=λz=>e (decide_eq_true z)
   unfold uy at q qx;rw[if_neg e']at q qx;refine⟨_,rfl,_,rfl,k,B,c,ms,os,rfl,k8,hp,hl,λH' s'=>⟨_,rfl,?_⟩⟩
   cases hn:tI ms k with
   |true =>
    rw[hn,if_pos rfl]at q;exact bZ (q rfl _ s')
   |false =>
    rw[hn,if_neg ma]at qx;refine dW ⟨_,rfl,B,c,ms,os,rfl,hp.same s',hl,λH2 s2=>⟨_,rfl,?_⟩⟩
    cases hm:ux ms with
    |true =>
     rw[hm,if_pos rfl]at qx;exact dW ⟨by decide,qx _ rfl _ _ _ (s'.trans s2) ⟨⟨rfl,rfl⟩,λ_ z=>nomatch z⟩⟩
    |false =>
     rw[hm,if_neg ma]at qx;refine bZ ⟨_,rfl,nm k,.str,?_,?_,?_⟩
     ·have:∀k,k < 8->(nm k).length<=10:=by trivial
      exact adm (this k k8) (by decide)
     ·have:∀k,k < 8->(akw++nm k:Str).length<=10:=by trivial
      exact adm (this k k8) (by decide)
     ·have:∀k,k < 8->((akw++nm k)++ar " needs a matter on the pile":Str).length<=100:=by trivial
      have l:=adm (this k k8) (show 100<=gr by decide)
      exact⟨l,l,(sl 1),qx _ rfl _ _ _ (s'.trans s2) ⟨⟨rfl,rfl⟩,λ_ z=>nomatch z⟩⟩
theorem jU (T:Txt w.params K mg A):a7 P w K mg base CX0 1 A.f_n A.EL ["self"] (EX 0):=by
 refine T.F_n.ok AY (λvs H Q E h=>?_) (λcdv A' outer s H vs Q E hr h=>?_)
 ·obtain⟨m,rfl,_⟩:=h;rfl
 ·obtain⟨m,rfl,q⟩:=h;exact⟨_,(aj (aG ao)),q⟩
theorem Mu (T:Txt w.params K mg A):a7 P w K mg base CX0 1 A.VB A.Oy ["self"] (EX 4):=by
 refine T.aal.ok Cy (λvs H Q E h=>?_) (λcdv A' outer s H vs Q E hr h=>?_)
 ·obtain⟨m,rfl,_⟩:=h;rfl
 ·obtain⟨m,rfl,q⟩:=h;exact⟨_,(aj (aG ao)),q⟩
theorem Rx (T:Txt w.params K mg A):∀k,k < 8->a7 P w K mg base CX0 1 (A.fn k) (A.fnd k) ["self"] (EX k)
 | 0,_=>jU T
 | 1,_=>jU T
 | 2,_=>jU T
 | 3,_=>jU T
 | 4,_=>Mu T
 | 5,_=>jU T
 | 6,_=>jU T
 | 7,_=>jU T
 |n+8,h=>absurd h (by omega)
end
theorem lT {a b:Nat}:((kf (a:Int):Key)=kf (b:Int))↔a=b:=⟨λh=>by have:=Sum.inl.inj h;omega,λh=>by rw[h]⟩
theorem cZ {k:Nat}{v:V}{ks:List Nat}{vs:List V}:aZ ((k::ks).zip (v::vs))=(kf (k:Int),v)::aZ (ks.zip vs):=rfl
theorem qT {n:Nat}:∀ {ks:List Nat} {vs:List V},n∉ks->gW (aZ (ks.zip vs)) (kf (n:Int))=none
 |[],_,_=>rfl
 |_::_,[],_=>rfl
 |k::ks,v::vs,h=>by
  rw[cZ,bV (λz=>h (by rw[lT.mp z];exact fe))]
  exact qT λz=>h (ky _ z)
theorem DH {n:Nat}{v:V}:∀ {ks:List Nat} {vs:List V} {j:Nat},ks.Nodup->ks[j]?=some n->vs[j]?=some v->gW (aZ (ks.zip vs)) (kf (n:Int))=some v
 |[],_,_,_,h,_=>by simp at h
 |_::_,[],_,_,_,h=>by simp at h
 |k::ks,u::vs,0,_,h,g=>by
  rw[aj8]at h g;cases h;cases g;exact eV rfl
 |k::ks,u::vs,j+1,nd,h,g=>by
  rw[akn]at h g;obtain⟨n1,n2⟩:=List.nodup_cons.mp nd;rw[cZ,bV (λz=>n1 (by rw[lT.mp z];exact akl h))]
  exact DH n2 h g
theorem wU {n:Nat}{v:V}:∀ {ks:List Nat} {vs:List V},n∉ks->(aZ (ks.zip vs)).map (λkv=>if kv.1=(kf (n:Int):Key) then (kv.1,v) else kv)=aZ (ks.zip vs)
 |[],_,_=>rfl
 |_::_,[],_=>rfl
 |k::ks,u::vs,h=>by
  rw[cZ,km,wU λz=>h (ky _ z),if_neg (λz=>h (by rw[lT.mp z];exact fe))]
theorem DI {n:Nat}{v:V}:∀ {ks:List Nat} {vs:List V} {j:Nat},ks.Nodup->ks[j]?=some n->(aZ (ks.zip vs)).map (λkv=>if kv.1=(kf (n:Int):Key) then (kv.1,v) else kv)=aZ (ks.zip (vs.set j v))
 |[],_,_,_,h=>by simp at h
 |k::ks,[],_,_,_=>by simp[aZ]
 |k::ks,u::vs,0,nd,h=>by
  rw[aj8]at h;cases h;rw[cZ,km,wU (List.nodup_cons.mp nd).1,if_pos rfl];rfl
 |k::ks,u::vs,j+1,nd,h=>by
  rw[akn]at h;obtain⟨n1,n2⟩:=List.nodup_cons.mp nd;rw[cZ,km,DI n2 h,if_neg (λz=>n1 (by rw[lT.mp z];exact akl h))]
  rfl
theorem DJ {n:Nat}{v:V}{ks:List Nat}{vs:List V}{j:Nat}(nd:ks.Nodup)(h:ks[j]?=some n)(l:ks.length=vs.length):putK (aZ (ks.zip vs)) (kf (n:Int)) v=aZ (ks.zip (vs.set j v)):=by
 have hj:j < vs.length:=by rw[<-l];exact(List.getElem?_eq_some_iff.mp h).1
 unfold putK;rw[sE,DH nd h (wa hj)];exact(if_pos rfl).trans (DI nd h)
theorem jV {n:Nat}{v:V}{ks:List Nat}{vs:List V}(h:n∉ks)(l:ks.length=vs.length):putK (aZ (ks.zip vs)) (kf (n:Int)) v=aZ ((ks++[n]).zip (vs++[v])):=by
 rw[Oe v (qT h),List.zip_append l];unfold aZ;rw[kx];rfl
section
variable{β:Type}{R:Nat×β->V->Prop}
def at1 (n:Nat)(xs:List (Nat×β)):Option (Nat×β):=xs.find? λx=>decide (x.1=n)
theorem dC {n:Nat}{xs:List (Nat×β)}{x:Nat×β}(h:at1 n xs=some x):x.1=n/\x∈xs:=by
 unfold at1 at h;have:=List.find?_some h;exact⟨of_decide_eq_true this,List.mem_of_find?_eq_some h⟩
theorem wV {n:Nat}{xs:List (Nat×β)}(h:at1 n xs=none):n∉xs.map (·.1):=λz=>by
 obtain⟨x,hx,e⟩:=List.mem_map.mp z;have:=List.find?_eq_none.mp h x hx;exact this (decide_eq_true e)
theorem bD.val {n:Nat}:∀ {xs:List (Nat×β)} {ws:List V} {x:Nat×β},bD R xs ws->at1 n xs=some x->∃v,gW (aZ ((xs.map (·.1)).zip ws)) (kf (n:Int))=some v/\R x v
 |_,_,_,.nil,h=>nomatch h
 |y::xs,w::ws,x,.cons g t,h=>by
  unfold at1 at h;rw[akz]at h
  by_cases e:y.1=n
  ·rw[decide_eq_true e]at h;cases h;exact⟨w,by rw[km,cZ];exact eV (lT.mpr e),g⟩
  ·rw[decide_eq_false e]at h;obtain⟨v,h1,h2⟩:=bD.val t h;exact⟨v,by rw[km,cZ,bV (λz=>e (lT.mp z))];exact h1,h2⟩
theorem bD.drop {n:Nat}:∀ {xs:List (Nat×β)} {ws:List V},bD R xs ws->∃ws',iG (aZ ((xs.map (·.1)).zip ws)) (kf (n:Int))=aZ (((xs.filter λx=>decide (x.1≠n)).map (·.1)).zip ws')/\bD R (xs.filter λx=>decide (x.1≠n)) ws'
 |_,_,.nil=>⟨[],rfl,.nil⟩
 |y::xs,w::ws,.cons g t=>by
  obtain⟨ws',h1,h2⟩:=bD.drop (n:=n) t
  by_cases e:y.1=n
  ·refine⟨ws',?_,?_⟩
   ·rw[List.filter_cons_of_neg (by simp[e]),<-h1,km,cZ]
    unfold iG;rw[List.filter_cons_of_neg (by simp[e])]
   ·rw[List.filter_cons_of_neg (by simp[e])];exact h2
  ·refine⟨w::ws',?_,?_⟩
   ·rw[List.filter_cons_of_pos (by simp[e]),km,km,cZ,cZ,<-h1]
    unfold iG;have hne:(kf (y.1:Int):Key)≠kf (n:Int):=λz=>e (lT.mp z)
    rw[List.filter_cons_of_pos (by exact decide_eq_true hne)]
   ·rw[List.filter_cons_of_pos (by simp[e])];exact .cons g h2
theorem bD.aaC {R':Nat×β->V->Prop}{n:Nat}{f:Nat×β->Nat×β}{v:V}(h1:∀x,x.1=n->R x v->R' (f x) v)(h2:∀x u,x.1≠n->R x u->R' x u):∀ {xs:List (Nat×β)} {ws:List V},bD R xs ws->(xs.map (·.1)).Nodup->gW (aZ ((xs.map (·.1)).zip ws)) (kf (n:Int))=some v ->
  bD R' (xs.map λx=>if x.1=n then f x else x) ws
 |_,_,.nil,_,h=>nomatch h
 |y::xs,w::ws,.cons g t,nd,h=>by
  rw[km]at nd;obtain⟨n1,n2⟩:=List.nodup_cons.mp nd;rw[km,cZ]at h;rw[km]
  by_cases e:y.1=n
  ·rw[eV (lT.mpr e)]at h;cases h;rw[if_pos e];refine .cons (h1 y e g) ?_;have hne:∀x∈xs,x.1≠n:=λx hx z=>n1 (by rw[e,<-z];exact alp hx)
   have em:xs.map (λx=>if x.1=n then f x else x)=xs:=by
    have:xs.map (λx=>if x.1=n then f x else x)=xs.map id:=ald λx hx=>if_neg (hne x hx)
    rw[this,List.map_id]
   rw[em];exact t.imp_mem λx hx u=>h2 x u (hne x hx)
  ·rw[bV (λz=>e (lT.mp z))]at h
   rw[if_neg e];exact .cons (h2 y w e g) (bD.aaC h1 h2 t n2 h)
end
theorem bD.set {α β:Type}{R:α->β->Prop}:∀ {as:List α} {bs:List β} {a:α} {b:β} (j:Nat),bD R as bs->R a b->bD R (as.set j a) (bs.set j b)
 |_,_,_,_,_,.nil,_=>.nil
 |_,_,_,_,0,.cons _ t,h=>.cons h t
 |_,_,_,_,j+1,.cons g t,h=>.cons g (t.set j h)
def pOb:Rl->Bool | .ob=>true | _=>false
def Tr:Rl->Bool | .rows=>true | _=>false
def LO:Rl->Bool | .made=>true | _=>false
def Ts:Rl->Bool | .au=>true | _=>false
def Ry:Rl->Bool | .ob=>true | .au=>true | .aH=>true | _=>false
def LP (n:Nat):Rl->Bool | .gO m=>decide (m=n) | _=>false
def aaD:Rl->Bool | .firsts=>true | _=>false
def aaE:Rl->Bool | .kept=>true | _=>false
def LQ (n:Nat):Rl->Bool | .ob=>true | .aH=>true | .fA m=>decide (m=n) | _=>false
theorem d5 {i:Nat}{c:Col}{a b:Addr}{r r':Rl}(h:c a=some (i,r))(h':c b=some (i,r'))(n:r≠r'):a≠b:=λz=>by
 rw[z,h']at h;cases h;exact n rfl
section
variable{A:Adr}{i:Nat}{c c':Col}{H H':Hp}{o dx aM aP aA aD aF aE aR:Addr}{st:Ch}{ms ds:List Addr}{ws fs es:List V}
theorem ChX.free {W:Option (Nat×Rl)->Prop}(h:∀r,¬W (some (i,r)))(s:Step W c c' H H')(X:ChX A i c H o st dx aM aP aA aD aF aE aR ms ds ws fs es):ChX A i c' H' o st dx aM aP aA aD aF aE aR ms ds ws fs es:=by
 have hn:¬W (c o):=by rw[X.co];exact h _
 refine⟨by rw[s.col o _ X.ob hn];exact X.co,s.keep _ _ X.ob hn,X.made.keep (h _) s,tG s X.mot,X.au.keep (h _) s,X.aH.keep (h _) s,X.wait.imp ?_,X.dec.keep (h _) s,jn s X.mS,X.firsts.keep (h _) s,X.first.imp ?_,X.jx.keep (h _) s,X.kept.imp ?_,X.rows.keep (h _) s⟩
 ·rintro x v ⟨t,p,e,z1,z2⟩;exact⟨t,p,e,z1.step s,z2.keep (h _) s⟩
 ·rintro x v ⟨p,e,z⟩;exact⟨p,e,z.keep (h _) s⟩
 ·rintro x v ⟨p,ts,e,z1,z2⟩;exact⟨p,ts,e,z1.keep (h _) s,z2.imp λ_ _ y=>y.step s⟩
theorem ChX.same (s:bu H H')(X:ChX A i c H o st dx aM aP aA aD aF aE aR ms ds ws fs es):ChX A i c H' o st dx aM aP aA aD aF aE aR ms ds ws fs es:=X.free (W:=λ_=>False) (λ_=>id) (Step.same id s)
theorem ChX.cl (s:bu H H')(X:ChX A i c H o st dx aM aP aA aD aF aE aR ms ds ws fs es):ChX A i (bS c H) H' o st dx aM aP aA aD aF aE aR ms ds ws fs es:=X.free (W:=λ_=>False) (λ_=>id) (Step.cl id s)
theorem ChX.at (X:ChX A i c H o st dx aM aP aA aD aF aE aR ms ds ws fs es):eP A i c H o st:=⟨_,_,_,_,_,_,_,_,_,_,_,_,_,X⟩
theorem ChX.attr (X:ChX A i c H o st dx aM aP aA aD aF aE aR ms ds ws fs es)(n:Int)(b:Bool) :
  Step (Wr i pOb) c c H (upd H o (.ins A.ax dx (chF (.int st.cK) (.int n) (.bl b) (.ref aM) (.ref aP) (.ref aA) (.ref aD) (.ref aF) (.ref aE) (.ref aR)))) /\
  ChX A i c (upd H o (.ins A.ax dx (chF (.int st.cK) (.int n) (.bl b) (.ref aM) (.ref aP) (.ref aA) (.ref aD) (.ref aF) (.ref aE) (.ref aR)))) o { st with aT:=n,closed:=b } dx aM aP aA aD aF aE aR ms ds ws fs es:=by
 have s:Step (Wr i pOb) c c H (upd H o (.ins A.ax dx (chF (.int st.cK) (.int n) (.bl b) (.ref aM) (.ref aP) (.ref aA) (.ref aD) (.ref aF) (.ref aE) (.ref aR)))):=Step.upd Wr.nn (Wr.yes X.co rfl);exact⟨s,X.co,ae,X.made.kp rfl s,tG s X.mot,X.au.kp rfl s,X.aH.kp rfl s,kU (λ_ _=>rfl) s X.wait,X.dec.kp rfl s,jn s X.mS,X.firsts.kp rfl s,uF (λ_ _=>rfl) s X.first,X.jx.kp rfl s,wO (λ_ _=>rfl) s X.kept,X.rows.kp rfl s⟩
theorem ChX.row (X:ChX A i c H o st dx aM aP aA aD aF aE aR ms ds ws fs es)(z:Str) :
  Step (Wr i Tr) c c H (upd H aR (.lst (st.rows.map V.str++[.str z])))/\ChX A i c (upd H aR (.lst (st.rows.map V.str++[.str z]))) o { st with rows:=st.rows++[z] } dx aM aP aA aD aF aE aR ms ds ws fs es:=by
 have s:Step (Wr i Tr) c c H (upd H aR (.lst (st.rows.map V.str++[.str z]))):=Step.upd Wr.nn (Wr.yes X.rows.1 rfl);have k:=mQ rfl s X.co X.ob;exact⟨s,k.1,k.2,X.made.kp rfl s,tG s X.mot,X.au.kp rfl s,X.aH.kp rfl s,kU (λ_ _=>rfl) s X.wait,X.dec.kp rfl s,jn s X.mS,X.firsts.kp rfl s,uF (λ_ _=>rfl) s X.first,X.jx.kp rfl s,wO (λ_ _=>rfl) s X.kept,X.rows.1,by rw[ae,kx];rfl⟩
theorem ChX.push (X:ChX A i c H o st dx aM aP aA aD aF aE aR ms ds ws fs es)(n:Nat) :
  Step (Wr i Ts) c c H (upd H aP (.lst (st.au.map nV++[nV n])))/\ChX A i c (upd H aP (.lst (st.au.map nV++[nV n]))) o { st with au:=st.au++[n] } dx aM aP aA aD aF aE aR ms ds ws fs es:=by
 have s:Step (Wr i Ts) c c H (upd H aP (.lst (st.au.map nV++[nV n]))):=Step.upd Wr.nn (Wr.yes X.au.1 rfl);have k:=mQ rfl s X.co X.ob;exact⟨s,k.1,k.2,X.made.kp rfl s,tG s X.mot,⟨X.au.1,by rw[ae,kx];rfl⟩,X.aH.kp rfl s,kU (λ_ _=>rfl) s X.wait,X.dec.kp rfl s,jn s X.mS,X.firsts.kp rfl s,uF (λ_ _=>rfl) s X.first,X.jx.kp rfl s,wO (λ_ _=>rfl) s X.kept,X.rows.kp rfl s⟩
theorem Gj {n k:Nat}(h1:1<=n)(h2:n<=k):(aku 1 k)[n - 1]?=some n:=by
 rw[List.getElem?_range' (by omega)]
 congr 1
 omega
theorem ChX.LR (X:ChX A i c H o st dx aM aP aA aD aF aE aR ms ds ws fs es){n:Nat}{m:Mn}{x:Addr}(hn:cY st n)(hm:mR A c H m x) :
  Step (Wr i LO) c c H (upd H aM (.dK (putK (aZ ((aku 1 st.made.length).zip (ms.map V.ref))) (kf (n:Int)) (.ref x)))) /\
  ChX A i c (upd H aM (.dK (putK (aZ ((aku 1 st.made.length).zip (ms.map V.ref))) (kf (n:Int)) (.ref x)))) o { st with made:=st.made.set (n - 1) m } dx aM aP aA aD aF aE aR (ms.set (n - 1) x) ds ws fs es:=by
 have s:Step (Wr i LO) c c H (upd H aM (.dK (putK (aZ ((aku 1 st.made.length).zip (ms.map V.ref))) (kf (n:Int)) (.ref x)))):=Step.upd Wr.nn (Wr.yes X.made.1 rfl);have k:=mQ rfl s X.co X.ob;have ml:=X.mot.len;have e:=DJ (v:=.ref x) (List.nodup_range' (s:=1) (n:=st.made.length)) (Gj hn.1 hn.2) (vs:=ms.map V.ref) (by rw[akN,ba];exact ml)
 have hd:iS i c (upd H aM (.dK (putK (aZ ((aku 1 st.made.length).zip (ms.map V.ref))) (kf (n:Int)) (.ref x)))) .made aM ((aku 1 (st.made.set (n - 1) m).length).zip ((ms.set (n - 1) x).map V.ref)) :=
  ⟨X.made.1,by rw[ae,e,ak4,List.map_set]⟩
 exact⟨s,k.1,k.2,hd,(tG s X.mot).set _ (hm.step s),X.au.kp rfl s,X.aH.kp rfl s,kU (λ_ _=>rfl) s X.wait,X.dec.kp rfl s,jn s X.mS,X.firsts.kp rfl s,uF (λ_ _=>rfl) s X.first,X.jx.kp rfl s,wO (λ_ _=>rfl) s X.kept,X.rows.kp rfl s⟩
theorem ChX.Rz (X:ChX A i c H o st dx aM aP aA aD aF aE aR ms ds ws fs es){m:Mn}{x:Addr}(hm:mR A c H m x) :
  Step (Wr i LO) c c H (upd H aM (.dK (putK (aZ ((aku 1 st.made.length).zip (ms.map V.ref))) (kf ((st.made.length+1:Nat):Int)) (.ref x)))) /\
  ChX A i c (upd H aM (.dK (putK (aZ ((aku 1 st.made.length).zip (ms.map V.ref))) (kf ((st.made.length+1:Nat):Int)) (.ref x)))) o { st with made:=st.made++[m] } dx aM aP aA aD aF aE aR (ms++[x]) ds ws fs es:=by
 have s:Step (Wr i LO) c c H (upd H aM (.dK (putK (aZ ((aku 1 st.made.length).zip (ms.map V.ref))) (kf ((st.made.length+1:Nat):Int)) (.ref x)))):=Step.upd Wr.nn (Wr.yes X.made.1 rfl);have k:=mQ rfl s X.co X.ob;have ml:=X.mot.len;have e:=jV (v:=.ref x) (n:=st.made.length+1) (ks:=aku 1 st.made.length) (vs:=ms.map V.ref) (by rw[ala];omega) (by rw[akN,ba];exact ml)
 have hd:iS i c (upd H aM (.dK (putK (aZ ((aku 1 st.made.length).zip (ms.map V.ref))) (kf ((st.made.length+1:Nat):Int)) (.ref x)))) .made aM ((aku 1 (st.made++[m]).length).zip ((ms++[x]).map V.ref)) :=
  ⟨X.made.1,by rw[ae,e,me,akh,List.range'_concat,kx,Nat.one_mul,Nat.add_comm 1];rfl⟩
 exact⟨s,k.1,k.2,hd,(tG s X.mot).snoc (hm.step s),X.au.kp rfl s,X.aH.kp rfl s,kU (λ_ _=>rfl) s X.wait,X.dec.kp rfl s,jn s X.mS,X.firsts.kp rfl s,uF (λ_ _=>rfl) s X.first,X.jx.kp rfl s,wO (λ_ _=>rfl) s X.kept,X.rows.kp rfl s⟩
def p6 (n:Nat)(e:Ed)(xs:List (Nat×List Ed)):List (Nat×List Ed):=xs.map λx=>if x.1=n then (x.1,x.2++[e]) else x
theorem ChX.gv (X:ChX A i c H o st dx aM aP aA aD aF aE aR ms ds ws fs es){n:Nat}{x:Nat×List Ed}(hx:at1 n st.kept=some x):∃(p:Addr) (ts:List Addr),gW (aZ ((st.kept.map (·.1)).zip es)) (kf (n:Int))=some (.ref p)/\LstAt i c H (.gO n) p (ts.map V.ref)/\ts.length=x.2.length:=by
 obtain⟨v,h1,p,ts,rfl,h2,h3⟩:=X.kept.val hx;rw[(dC hx).1]at h2;exact⟨p,ts,h1,h2,h3.len.symm⟩
theorem ChX.E9 (X:ChX A i c H o st dx aM aP aA aD aF aE aR ms ds ws fs es){n:Nat}{e:Ed}{t p:Addr}{ts:List Addr}(hv:gW (aZ ((st.kept.map (·.1)).zip es)) (kf (n:Int))=some (.ref p))(hl:LstAt i c H (.gO n) p (ts.map V.ref))(nd:(st.kept.map (·.1)).Nodup)(ht:TupAt c H t (dH e)) :
  Step (Wr i (LP n)) c c H (upd H p (.lst (ts.map V.ref++[.ref t])))/\ChX A i c (upd H p (.lst (ts.map V.ref++[.ref t]))) o { st with kept:=p6 n e st.kept } dx aM aP aA aD aF aE aR ms ds ws fs es:=by
 have s:Step (Wr i (LP n)) c c H (upd H p (.lst (ts.map V.ref++[.ref t]))):=Step.upd Wr.nn (Wr.yes hl.1 (decide_eq_true rfl));have k:=mQ rfl s X.co X.ob;have ek:(p6 n e st.kept).map (·.1)=st.kept.map (·.1):=by
  unfold p6;rw[List.map_map];refine ald λx _=>?_
  show (if x.1=n then (x.1,x.2++[e]) else x).1=x.1
  split <;> rfl
 refine⟨s,k.1,k.2,X.made.kp rfl s,tG s X.mot,X.au.kp rfl s,X.aH.kp rfl s,kU (λ_ _=>rfl) s X.wait,X.dec.kp rfl s,jn s X.mS,X.firsts.kp rfl s,uF (λ_ _=>rfl) s X.first,by show iS i c _ .kept aE (((p6 n e st.kept).map (·.1)).zip es);rw[ek];exact X.jx.kp rfl s,?_,X.rows.kp rfl s⟩
 refine bD.aaC (f:=λx=>(x.1,x.2++[e])) (v:=.ref p) ?_ ?_ X.kept nd hv
 ·rintro x e1 ⟨q,us,e2,z1,z2⟩;cases e2;have e3:us.map V.ref=ts.map V.ref:=by
   have:=z1.2;rw[hl.2]at this;injection this with this
   injection this with this
   exact this.symm
  refine⟨p,us++[t],rfl,⟨z1.1,?_⟩,(z2.imp λ_ _ y=>y.step s).snoc (ht.step s)⟩
  rw[ae,<-e3,kx];rfl
 ·rintro x u e1 ⟨q,us,rfl,z1,z2⟩;exact⟨q,us,rfl,z1.kp (decide_eq_false e1) s,z2.imp λ_ _ y=>y.step s⟩
theorem ChX.O6 (X:ChX A i c H o st dx aM aP aA aD aF aE aR ms ds ws fs es){n:Nat}{tx:List Str}{p:Addr}(hp:H p=none)(hn:n∉st.firsts.map (·.1)) :
  Step (Wr i aaD) c (ay c p (some (i,.dA n))) H (upd (upd H p (.lst (tx.map V.str))) aF (.dK (putK (aZ ((st.firsts.map (·.1)).zip fs)) (kf (n:Int)) (.ref p)))) /\
  ChX A i (ay c p (some (i,.dA n))) (upd (upd H p (.lst (tx.map V.str))) aF (.dK (putK (aZ ((st.firsts.map (·.1)).zip fs)) (kf (n:Int)) (.ref p)))) o { st with firsts:=st.firsts++[(n,tx)] } dx aM aP aA aD aF aE aR ms ds ws (fs++[.ref p]) es:=by
 have np:∀ {a:Addr} {v:HO},H a=some v->a≠p:=λe=>aI e hp
 have s:Step (Wr i aaD) c (ay c p (some (i,.dA n))) H (upd (upd H p (.lst (tx.map V.str))) aF (.dK (putK (aZ ((st.firsts.map (·.1)).zip fs)) (kf (n:Int)) (.ref p)))) :=
  (Step.new Wr.nn hp).trans (Step.upd Wr.nn ⟨.firsts,by rw[av (np X.firsts.2)];exact X.firsts.1,rfl⟩)
 have k:=mQ rfl s X.co X.ob;have e:=jV (v:=.ref p) hn (vs:=fs) (by rw[ba];exact X.first.len)
 have hd:iS i (ay c p (some (i,.dA n))) (upd (upd H p (.lst (tx.map V.str))) aF (.dK (putK (aZ ((st.firsts.map (·.1)).zip fs)) (kf (n:Int)) (.ref p)))) .firsts aF (((st.firsts++[(n,tx)]).map (·.1)).zip (fs++[.ref p])) :=
  ⟨by rw[av (np X.firsts.2)];exact X.firsts.1,by rw[ae,e,kx];rfl⟩
 have hl:E5 i (ay c p (some (i,.dA n))) (upd (upd H p (.lst (tx.map V.str))) aF (.dK (putK (aZ ((st.firsts.map (·.1)).zip fs)) (kf (n:Int)) (.ref p)))) (n,tx) (.ref p) :=
  ⟨p,rfl,aW,(aw (np X.firsts.2).symm).trans ae⟩
 exact⟨s,k.1,k.2,X.made.kp rfl s,tG s X.mot,X.au.kp rfl s,X.aH.kp rfl s,kU (λ_ _=>rfl) s X.wait,X.dec.kp rfl s,jn s X.mS,hd,(uF (λ_ _=>rfl) s X.first).snoc hl,X.jx.kp rfl s,wO (λ_ _=>rfl) s X.kept,X.rows.kp rfl s⟩
theorem ChX.RA (X:ChX A i c H o st dx aM aP aA aD aF aE aR ms ds ws fs es){n:Nat}{p:Addr}(hp:H p=none)(hn:n∉st.kept.map (·.1)) :
  Step (Wr i aaE) c (ay c p (some (i,.gO n))) H (upd (upd H p (.lst [])) aE (.dK (putK (aZ ((st.kept.map (·.1)).zip es)) (kf (n:Int)) (.ref p)))) /\
  ChX A i (ay c p (some (i,.gO n))) (upd (upd H p (.lst [])) aE (.dK (putK (aZ ((st.kept.map (·.1)).zip es)) (kf (n:Int)) (.ref p)))) o { st with kept:=st.kept++[(n,([]:List Ed))] } dx aM aP aA aD aF aE aR ms ds ws fs (es++[.ref p]):=by
 have np:∀ {a:Addr} {v:HO},H a=some v->a≠p:=λe=>aI e hp
 have s:Step (Wr i aaE) c (ay c p (some (i,.gO n))) H (upd (upd H p (.lst [])) aE (.dK (putK (aZ ((st.kept.map (·.1)).zip es)) (kf (n:Int)) (.ref p)))) :=
  (Step.new Wr.nn hp).trans (Step.upd Wr.nn ⟨.kept,by rw[av (np X.jx.2)];exact X.jx.1,rfl⟩)
 have k:=mQ rfl s X.co X.ob;have e:=jV (v:=.ref p) hn (vs:=es) (by rw[ba];exact X.kept.len)
 have hd:iS i (ay c p (some (i,.gO n))) (upd (upd H p (.lst [])) aE (.dK (putK (aZ ((st.kept.map (·.1)).zip es)) (kf (n:Int)) (.ref p)))) .kept aE (((st.kept++[(n,([]:List Ed))]).map (·.1)).zip (es++[.ref p])) :=
  ⟨by rw[av (np X.jx.2)];exact X.jx.1,by rw[ae,e,kx];rfl⟩
 have hl:LM i (ay c p (some (i,.gO n))) (upd (upd H p (.lst [])) aE (.dK (putK (aZ ((st.kept.map (·.1)).zip es)) (kf (n:Int)) (.ref p)))) (n,[]) (.ref p) :=
  ⟨p,[],rfl,⟨aW,(aw (np X.jx.2).symm).trans ae⟩,.nil⟩
 exact⟨s,k.1,k.2,X.made.kp rfl s,tG s X.mot,X.au.kp rfl s,X.aH.kp rfl s,kU (λ_ _=>rfl) s X.wait,X.dec.kp rfl s,jn s X.mS,X.firsts.kp rfl s,uF (λ_ _=>rfl) s X.first,hd,(wO (λ_ _=>rfl) s X.kept).snoc hl,X.rows.kp rfl s⟩
def Ch.lU (st:Ch)(n:Nat)(u:Int):Ch:={ st with au:=[],aH:=st.aH++[(n,u,st.au)] }
theorem ChX.lU (X:ChX A i c H o st dx aM aP aA aD aF aE aR ms ds ws fs es){n:Nat}{u:Int}{t p:Addr}(ht:H t=none)(hp:H p=none)(ntp:p≠t)(hn:n∉st.aH.map (·.1)) :
  ∃c',Step (Wr i Ry) c c' H (upd (upd (upd (upd H t (.tup [.int u,.ref aP])) aA (.dK (putK (aZ ((st.aH.map (·.1)).zip ws)) (kf (n:Int)) (.ref t)))) p (.lst [])) o (.ins A.ax dx (chF (.int st.cK) (.int st.aT) (.bl st.closed) (.ref aM) (.ref p) (.ref aA) (.ref aD) (.ref aF) (.ref aE) (.ref aR)))) /\
  ChX A i c' (upd (upd (upd (upd H t (.tup [.int u,.ref aP])) aA (.dK (putK (aZ ((st.aH.map (·.1)).zip ws)) (kf (n:Int)) (.ref t)))) p (.lst [])) o (.ins A.ax dx (chF (.int st.cK) (.int st.aT) (.bl st.closed) (.ref aM) (.ref p) (.ref aA) (.ref aD) (.ref aF) (.ref aE) (.ref aR)))) o (st.lU n u) dx aM p aA aD aF aE aR ms ds (ws++[.ref t]) fs es:=by
 have nt:∀ {a:Addr} {v:HO},H a=some v->a≠t:=λe=>aI e ht
 have np:∀ {a:Addr} {v:HO},H a=some v->a≠p:=λe=>aI e hp
 have oA:o≠aA:=d5 X.co X.aH.1 (λz=>nomatch z)
 have oP:o≠aP:=d5 X.co X.au.1 (λz=>nomatch z)
 have AP:aA≠aP:=d5 X.aH.1 X.au.1 (λz=>nomatch z)
 have e:=jV (v:=.ref t) hn (vs:=ws) (by rw[ba];exact X.wait.len)
 have hp2:(upd (upd H t (.tup [.int u,.ref aP])) aA (.dK (putK (aZ ((st.aH.map (·.1)).zip ws)) (kf (n:Int)) (.ref t)))) p=none:=by
  rw[aw (np X.aH.2).symm,aw ntp];exact hp
 refine⟨ay (ay (ay c t none) p (some (i,.au))) aP (some (i,.fA n)),?_⟩;have s:Step (Wr i Ry) c (ay (ay (ay c t none) p (some (i,.au))) aP (some (i,.fA n))) H (upd (upd (upd (upd H t (.tup [.int u,.ref aP])) aA (.dK (putK (aZ ((st.aH.map (·.1)).zip ws)) (kf (n:Int)) (.ref t)))) p (.lst [])) o (.ins A.ax dx (chF (.int st.cK) (.int st.aT) (.bl st.closed) (.ref aM) (.ref p) (.ref aA) (.ref aD) (.ref aF) (.ref aE) (.ref aR)))):=by
  refine((((Step.new Wr.nn ht).trans (Step.upd Wr.nn ⟨.aH,?_,rfl⟩)).trans (Step.new Wr.nn hp2)).trans (Step.upd Wr.nn ⟨.ob,?_,rfl⟩)).trans (Step.role Wr.nn ⟨.au,?_,rfl⟩)
  ·rw[av (nt X.aH.2)];exact X.aH.1
  ·rw[av (np X.ob),av (nt X.ob)];exact X.co
  ·rw[av (np X.au.2),av (nt X.au.2)];exact X.au.1
 have k1:ay (ay (ay c t none) p (some (i,.au))) aP (some (i,.fA n)) o=some (i,.ob):=by
  rw[av oP,av (np X.ob),av (nt X.ob)];exact X.co
 have hd:iS i (ay (ay (ay c t none) p (some (i,.au))) aP (some (i,.fA n))) (upd (upd (upd (upd H t (.tup [.int u,.ref aP])) aA (.dK (putK (aZ ((st.aH.map (·.1)).zip ws)) (kf (n:Int)) (.ref t)))) p (.lst [])) o (.ins A.ax dx (chF (.int st.cK) (.int st.aT) (.bl st.closed) (.ref aM) (.ref p) (.ref aA) (.ref aD) (.ref aF) (.ref aE) (.ref aR)))) .aH aA (((st.aH++[(n,u,st.au)]).map (·.1)).zip (ws++[.ref t])) :=
  ⟨by rw[av AP,av (np X.aH.2),av (nt X.aH.2)];exact X.aH.1,by rw[aw oA.symm,aw (np X.aH.2),ae,e,kx];rfl⟩
 have hl:LstAt i (ay (ay (ay c t none) p (some (i,.au))) aP (some (i,.fA n))) (upd (upd (upd (upd H t (.tup [.int u,.ref aP])) aA (.dK (putK (aZ ((st.aH.map (·.1)).zip ws)) (kf (n:Int)) (.ref t)))) p (.lst [])) o (.ins A.ax dx (chF (.int st.cK) (.int st.aT) (.bl st.closed) (.ref aM) (.ref p) (.ref aA) (.ref aD) (.ref aF) (.ref aE) (.ref aR)))) (.fA n) aP (st.au.map nV) :=
  ⟨aW,by rw[aw oP.symm,aw (np X.au.2),aw AP.symm,aw (nt X.au.2)];exact X.au.2⟩
 have hn':LstAt i (ay (ay (ay c t none) p (some (i,.au))) aP (some (i,.fA n))) (upd (upd (upd (upd H t (.tup [.int u,.ref aP])) aA (.dK (putK (aZ ((st.aH.map (·.1)).zip ws)) (kf (n:Int)) (.ref t)))) p (.lst [])) o (.ins A.ax dx (chF (.int st.cK) (.int st.aT) (.bl st.closed) (.ref aM) (.ref p) (.ref aA) (.ref aD) (.ref aF) (.ref aE) (.ref aR)))) .au p [] :=
  ⟨by rw[av (np X.au.2).symm,aW],by rw[aw (np X.ob).symm,ae]⟩
 have htt:TupAt (ay (ay (ay c t none) p (some (i,.au))) aP (some (i,.fA n))) (upd (upd (upd (upd H t (.tup [.int u,.ref aP])) aA (.dK (putK (aZ ((st.aH.map (·.1)).zip ws)) (kf (n:Int)) (.ref t)))) p (.lst [])) o (.ins A.ax dx (chF (.int st.cK) (.int st.aT) (.bl st.closed) (.ref aM) (.ref p) (.ref aA) (.ref aD) (.ref aF) (.ref aE) (.ref aR)))) t [.int u,.ref aP] :=
  ⟨by rw[av (nt X.au.2).symm,av ntp.symm,aW],.inl (by rw[aw (nt X.ob).symm,aw ntp.symm,aw (nt X.aH.2).symm,ae])⟩
 exact⟨s,k1,ae,X.made.kp rfl s,tG s X.mot,hn',hd,(kU (λ_ _=>rfl) s X.wait).snoc ⟨t,aP,rfl,htt,hl⟩,X.dec.kp rfl s,jn s X.mS,X.firsts.kp rfl s,uF (λ_ _=>rfl) s X.first,X.jx.kp rfl s,wO (λ_ _=>rfl) s X.kept,X.rows.kp rfl s⟩
def Ch.rA (st:Ch)(n:Nat)(pl:List Nat):Ch:={ st with au:=pl,aH:=st.aH.filter λx=>decide (x.1≠n) }
theorem ChX.waitOf (X:ChX A i c H o st dx aM aP aA aD aF aE aR ms ds ws fs es){n:Nat}{x:Nat×Int×List Nat}(hx:at1 n st.aH=some x):∃t p,gW (aZ ((st.aH.map (·.1)).zip ws)) (kf (n:Int))=some (.ref t)/\TupAt c H t [.int x.2.1,.ref p]/\LstAt i c H (.fA n) p (x.2.2.map nV):=by
 obtain⟨v,h1,t,p,rfl,h2,h3⟩:=X.wait.val hx;rw[(dC hx).1]at h3;exact⟨t,p,h1,h2,h3⟩
theorem ChX.rA (X:ChX A i c H o st dx aM aP aA aD aF aE aR ms ds ws fs es){n:Nat}{p:Addr}{pl:List Nat}(hl:LstAt i c H (.fA n) p (pl.map nV)) :
  ∃c' ws',Step (Wr i (LQ n)) c c' H (upd (upd H aA (.dK (iG (aZ ((st.aH.map (·.1)).zip ws)) (kf (n:Int))))) o (.ins A.ax dx (chF (.int st.cK) (.int st.aT) (.bl st.closed) (.ref aM) (.ref p) (.ref aA) (.ref aD) (.ref aF) (.ref aE) (.ref aR)))) /\
  ChX A i c' (upd (upd H aA (.dK (iG (aZ ((st.aH.map (·.1)).zip ws)) (kf (n:Int))))) o (.ins A.ax dx (chF (.int st.cK) (.int st.aT) (.bl st.closed) (.ref aM) (.ref p) (.ref aA) (.ref aD) (.ref aF) (.ref aE) (.ref aR)))) o (st.rA n pl) dx aM p aA aD aF aE aR ms ds ws' fs es:=by
 have oA:o≠aA:=d5 X.co X.aH.1 (λz=>nomatch z)
 have op:o≠p:=d5 X.co hl.1 (λz=>nomatch z)
 have Ap:aA≠p:=d5 X.aH.1 hl.1 (λz=>nomatch z)
 obtain⟨ws',e1,e2⟩:=X.wait.drop (n:=n);refine⟨ay c p (some (i,.au)),ws',?_⟩;have s:Step (Wr i (LQ n)) c (ay c p (some (i,.au))) H (upd (upd H aA (.dK (iG (aZ ((st.aH.map (·.1)).zip ws)) (kf (n:Int))))) o (.ins A.ax dx (chF (.int st.cK) (.int st.aT) (.bl st.closed) (.ref aM) (.ref p) (.ref aA) (.ref aD) (.ref aF) (.ref aE) (.ref aR)))) :=
  ((Step.upd Wr.nn ⟨.aH,X.aH.1,rfl⟩).trans (Step.upd Wr.nn ⟨.ob,X.co,rfl⟩)).trans (Step.role Wr.nn ⟨.fA n,hl.1,decide_eq_true rfl⟩)
 have k1:ay c p (some (i,.au)) o=some (i,.ob):=by rw[av op];exact X.co
 have hd:iS i (ay c p (some (i,.au))) (upd (upd H aA (.dK (iG (aZ ((st.aH.map (·.1)).zip ws)) (kf (n:Int))))) o (.ins A.ax dx (chF (.int st.cK) (.int st.aT) (.bl st.closed) (.ref aM) (.ref p) (.ref aA) (.ref aD) (.ref aF) (.ref aE) (.ref aR)))) .aH aA (((st.aH.filter λx=>decide (x.1≠n)).map (·.1)).zip ws') :=
  ⟨by rw[av Ap];exact X.aH.1,by rw[aw oA.symm,ae,e1]⟩
 have hpl:LstAt i (ay c p (some (i,.au))) (upd (upd H aA (.dK (iG (aZ ((st.aH.map (·.1)).zip ws)) (kf (n:Int))))) o (.ins A.ax dx (chF (.int st.cK) (.int st.aT) (.bl st.closed) (.ref aM) (.ref p) (.ref aA) (.ref aD) (.ref aF) (.ref aE) (.ref aR)))) .au p (pl.map nV) :=
  ⟨aW,by rw[aw op.symm,aw Ap.symm];exact hl.2⟩
 exact⟨s,k1,ae,X.made.kp rfl s,tG s X.mot,hpl,hd,kU (λx hx=>decide_eq_false (of_decide_eq_true (List.mem_filter.mp hx).2)) s e2,X.dec.kp rfl s,jn s X.mS,X.firsts.kp rfl s,uF (λ_ _=>rfl) s X.first,X.jx.kp rfl s,wO (λ_ _=>rfl) s X.kept,X.rows.kp rfl s⟩
end
def yo (i:Nat)(c:Col)(H:Hp)(t:Addr)(xs:List V):Prop:=¬d8 i (c t)/\H t=some (.tup xs)
def Mv (i:Nat)(c:Col)(H:Hp)(t:Addr)(xs:List V):Prop:=¬d8 i (c t)/\H t=some (.lst xs)
def rB (i:Nat)(c:Col)(H:Hp):R.d7->Addr->Prop
 | .mat cs,t=>∃L,yo i c H t [.str (ar "matter"),.ref L]/\Mv i c H L ((cs.map (si R.bl1)).map V.str)
 | .ed m k j ws,t=>∃e,yo i c H t [.str (R.kEd m),.ref e]/\TupAt c H e (R.edR k j (si R.bl1 ws))
 | .pt ws,t=>yo i c H t [.str (ar "point"),.str (si R.bl1 ws)]
 | .nums kd ns,t=>yo i c H t (.str kd::ns.map V.int)
section
variable{i:Nat}{c c':Col}{H H':Hp}{t:Addr}{xs:List V}
theorem yo.step (s:Step (d8 i) c c' H H')(h:yo i c H t xs):yo i c' H' t xs:=⟨by rw[s.col t _ h.2 h.1];exact h.1,s.keep _ _ h.2 h.1⟩
theorem Mv.step (s:Step (d8 i) c c' H H')(h:Mv i c H t xs):Mv i c' H' t xs:=⟨by rw[s.col t _ h.2 h.1];exact h.1,s.keep _ _ h.2 h.1⟩
theorem rB.step (s:Step (d8 i) c c' H H'):∀ {d:R.d7},rB i c H d t->rB i c' H' d t
 | .mat _,⟨L,a,b⟩=>⟨L,a.step s,b.step s⟩
 | .ed _ _ _ _,⟨e,a,b⟩=>⟨e,a.step s,b.step s⟩
 | .pt _,h=>yo.step s h
 | .nums _ _,h=>yo.step s h
theorem rB.at {K:bo}:∀ {d:R.d7},rB i c H d t->R.tw K H d t
 | .mat _,⟨L,a,b⟩=>⟨L,SqT.of a.2,SqL.of b.2⟩
 | .ed _ _ _ _,⟨e,a,b⟩=>⟨e,SqT.of a.2,b.sq⟩
 | .pt _,h=>SqT.of h.2
 | .nums _ _,h=>SqT.of h.2
end
theorem Fb {k:Nat}{j:Int}{x:Str}(h:k=0\/k=1\/k=2):R.edR k j x=dH ⟨k,j,x⟩:=by
 rcases h with rfl | rfl | rfl <;> rfl
theorem d6 {t1 t2:TS}{D:Ends}{σ:St}{H:Hp}(J:St->Hp->Prop)(h2:∀σ' H',J σ' H'->t2 D σ' H')(h1:∀N:St->Hp->Prop,(∀σ' H',J σ' H'->N σ' H')->t1 { D with nx:=N } σ H):UQ t1 t2 D σ H:=h1 (t2 D) h2
def Ch.opened (st:Ch):Ch:={ st with closed:=if st.au=[] then false else st.closed }
def Ch.vi (st:Ch)(row:Str):Ch:={ st.opened with rows:=st.rows++[row] }
def aaF (A:Adr)(i:Nat):Sp:=λvs H Q _=>∃(o t:Addr) (c:Col) (st:Ch) (d:R.d7),vs=[.ref o,.ref t]/\eP A i c H o st/\rB i c H d t/\R.DOk d/\st.rows.length<=1000 /\
 ∀c' H',Step (d8 i) c c' H H'->eP A i c' H' o (st.vi (R.tD d))->Q .non H'
def VY (A:Adr)(i:Nat):Sp:=λvs H Q _=>∃(o:Addr) (u:Int) (c:Col) (st:Ch) (n:Nat) (r:List Nat),vs=[.ref o,.int u]/\eP A i c H o st/\st.au=n::r/\n∉st.aH.map (·.1)/\st.aH.length<=1000 /\
 ∀c' H',Step (d8 i) c c' H H'->eP A i c' H' o (st.lU n u)->Q .non H'
def Ch.Mw (st:Ch)(n:Nat)(tx:List Str)(e:Ed):Ch:={ st with made:=st.made.set (n - 1) (.mat (bE tx e)),kept:=p6 n e st.kept }
def VZ (A:Adr)(i:Nat):Sp:=λvs H Q _=>∃(o t:Addr) (c:Col) (st:Ch) (n:Nat) (r:List Nat) (tx:List Str) (e:Ed) (x:Nat×List Ed),vs=[.ref o,.ref t]/\eP A i c H o st/\st.au=n::r/\cY st n/\st.mo n=.mat tx/\tx.length<=1000/\st.made.length<=1000 /\
 TupAt c H t (dH e)/\qP e/\d9 tx.length e=true/\at1 n st.kept=some x/\x.2.length<=1000/\(st.kept.map (·.1)).Nodup /\
 ∀c' H',Step (d8 i) c c' H H'->eP A i c' H' o (st.Mw n tx e)->Q .non H'
def Ch.Mx (st:Ch)(n:Nat)(e:Ed)(ws:List Str):Ch:={ st with made:=st.made.set (n - 1) (.chg ⟨e.k,e.at_,si R.bl1 ws⟩) }
def V0 (A:Adr)(i:Nat):Sp:=λvs H Q _=>∃(o t:Addr) (c:Col) (st:Ch) (n:Nat) (r:List Nat) (e f:Ed),vs=[.ref o,.ref t]/\eP A i c H o st/\st.au=r++[n]/\cY st n/\st.mo n=.chg e/\e.k≠1/\qP e/\(R.bj e.th).length<=1000/\st.made.length<=1000 /\
 TupAt c H t (dH f)/\qP f/\d9 (R.bj e.th).length f=true/\((bE (R.bj e.th) f).map (·.length)).sum+(bE (R.bj e.th) f).length<=16777216 /\
 ∀c' H',Step (d8 i) c c' H H'->eP A i c' H' o (st.Mx n e (bE (R.bj e.th) f))->Q .non H'
theorem ChX.RB {A:Adr}{i:Nat}{c:Col}{H:Hp}{o dx aM aP aA aD aF aE aR:Addr}{st:Ch}{ms ds:List Addr}{ws fs es:List V}(X:ChX A i c H o st dx aM aP aA aD aF aE aR ms ds ws fs es){n:Nat}(hn:cY st n) :
  ∃x,gW (aZ ((aku 1 st.made.length).zip (ms.map V.ref))) (kf (n:Int))=some (.ref x)/\mR A c H (st.mo n) x:=by
 have ml:=X.mot.len;have hlt:n - 1 < st.made.length:=by have:=hn.1;have:=hn.2;omega
 obtain⟨x,e1,e2⟩:=X.mot.get (wa hlt);have hv:=BO ms 1 (n - 1) e1;rw[<-ml,show 1+(n - 1)=n by have:=hn.1;omega]at hv
 have e3:st.mo n=st.made[n - 1]:=by unfold Ch.mo;rw[aj9,wa hlt];rfl
 exact⟨x,hv,by rw[e3];exact e2⟩
section
variable{P:sr}{w:World}{K:bo}{mg:Str->Option Value}{base:Heap}{A:Adr}
theorem rC (T:Txt w.params K mg A){i:Nat}:a7 P w K mg base CX0 5 A.bC A.fm ["self","deed"] (aaF A i):=by
 have kW:a7 P w K mg base CX0 4 A.mh A.g9 ["deed"] (R.E4 K):=R.qR T;refine T.cW.ok pz (λvs H Q E h=>?_) (λcdv A' outer s H vs Q E hr h=>?_)
 ·obtain⟨o,t,c,st,d,rfl,_⟩:=h;rfl
 ·obtain⟨o,t,c,st,d,rfl,hc,hd,hk,hl,q⟩:=h;refine⟨_,(ai (a9 (sv (sA (bh (pv 0) rfl) (λ_=>rfl)))
 (aj (eU (pv 0) kK rfl))
 aC)
 (aj (bJ (gw rf aj4 aj5 dn (bh (pv 0) rfl) (aa (aX kW hr rfl T.nZ T.kR.kp T.nY .nil a5 (aa (pv 1) af)) af))))),?_⟩
  try dsimp only[bG]
  have lim:gr=16777216:=by decide
  refine d6 (λσ' H'=>σ'=[some (.ref o),some (.ref t)]/\Step (d8 i) c c H H'/\eP A i c H' o st.opened) ?r (λN nN=>?f)
  case f =>
   refine aQ λGq gq=>?_
   obtain⟨dx,aM,aP,aA,aD,aF,aE,aR,ms,ds,ws,fs,es,X⟩:=hc.ex;refine gq ?_;refine eW rfl X.ob T.aq T.jq0 fB ?_;refine⟨_,.inl ⟨_,.inl (.inl X.au.2),rfl⟩,?_⟩;cases e:st.au with
   |nil =>
    refine dW ⟨_,rfl,o,A.ax,dx,_,rfl,X.ob,T.aq,T.jq5,(by show 10 < 1000;decide),?_⟩
    rw[BN];obtain⟨s1,X1⟩:=X.attr st.aT false;refine nN _ _ ⟨rfl,s1.gP,?_⟩;have e1:st.opened={ st with aT:=st.aT,closed:=false }:=by unfold Ch.opened;rw[e,if_pos rfl]
    rw[e1];exact X1.at
   |cons x r =>
    refine bZ (nN _ _ ⟨rfl,Step.refl aV,?_⟩);have e1:st.opened=st:=by unfold Ch.opened;rw[e,if_neg (akq _ _)];cases st;cases e;rfl
    rw[e1];exact hc
  case r =>
   rintro σ' H1 ⟨rfl,s1,hc1⟩;refine aQ λGq gq=>?_
   obtain⟨dx,aM,aP,aA,aD,aF,aE,aR,ms,ds,ws,fs,es,X⟩:=hc1.ex;refine gq ?_;refine eW rfl X.ob T.aq T.jqk wQ ?_;refine⟨.inl ⟨rfl,_,SqL.of X.rows.2⟩,_,rfl,t,d,rfl,(hd.step s1).at,hk,λH2 s2=>?_⟩
   have X2:=X.same s2;obtain⟨s3,X3⟩:=X2.row (R.tD d);refine⟨aR,_,_,rfl,rfl,X2.rows.2,by rw[ba];show st.rows.length < _;omega,?_⟩
   exact q c _ ((s1.trans (Step.same aV s2)).trans s3.gP) X3.at
theorem wW (T:Txt w.params K mg A){i:Nat}:a7 P w K mg base CX0 1 A.bL A.gF ["self","until"] (VY A i):=by
 refine T.dP.ok sH (λvs H Q E h=>?_) (λcdv A' outer s H vs Q E hr h=>?_)
 ·obtain⟨o,u,c,st,n,r,rfl,_⟩:=h;rfl
 ·obtain⟨o,u,c,st,n,r,rfl,hc,hp,hn,hl,q⟩:=h;obtain⟨dx,aM,aP,aA,aD,aF,aE,aR,ms,ds,ws,fs,es,X⟩:=hc.ex;have hu1:=hr.u1;have lim:gr=16777216:=by decide
  refine⟨_,(ai (fJ hu1 (bh (pv 0) rfl) (aS bA (bh (pv 0) rfl) ah (λ_ _=>rfl)) (bp (aa (pv 1) (aa (bh (pv 0) rfl) af))) rfl)
 (aj (eU (pv 0) (bQ af) rfl))),?_⟩
  try dsimp only[bG]
  refine⟨_,rfl,eW rfl X.ob T.aq T.jq0 fB ⟨(sl 2),λt ht=>?_⟩⟩
  have s1:=aB (o:=.tup [V.int u,.ref aP]) ht;refine eW rfl (s1 _ _ X.ob) T.aq T.jq4 jT ?_;have h0:atI (st.au.map nV) 0=some (nV n):=by rw[hp];exact dI (j:=0) rfl
  refine eW rfl (s1 _ _ X.ob) T.aq T.jq0 fB ⟨aP,_,_,_,rfl,rfl,SqL.of (s1 _ _ X.au.2),h0,?_⟩;refine⟨aA,_,rfl,mx.k (k:=kf (n:Int)) (s1 _ _ X.aH.2) ?_,?_⟩
  ·unfold aZ;rw[ba,ak5,ba];omega
  have oA:o≠aA:=d5 X.co X.aH.1 (λz=>nomatch z)
  refine⟨(sl 0),λp hp0=>?_⟩
  have npA:p≠aA:=λz=>by rw[z,ae]at hp0;cases hp0
  have npt:p≠t:=λz=>by rw[aw npA,z,ae]at hp0;cases hp0
  have hp1:H p=none:=by rw[aw npA,aw npt]at hp0;exact hp0
  have hob:(upd (upd (upd H t (.tup [V.int u,.ref aP])) aA (.dK (putK (aZ ((st.aH.map (·.1)).zip ws)) (kf (n:Int)) (.ref t)))) p (.lst [])) o=some (.ins A.ax dx (chF (.int st.cK) (.int st.aT) (.bl st.closed) (.ref aM) (.ref aP) (.ref aA) (.ref aD) (.ref aF) (.ref aE) (.ref aR))):=by
   rw[aw (aI X.ob hp1),aw oA];exact s1 _ _ X.ob
  refine⟨_,rfl,o,A.ax,dx,_,rfl,hob,T.aq,T.jq0,(by show 10 < 1000;decide),?_⟩
  rw[Gg];refine aQ λGq gq=>?_
  obtain⟨c',s2,X2⟩:=X.lU (u:=u) ht hp1 npt hn;refine gq ?_;exact q c' _ s2.gP X2.at
theorem yp (T:Txt w.params K mg A){i:Nat}:a7 P w K mg base CX0 4 A.bx A.eL ["self","edit"] (VZ A i):=by
 refine T.cH.ok ig (λvs H Q E h=>?_) (λcdv A' outer s H vs Q E hr h=>?_)
 ·obtain⟨o,t,c,st,n,r,tx,e,x,rfl,_⟩:=h;rfl
 ·obtain⟨o,t,c,st,n,r,tx,e,x,rfl,hc,hp,hn,hm,htx,hml,ht,he,hf,hx,hxl,hnd,q⟩:=h;obtain⟨dx,aM,aP,aA,aD,aF,aE,aR,ms,ds,ws,fs,es,X⟩:=hc.ex;have hu1:=hr.u1;have lim:gr=16777216:=by decide
  refine⟨_,(ai (a4 (i:=2) ig.nd rfl (wt rfl) (aS bA (bh (pv 0) rfl) ah (λ_ _=>rfl)))
 (ai (fJ hu1 (bh (pv 0) rfl) (pv 2) (gS T.wK (BL T) (hr.mono (by decide)) rfl T.wI T.Rh .nil a5 (aa (aX (LB T) hr rfl T.JK T.EM.kp T.JJ .nil qC (aa (bh (a8 hu1 (bh (pv 0) rfl) (pv 2) (λ_ _=>rfl)) rfl) (aa (pv 1) af))) af)) rfl)
 (aj (bJ (gw rf aj4 aj5 dn (a8 hu1 (bh (pv 0) rfl) (pv 2) (λ_ _=>rfl)) (aa (pv 1) af)))))),?_⟩
  try dsimp only[bG]
  refine aQ λGq gq=>?_
  have h0:atI (st.au.map nV) 0=some (nV n):=by rw[hp];exact dI (j:=0) rfl
  obtain⟨m,hv,hmo⟩:=X.RB hn;rw[hm]at hmo;obtain⟨_,dm,v,V1,L,rfl,hL⟩:=hmo;refine gq ?_;refine eW rfl X.ob T.aq T.jq0 fB ⟨aP,_,_,_,rfl,rfl,SqL.of X.au.2,h0,?_⟩;refine⟨_,rfl,o,A.ax,dx,_,.ref aM,rfl,X.ob,T.aq,T.jq2,il,_,rfl,aM,_,rfl,.inl ⟨_,kf (n:Int),.inl X.made.2,rfl,hv.symm⟩,?_⟩;refine⟨m,A.C 0,dm,_,.ref L,rfl,V1,T.cl 0 (by decide),T.na0,rfl,_,rfl,?_⟩
  refine⟨L,t,tx,e,rfl,SqL.of hL.2,htx,ht.sq,he,λ_ p hp0=>?_,λz=>by rw[hf]at z;cases z⟩
  refineλy dy hy hdy ndy=>?_
  refine⟨y,dy,p,(bE tx e).map V.str,rfl,ae,?_,λp2 hp2=>⟨rfl,?_⟩⟩
  ·exact(((aB hdy).new ((aw (akp ndy)).trans hy)).seq (SqL.of ae))
  have hy0:H y=none:=by
   by_cases z:y=p
   ·rw[z,ae]at hy;cases hy
   ·rw[aw z]at hy;exact hy
  have ahL:H dy=none:=by
   by_cases z:dy=p
   ·rw[z,ae]at hdy;cases hdy
   ·rw[aw z]at hdy;exact hdy
  have sm0:bu H (upd (upd (upd H p (.lst ((bE tx e).map V.str))) dy (.own y)) y (.ins (A.C 0) dy [])):=((aB hp0).own ahL).own hy0;have aaG:H p2=none:=by
   cases z:H p2 with
   |none=>rfl
   |some v=>rw[sm0 _ _ z]at hp2;cases hp2
  have sm:bu H (upd (upd (upd (upd (upd H p (.lst ((bE tx e).map V.str))) dy (.own y)) y (.ins (A.C 0) dy [])) p2 (.lst ((bE tx e).map V.str))) y (.ins (A.C 0) dy (pX 0 (.ref p2)))):=(sm0.own aaG).own hy0;have nyp:y≠p2:=λz=>by rw[<-z,ae]at hp2;cases hp2
  have X1:=X.cl sm;have hmn:mR A (bS c H) (upd (upd (upd (upd (upd H p (.lst ((bE tx e).map V.str))) dy (.own y)) y (.ins (A.C 0) dy [])) p2 (.lst ((bE tx e).map V.str))) y (.ins (A.C 0) dy (pX 0 (.ref p2)))) (.mat (bE tx e)) y :=
   ⟨bT hy0,dy,.ref p2,ae,p2,rfl,bT aaG,(aw (akp nyp)).trans ae⟩
  have st1:Step (d8 i) c (bS c H) H _:=Step.cl aV sm;have ht1:=ht.step st1;generalize upd (upd (upd (upd (upd H p (.lst ((bE tx e).map V.str))) dy (.own y)) y (.ins (A.C 0) dy [])) p2 (.lst ((bE tx e).map V.str))) y (.ins (A.C 0) dy (pX 0 (.ref p2)))=H1 at X1 hmn st1 ht1 ⊢;generalize bS c H=c1 at X1 hmn st1 ht1;refine eW rfl X1.ob T.aq T.jq2 il ⟨_,rfl,aM,_,rfl,mx.k (k:=kf (n:Int)) X1.made.2 ?_,?_⟩
  ·unfold aZ;rw[ba,ak5,akN];omega
  obtain⟨s2,X2⟩:=X1.LR hn hmn;have ht2:=ht1.step s2.gP;generalize upd H1 aM (.dK (putK (aZ ((aku 1 st.made.length).zip (ms.map V.ref))) (kf (n:Int)) (.ref y)))=H2 at s2 X2 ht2 ⊢;refine aQ λGq gq=>?_
  obtain⟨pk,ts,hv2,hl2,tl⟩:=X2.gv hx;refine gq ?_;refine⟨_,rfl,o,A.ax,dx,_,.ref aE,rfl,X2.ob,T.aq,T.jq6,mT,_,rfl,aE,_,rfl,.inl ⟨_,kf (n:Int),.inl X2.jx.2,rfl,hv2.symm⟩,?_⟩;refine⟨.inl ⟨rfl,_,SqL.of hl2.2⟩,_,rfl,pk,_,_,rfl,rfl,hl2.2,by rw[ba];omega,?_⟩
  obtain⟨s3,X3⟩:=X2.E9 hv2 hl2 hnd ht2;exact q c1 _ ((st1.trans s2.gP).trans s3.gP) X3.at
theorem yq (T:Txt w.params K mg A){i:Nat}:a7 P w K mg base CX0 4 A.bz A.eM ["self","edit"] (V0 A i):=by
 have mP:a7 P w K mg base CX0 1 A.words_of A.iP ["clause"] R.pY:=R.kT T;have tE:a7 P w K mg base CX0 1 A.pR A.i3 ["words"] (R.vg K):=R.wN T;refine T.cI.ok dB (λvs H Q E h=>?_) (λcdv A' outer s H vs Q E hr h=>?_)
 ·obtain⟨o,t,c,st,n,r,e,f,rfl,_⟩:=h;rfl
 ·obtain⟨o,t,c,st,n,r,e,f,rfl,hc,hp,hn,hm,hk1,heo,hwl,hml,ht,hfo,hf,hsz,q⟩:=h;obtain⟨dx,aM,aP,aA,aD,aF,aE,aR,ms,ds,ws,fs,es,X⟩:=hc.ex;have hu1:=hr.u1;have lim:gr=16777216:=by decide
  refine⟨_,(ai (a4 (i:=2) dB.nd rfl (wt rfl) (aS bA (bh (pv 0) rfl) (mr iy ah) (λ_ _=>rfl)))
 (ai (a4 (i:=3) dB.nd rfl (wt rfl) (bh (a8 hu1 (bh (pv 0) rfl) (pv 2) (λ_ _=>rfl)) rfl))
 (ai (a4 (i:=4) dB.nd rfl (wt rfl) (aX (LB T) hr rfl T.JK T.EM.kp T.JJ .nil qC (aa (aX mP (hr.mono (by decide)) rfl T.jR T.iA.kp T.jQ .nil a5 (aa (aS aU (pv 3) ah (λ_ _=>rfl)) af)) (aa (pv 1) af))))
 (aj (fJ hu1 (bh (pv 0) rfl) (pv 2) (gS T.wL (mM T) (hr.mono (by decide)) rfl T.wJ T.Ri .nil a5 (aa (bp (aa (aS aU (pv 3) ah (λ_ _=>rfl)) (aa (aS aU (pv 3) ah (λ_ _=>rfl)) (aa (aX tE (hr.mono (by decide)) rfl T.sQ T.nU.kp T.sP .nil a5 (aa (pv 4) af)) af)))) af)) rfl))))),?_⟩
  try dsimp only[bG]
  refine aQ λGq gq=>?_
  have h0:atI (st.au.map nV) (-1)=some (nV n):=by rw[hp,kx];exact ic _ _
  obtain⟨m,hv,hmo⟩:=X.RB hn;rw[hm]at hmo;obtain⟨_,dm,v,V1,te,rfl,hte⟩:=hmo;refine gq ?_;refine⟨_,rfl,o,A.ax,dx,_,.ref aP,rfl,X.ob,T.aq,T.jq0,fB,_,rfl,aP,_,_,_,rfl,rfl,SqL.of X.au.2,h0,?_⟩;refine⟨_,rfl,o,A.ax,dx,_,.ref aM,rfl,X.ob,T.aq,T.jq2,il,_,rfl,aM,_,rfl,.inl ⟨_,kf (n:Int),.inl X.made.2,rfl,hv.symm⟩,?_⟩;refine⟨m,A.C 1,dm,_,.ref te,rfl,V1,T.cl 1 (by decide),T.na1,rfl,?_⟩
  have h2:=vd (e:=e) hk1;refine ixv rfl hte.sq h2 ⟨e.th,rfl,?_,λp1 hp1=>?_⟩
  ·have:=heo.th.len;omega
  have s1:=aB (o:=.lst ((R.bj e.th).map V.str)) hp1;refine⟨_,rfl,p1,t,R.bj e.th,f,rfl,SqL.of ae,hwl,bR s1 ht.sq,hfo,λ_ p2 hp2=>?_,λz=>by rw[hf]at z;cases z⟩
  have s2:=s1.new (o:=.lst ((bE (R.bj e.th) f).map V.str)) hp2;refine ixv rfl (bR s2 hte.sq) (oE e) (ixv rfl (bR s2 hte.sq) (vc e) ⟨_,rfl,p2,_,rfl,SqL.of ae,hsz,(sl 3),λtn htn=>?_⟩)
  have s3:=s2.new (o:=.tup [V.str (kn e.k),.int e.at_,.str (si R.bl1 (bE (R.bj e.th) f))]) htn;refineλy dy hy hdy ndy=>?_
  refine⟨y,dy,.ref tn,rfl,ae,rfl,?_⟩;have hno:∀ {a:Addr},(upd (upd (upd H p1 (.lst ((R.bj e.th).map V.str))) p2 (.lst ((bE (R.bj e.th) f).map V.str))) tn (.tup [V.str (kn e.k),.int e.at_,.str (si R.bl1 (bE (R.bj e.th) f))])) a=none->H a=none:=by
   intro a ha;cases z:H a with
   |none=>rfl
   |some v=>rw[s3 _ _ z]at ha;cases ha
  have nyt:y≠tn:=λz=>by rw[z,ae]at hy;cases hy
  have ndt:dy≠tn:=λz=>by rw[z,ae]at hdy;cases hdy
  have ahM:H tn=none:=by
   cases z:H tn with
   |none=>rfl
   |some v=>rw[s2 _ _ z]at htn;cases htn
  have sm:=((s3.own (o:=.own y) (hno hdy)).own (o:=.ins (A.C 1) dy []) (hno hy)).own (o:=.ins (A.C 1) dy (pX 1 (.ref tn))) (hno hy);have X1:=X.cl sm;have er:dH ⟨e.k,e.at_,si R.bl1 (bE (R.bj e.th) f)⟩=[V.str (kn e.k),.int e.at_,.str (si R.bl1 (bE (R.bj e.th) f))]:=by
   obtain⟨k,a,th⟩:=e;have h3:=heo.k3;dsimp only at h3 hk1 ⊢;rcases h3 with rfl | rfl | rfl
   ·rfl
   ·exact absurd rfl hk1
   ·rfl
  have hmn:=(⟨bT (hno hy),dy,.ref tn,ae,tn,rfl,bT ahM,.inl (by rw[aw (akp nyt),aw (akp nyt),aw (akp ndt),ae,er])⟩:mR A (bS c H) (upd (upd (upd (upd (upd (upd H p1 (.lst ((R.bj e.th).map V.str))) p2 (.lst ((bE (R.bj e.th) f).map V.str))) tn (.tup [V.str (kn e.k),.int e.at_,.str (si R.bl1 (bE (R.bj e.th) f))])) dy (.own y)) y (.ins (A.C 1) dy [])) y (.ins (A.C 1) dy (pX 1 (.ref tn)))) (.chg ⟨e.k,e.at_,si R.bl1 (bE (R.bj e.th) f)⟩) y)
  have st1:Step (d8 i) c (bS c H) H _:=Step.cl aV sm;generalize upd (upd (upd (upd (upd (upd H p1 (.lst ((R.bj e.th).map V.str))) p2 (.lst ((bE (R.bj e.th) f).map V.str))) tn (.tup [V.str (kn e.k),.int e.at_,.str (si R.bl1 (bE (R.bj e.th) f))])) dy (.own y)) y (.ins (A.C 1) dy [])) y (.ins (A.C 1) dy (pX 1 (.ref tn)))=H1 at X1 hmn st1 ⊢;generalize bS c H=c1 at X1 hmn st1;refine eW rfl X1.ob T.aq T.jq2 il ⟨_,rfl,aM,_,rfl,mx.k (k:=kf (n:Int)) X1.made.2 ?_,?_⟩
  ·unfold aZ;rw[ba,ak5,akN];omega
  obtain⟨s4,X2⟩:=X1.LR hn hmn;exact q c1 _ (st1.trans s4.gP) X2.at
end
def za (below:List Mn):Mn->Prop
 | .mat _=>below=[]
 | .chg e=>∃tx,below=[.mat tx]/\d9 tx.length e=true
 | .mnd f=>∃tx e,below=[.mat tx,.chg e]/\e.k≠1/\d9 (R.bj e.th).length f=true
 | .off _=>(∃tx r,below=.mat tx::r)/\∀b∈below,b.k < 3
 | .cls=>(∃tx r,below=.mat tx::r)/\∀b∈below,b.k < 4
 | .lay=>(∃tx r,below=.mat tx::r)/\∀b∈below,b.k < 5
 | .rst=>∀b∈below,b.k < 6
 | .pnt _=>∀b∈below,b.k < 7
inductive PMs:List Mn->Prop
 |nil:PMs []
 |snoc {ms:List Mn} {m:Mn}:PMs ms->za ms m->PMs (ms++[m])
theorem PMs.pop {ms:List Mn}{m:Mn}(h:PMs (ms++[m])):PMs ms/\za ms m:=by
 generalize e:ms++[m]=l at h;cases h with
 |nil=>simp at e
 |snoc h1 h2 =>
  obtain⟨e1,e2⟩:=List.append_inj' e rfl;cases e2;subst e1;exact⟨h1,h2⟩
theorem za.lt {below:List Mn}:∀ {m:Mn},za below m->∀b∈below,b.k < m.k
 | .mat _,h,b,hb=>by rw[h]at hb;cases hb
 | .chg _,⟨tx,h,_⟩,b,hb=>by
  rw[h,aka]at hb;rw[hb];show 0 < 1;decide
 | .mnd _,⟨tx,e,h,_,_⟩,b,hb=>by
  rw[h]at hb;rcases List.mem_cons.mp hb with rfl | hb
  ·show 0 < 2;decide
  ·rw[aka]at hb;rw[hb];show 1 < 2;decide
 | .off _,h,b,hb=>h.2 b hb
 | .cls,h,b,hb=>h.2 b hb
 | .lay,h,b,hb=>h.2 b hb
 | .rst,h,b,hb=>h b hb
 | .pnt _,h,b,hb=>h b hb
theorem PMs.le_top {ms:List Mn}(h:PMs ms):∀b∈ms,(b.k:Int)<=rO ms:=by
 cases h with
 |nil=>intro b hb;cases hb
 |snoc h1 h2 =>
  intro b hb;rw[p0];rcases List.mem_append.mp hb with hb | hb
  ·have:=h2.lt b hb;omega
  ·rw[aka]at hb;rw[hb];exact Int.le_refl _
theorem PMs.JT {ms:List Mn}(h:PMs ms):ux ms=true->∃tx r,ms=.mat tx::r:=by
 induction h with
 |nil=>intro h;cases h
 | @snoc ms m h1 h2 ih =>
  intro h;unfold ux at h ih;rw[List.any_append,Bool.or_eq_true]at h;rcases h with h | h
  ·obtain⟨tx,r,e⟩:=ih h;exact⟨tx,r++[m],by rw[e];rfl⟩
  ·cases m with
   |mat tx =>
    have:ms=[]:=h2;rw[this];exact⟨tx,[],rfl⟩
   |_=>simp[Mn.k]at h
theorem PMs.len {ms:List Mn}(h:PMs ms):(ms.length:Int)<=rO ms+1:=by
 induction h with
 |nil=>decide
 | @snoc ms m h1 h2 ih =>
  rw[p0,me,akh];have:rO ms < (m.k:Int):=by
   unfold rO;split
   ·omega
   ·rename_i b hb;have:=h2.lt b (List.mem_of_getLast? hb);omega
  omega
theorem PMs.JU {ms:List Mn}(h:PMs ms):ms.length<=8:=by
 have:=h.len;have:=O5 ms;omega
theorem tL (cl:Bool)(ms:List Mn):rO ms<=oH cl ms:=by
 unfold oH;split
 ·split <;> omega
 ·exact Int.le_refl _
theorem wX {cl:Bool}{ms:List Mn}{k:Nat}(h:uy cl ms k=none):rO ms < (k:Int)/\tI ms k=true:=by
 have hb:=tL cl ms;unfold uy at h;split at h
 ·cases h
 ·split at h
  ·exact⟨by omega,by assumption⟩
  ·split at h <;> cases h
theorem BW {ms:List Mn}(h:rO ms < 0):ms=[]:=by
 rcases akb ms with e | ⟨r,b,e⟩
 ·exact e
 ·rw[e,akc,p0]at h;omega
def aaH (ms:List Mn):Mn->Prop
 | .chg e=>∀tx r,ms=.mat tx::r->d9 tx.length e=true
 | .mnd f=>∀r e,ms=r++[.chg e]->d9 (R.bj e.th).length f=true
 |_=>True
theorem mi {α:Type}{xs:List α}{x:α}(h:xs.getLast?=some x):∃r,xs=r++[x]:=by
 rcases akb xs with e | ⟨r,b,e⟩
 ·rw[e]at h;cases h
 ·rw[akc]at e;rw[e,akC]at h;cases h;exact⟨r,e⟩
theorem PMs.push {cl:Bool}{ms:List Mn}(h:PMs ms){m:Mn}(ho:uy cl ms m.k=none)(hf:aaH ms m):PMs (ms++[m]):=by
 obtain⟨h1,h2⟩:=wX ho;have lt:∀b∈ms,b.k < m.k:=λb hb=>by have:=h.le_top b hb;omega
 refine .snoc h ?_;cases m with
 |mat tx=>exact BW h1
 |chg e =>
  obtain⟨tx,r,e1⟩:=h.JT h2;refine⟨tx,?_,hf tx r e1⟩;rcases akb r with e2 | ⟨r',b,e2⟩
  ·rw[e1,e2]
  ·rw[akc]at e2;have hb:b.k < 1:=lt b (by rw[e1,e2];simp)
   rw[e1,e2,<-List.cons_append]at h;have ht:=h.pop.2;cases b with
   |mat ty=>exact absurd ht (akq _ _)
   |_=>simp[Mn.k]at hb
 |mnd f =>
  have h3:fN ms=true:=h2;unfold fN at h3;split at h3
  ·rename_i e he;obtain⟨r,e1⟩:=mi he;rw[e1]at h;obtain⟨tx,e2,_⟩:=h.pop.2;refine⟨tx,e,by rw[e1,e2];rfl,?_,hf r e e1⟩
   intro z;rw[z]at h3;cases h3
  ·cases h3
 |off n=>exact⟨h.JT h2,lt⟩
 |cls=>exact⟨h.JT h2,lt⟩
 |lay=>exact⟨h.JT h2,lt⟩
 |rst=>exact lt
 |pnt z=>exact lt
theorem RC {st st':Ch}(h:st'.made=st.made):st'.mo=st.mo:=by funext n;unfold Ch.mo;rw[h]
theorem BX {st:Ch}{n:Nat}{m:Mn}(hn:cY st n){st':Ch}(h:st'.made=st.made.set (n - 1) m):st'.mo n=m:=by
 unfold Ch.mo;have:=hn.1;have:=hn.2;rw[h,aj9,List.getElem?_set_self (by omega)]
 rfl
theorem mj {st:Ch}{n k:Nat}{m:Mn}(hn:cY st n)(h1:1<=k)(ne:k≠n){st':Ch}(h:st'.made=st.made.set (n - 1) m):st'.mo k=st.mo k:=by
 unfold Ch.mo;have:=hn.1;rw[h,aj9,List.getElem?_set_ne (by omega),<-aj9]
theorem BY {st:Ch}{m:Mn}{st':Ch}(h:st'.made=st.made++[m]){k:Nat}(hk:cY st k):st'.mo k=st.mo k:=by
 unfold Ch.mo;have:=hk.1;have:=hk.2;rw[h,aj9,List.getElem?_append_left (by omega),<-aj9]
theorem Fc {st:Ch}{m:Mn}{st':Ch}(h:st'.made=st.made++[m]):st'.mo (st.made.length+1)=m:=by
 unfold Ch.mo;rw[h,aj9,Nat.add_sub_cancel,List.getElem?_append_right (kq _),Nat.sub_self];rfl
def EdB (N:Nat)(e:Ed):Prop:=(e.k=0\/e.k=1\/e.k=2)/\-1000<=e.at_/\e.at_<=1000/\∃ws,e.th=si R.bl1 ws/\(∀w∈ws,R.oG w)/\ws.length<=N
def MOk (N:Nat):Mn->Prop
 | .mat tx=>tx.length<=12+N/\∀x∈tx,ako x=true
 | .chg e=>EdB (12+N) e
 | .mnd f=>EdB 1 f/\∃w,f.th=w/\R.oG w
 | .off u=>-10000000000 < u/\u < 10000000000
 | .pnt z=>ako z=true
 |_=>True
theorem EdB.mono {N M:Nat}(h:N<=M){e:Ed}(z:EdB N e):EdB M e:=by
 obtain⟨a,b,c,ws,d,f,g⟩:=z;exact⟨a,b,c,ws,d,f,adm g h⟩
theorem MOk.mono {N M:Nat}(h:N<=M):∀ {m:Mn},MOk N m->MOk M m
 | .mat tx,z=>⟨adm z.1 (by omega),z.2⟩
 | .chg e,z=>EdB.mono (by omega) z
 | .mnd f,z=>z
 | .off u,z=>z
 | .cls,_=>trivial
 | .lay,_=>trivial
 | .rst,_=>trivial
 | .pnt _,z=>z
def Ch.all (st:Ch):List Nat:=st.au++(st.aH.flatMap (·.2.2)++st.decided.map (·.1))
def Ch.uA (st:Ch):List Nat:=(aku 1 st.made.length).filter λn=>decide ((st.mo n).k=0)
structure Inv (N:Nat)(st:Ch):Prop where
 lm:3 * st.made.length<=N
 lr:st.rows.length<=N
 ld:st.decided.length<=N
 la:st.aH.length<=N
 lk:∀x∈st.kept,x.2.length<=N
 sit:1<=st.aT/\st.aT<=N+1
 mok:∀m∈st.made,MOk N m
 num:∀n∈st.all,cY st n
 nd:st.all.Nodup
 pil:PMs (st.au.map st.mo)
 asd:∀x∈st.aH,PMs (x.2.2.map st.mo)/\(∃r,x.2.2=x.1::r)/\-10000000000 < x.2.1/\x.2.1 < 10000000000
 kk:st.kept.map (·.1)=st.uA
 ff:st.firsts.map (·.1)=st.uA
 dw:∀x∈st.decided,ako x.2=true
theorem Inv.mono {N M:Nat}(h:N<=M){st:Ch}(I:Inv N st):Inv M st where
 lm:=adm I.lm h
 lr:=adm I.lr h
 ld:=adm I.ld h
 la:=adm I.la h
 lk:=λx hx=>adm (I.lk x hx) h
 sit:=⟨I.sit.1,by have:=I.sit.2;omega⟩
 mok:=λm hm=>(I.mok m hm).mono h
 num:=I.num
 nd:=I.nd
 pil:=I.pil
 asd:=I.asd
 kk:=I.kk
 ff:=I.ff
 dw:=I.dw
theorem Inv.vj {N:Nat}{st:Ch}(I:Inv N st){n:Nat}(hn:cY st n):MOk N (st.mo n):=by
 have:=hn.1;have:=hn.2;have hlt:n - 1 < st.made.length:=by omega
 have e:st.mo n=st.made[n - 1]:=by unfold Ch.mo;rw[aj9,wa hlt];rfl
 rw[e];exact I.mok _ (List.getElem_mem hlt)
theorem Inv.bP {N:Nat}{st:Ch}(I:Inv N st):∀n∈st.au,cY st n:=λn hn=>I.num n (akA _ hn)
theorem Inv.tM {N:Nat}{st:Ch}(I:Inv N st){x:Nat×Int×List Nat}(hx:x∈st.aH):∀n∈x.2.2,cY st n:=λn hn =>
 I.num n (Lk _ (akA _ (List.mem_flatMap.mpr ⟨x,hx,hn⟩)))
theorem Inv.LS {N:Nat}{st:Ch}(I:Inv N st){n:Nat}(hn:n∈st.au){x:Nat×Int×List Nat}(hx:x∈st.aH):n∉x.2.2:=λz =>
 (List.nodup_append.mp I.nd).2.2 n hn n (akA _ (List.mem_flatMap.mpr ⟨x,hx,z⟩)) rfl
theorem Inv.Fd {N:Nat}{st:Ch}(I:Inv N st){n:Nat}(hn:n∈st.au):n∉st.aH.map (·.1):=λz=>by
 obtain⟨x,hx,e⟩:=List.mem_map.mp z;obtain⟨r,er⟩:=(I.asd x hx).2.1;exact I.LS hn hx (by rw[er,e];exact fe)
theorem RD {st st':Ch}(hl:st'.made.length=st.made.length)(hk:∀n,cY st n->(st'.mo n).k=(st.mo n).k):st'.uA=st.uA:=by
 unfold Ch.uA;rw[hl];refine List.filter_congr λn hn=>?_
 rw[ala]at hn;rw[hk n ⟨hn.1,by omega⟩]
theorem vk (st:Ch):st.uA.Nodup:=List.filter_sublist.nodup List.nodup_range'
theorem Inv.keptAt {N:Nat}{st:Ch}(I:Inv N st){n:Nat}(hn:cY st n)(hk:(st.mo n).k=0):∃x,at1 n st.kept=some x/\x.2.length<=N:=by
 cases e:at1 n st.kept with
 |some x=>exact⟨x,rfl,I.lk x (dC e).2⟩
 |none =>
  have h:=wV e;rw[I.kk]at h;have hr:n∈aku 1 st.made.length:=by
   rw[ala];have:=hn.1;have:=hn.2;omega
  exact absurd (show n∈st.uA from List.mem_filter.mpr ⟨hr,by exact decide_eq_true hk⟩) h
def Ch.popped (st:Ch)(pre:List Nat)(n:Nat)(wd:Str):Ch:={ st with au:=pre,decided:=st.decided++[(n,wd)] }
theorem Inv.pop {N:Nat}{st:Ch}(I:Inv N st){pre:List Nat}{n:Nat}(e:st.au=pre++[n])(wd:Str)(hw:ako wd=true):Inv (N+1) (st.popped pre n wd)/\za (pre.map st.mo) (st.mo n):=by
 have hp:=I.pil;rw[e,kx]at hp;obtain⟨p1,p2⟩:=PMs.pop hp;have perm:List.Perm (st.popped pre n wd).all st.all:=by
  unfold Ch.all Ch.popped;rw[e,kx];have:List.Perm (st.aH.flatMap (·.2.2)++(st.decided.map (·.1)++[(n,wd)].map (·.1))) ([n]++(st.aH.flatMap (·.2.2)++st.decided.map (·.1))):=by
   rw[<-alb];exact List.perm_append_comm
  exact(List.Perm.append_left pre this).trans (by rw[alb])
 refine⟨⟨akk I.lm,akk I.lr,?_,akk I.la,λx hx=>akk (I.lk x hx),⟨I.sit.1,by have:=I.sit.2;show st.aT<=_;omega⟩,λm hm=>(I.mok m hm).mono (by omega),λk hk=>I.num k (perm.mem_iff.mp hk),perm.nodup_iff.mpr I.nd,p1,I.asd,I.kk,I.ff,?_⟩,p2⟩
 ·show (st.decided++[(n,wd)]).length<=_;rw[me,akh];have:=I.ld;omega
 ·intro x hx;rcases List.mem_append.mp hx with h | h
  ·exact I.dw x h
  ·rw[aka]at h;rw[h];exact hw
theorem Inv.vi {N:Nat}{st:Ch}(I:Inv N st)(z:Str):Inv (N+1) (st.vi z):=by
 refine⟨akk I.lm,?_,akk I.ld,akk I.la,λx hx=>akk (I.lk x hx),⟨I.sit.1,by have:=I.sit.2;show st.aT<=_;omega⟩,λm hm=>(I.mok m hm).mono (by omega),I.num,I.nd,I.pil,I.asd,I.kk,I.ff,I.dw⟩
 show (st.rows++[z]).length<=_;rw[me,akh];have:=I.lr;omega
theorem Inv.Tt {N:Nat}{st:Ch}(I:Inv N st){n:Nat}{m:Mn}(hn:n∈st.au)(hk:m.k=(st.mo n).k)(hm:MOk (N+1) m){kp:List (Nat×List Ed)}(ek:kp.map (·.1)=st.kept.map (·.1))(lk:∀x∈kp,x.2.length<=N+1)
  (hp:PMs (st.au.map (Ch.mo { st with made:=st.made.set (n - 1) m,kept:=kp }))):Inv (N+1) { st with made:=st.made.set (n - 1) m,kept:=kp }:=by
 have hno:=I.bP n hn;have kinds:∀k,cY st k->(Ch.mo { st with made:=st.made.set (n - 1) m,kept:=kp } k).k=(st.mo k).k:=λk h=>by
  by_cases z:k=n
  ·subst z;rw[BX hno rfl,hk]
  ·rw[mj hno h.1 z rfl]
 have em:Ch.uA { st with made:=st.made.set (n - 1) m,kept:=kp }=st.uA:=RD (by show (st.made.set (n - 1) m).length=_;rw[ak4]) kinds
 refine⟨?_,akk I.lr,akk I.ld,akk I.la,lk,⟨I.sit.1,by have:=I.sit.2;show st.aT<=_;omega⟩,?_,?_,I.nd,hp,?_,by rw[em,<-I.kk];exact ek,by rw[em];exact I.ff,I.dw⟩
 ·show 3 * (st.made.set (n - 1) m).length<=_;rw[ak4];have:=I.lm;omega
 ·intro x hx;rcases List.mem_or_eq_of_mem_set hx with h | h
  ·exact(I.mok x h).mono (by omega)
  ·rw[h];exact hm
 ·intro k hk;have:=I.num k hk;exact⟨this.1,by show k<=(st.made.set (n - 1) m).length;rw[ak4];exact this.2⟩
 ·intro x hx;obtain⟨h1,h2⟩:=I.asd x hx;refine⟨?_,h2⟩;have:x.2.2.map (Ch.mo { st with made:=st.made.set (n - 1) m,kept:=kp })=x.2.2.map st.mo:=ald λk hk =>
   mj hno (I.tM hx k hk).1 (λz=>I.LS hn hx (by rw[<-z];exact hk)) rfl
  rw[this];exact h1
theorem Inv.lU {N:Nat}{st:Ch}(I:Inv N st){n:Nat}{r:List Nat}(e:st.au=n::r){u:Int}(h0:-10000000000 < u)(h1:u < 10000000000):Inv (N+1) (st.lU n u):=by
 have perm:List.Perm (st.lU n u).all st.all:=by
  unfold Ch.all Ch.lU;rw[List.flatMap_append,als];show List.Perm ((st.aH.flatMap (·.2.2)++[(n,u,st.au)].flatMap (·.2.2))++st.decided.map (·.1)) _
  rw[show [(n,u,st.au)].flatMap (·.2.2)=st.au by simp,<-alb]
  exact List.Perm.append_right _ List.perm_append_comm
 refine⟨akk I.lm,akk I.lr,akk I.ld,?_,λx hx=>akk (I.lk x hx),⟨I.sit.1,by have:=I.sit.2;show st.aT<=_;omega⟩,λm hm=>(I.mok m hm).mono (by omega),λk hk=>I.num k (perm.mem_iff.mp hk),perm.nodup_iff.mpr I.nd,.nil,?_,I.kk,I.ff,I.dw⟩
 ·show (st.aH++[(n,u,st.au)]).length<=_;rw[me,akh];have:=I.la;omega
 ·intro x hx;rcases List.mem_append.mp hx with hx | hx
  ·exact I.asd x hx
  ·rw[aka]at hx;subst hx;exact⟨I.pil,⟨r,e⟩,h0,h1⟩
def Ch.carry (st:Ch):Mn->Ch
 | .chg e=>match st.au with
  |n::_=>(match st.mo n with
   | .mat tx=>st.Mw n tx e
   |_=>st)
  |[]=>st
 | .mnd f=>match st.au.getLast? with
  |some n=>(match st.mo n with
   | .chg e=>st.Mx n e (bE (R.bj e.th) f)
   |_=>st)
  |none=>st
 | .off u=>match st.au with
  |n::_=>st.lU n u
  |[]=>st
 | .cls=>{ st with closed:=true }
 | .lay=>match st.au with
  |n::_=>st.lU n st.aT
  |[]=>st
 | .rst=>{ st with aT:=st.aT+1 }
 |_=>st
theorem p7 (xs:List Str)(e:Ed):(bE xs e).length<=xs.length+1:=by
 unfold bE;split
 ·rw[me,aj3,akF,alg];omega
 ·exact akk (List.length_eraseIdx_le _ _)
 ·rw[ak4];omega
theorem DK {xs:List Str}{e:Ed}{x:Str}(h:x∈bE xs e):x∈xs\/x=e.th:=by
 unfold bE at h;split at h
 ·rcases List.mem_append.mp h with h | h
  ·exact .inl (List.mem_of_mem_take h)
  ·rcases List.mem_cons.mp h with h | h
   ·exact .inr h
   ·exact .inl (List.mem_of_mem_drop h)
 ·exact .inl (List.mem_of_mem_eraseIdx h)
 ·exact List.mem_or_eq_of_mem_set h
theorem O7 {α β:Type}{f:α->β}{xs:List α}{y:β}(h:xs.map f=[y]):∃a,xs=[a]/\f a=y:=by
 cases xs with
 |nil=>cases h
 |cons a r =>
  cases r with
  |nil=>exact⟨a,rfl,by simpa using h⟩
  |cons b r=>simp at h
theorem RE {α β:Type}{f:α->β}{xs:List α}{y z:β}(h:xs.map f=[y,z]):∃a b,xs=[a,b]/\f a=y/\f b=z:=by
 cases xs with
 |nil=>cases h
 |cons a r =>
  rw[km]at h;obtain⟨b,rfl,e⟩:=O7 (List.cons.inj h).2;exact⟨a,b,rfl,(List.cons.inj h).1,e⟩
theorem Gk {α β:Type}{f:α->β}{xs:List α}{y:β}{r:List β}(h:xs.map f=y::r):∃a s,xs=a::s/\f a=y:=by
 cases xs with
 |nil=>cases h
 |cons a s=>exact⟨a,s,rfl,(List.cons.inj h).1⟩
theorem EdB.ok {N:Nat}{e:Ed}(h:EdB N e)(hN:N<=4000):qP e:=by
 obtain⟨a,b,c,ws,d,f,g⟩:=h;refine⟨a,b,c,?_,?_⟩
 ·rw[d];exact pW (λx hx=>by
   rw[show (R.bl1:Str).cps.toList=[32] by trivial,aka]at hx
   omega) ws λw hw=>λx hx=>by have:=(f w hw).sgn x hx;unfold R.Sign at this;omega
 ·rw[d,R.oF];have h1:=ub 32 ws;have h2:=R.DA f;omega
theorem EdB.str {N:Nat}{e:Ed}(h:EdB N e):ako e.th=true:=by
 obtain⟨a,b,c,ws,d,f,g⟩:=h;rw[d];exact(pW (λx hx=>by
  rw[show (R.bl1:Str).cps.toList=[32] by trivial,aka]at hx
  omega) ws λw hw=>λx hx=>by have:=(f w hw).sgn x hx;unfold R.Sign at this;omega).ok
theorem EdB.words {N:Nat}{e:Ed}(h:EdB N e):(∀w∈R.bj e.th,R.oG w)/\(R.bj e.th).length<=N:=by
 obtain⟨a,b,c,ws,d,f,g⟩:=h;rw[d,R.lS f];exact⟨f,g⟩
theorem vm {ws:List Str}{f:Ed}(h:∀w∈ws,R.oG w)(hf:R.oG f.th):∀w∈bE ws f,R.oG w:=λw hw=>by
 rcases DK hw with h1 | h1
 ·exact h w h1
 ·rw[h1];exact hf
theorem Mz (n:Nat)(e:Ed)(xs:List (Nat×List Ed)):(p6 n e xs).map (·.1)=xs.map (·.1):=by
 unfold p6;rw[List.map_map];refine ald λx _=>?_
 show (if x.1=n then (x.1,x.2++[e]) else x).1=x.1
 split <;> rfl
theorem O8 {n N:Nat}{e:Ed}{xs:List (Nat×List Ed)}(h:∀x∈xs,x.2.length<=N):∀x∈p6 n e xs,x.2.length<=N+1:=by
 intro x hx;obtain⟨y,hy,rfl⟩:=List.mem_map.mp hx;have:=h y hy;split
 ·show (y.2++[e]).length<=_;rw[me,akh];omega
 ·omega
theorem Inv.carry {N:Nat}{st:Ch}(I:Inv N st)(hN:N<=900){m:Mn}(ht:za (st.au.map st.mo) m)(hm:MOk N m):Inv (N+1) (st.carry m):=by
 have J:=I.mono (akY N);cases m with
 |mat tx=>exact J
 |pnt z=>exact J
 |chg e =>
  obtain⟨tx,h1,hf⟩:=ht;obtain⟨k,e1,e2⟩:=O7 h1;have hn:k∈st.au:=by rw[e1];exact fe
  have htx:=I.vj (I.bP k hn);rw[e2]at htx;have e3:st.carry (.chg e)=st.Mw k tx e:=by unfold Ch.carry;rw[e1];dsimp only;rw[e2]
  rw[e3];refine I.Tt hn (by rw[e2];rfl) ?_ (Mz k e st.kept) (O8 I.lk) ?_
  ·have:=p7 tx e;have h3:tx.length<=12+N:=htx.1;refine⟨by omega,λx hx=>?_⟩
   rcases DK hx with h | h
   ·exact htx.2 x h
   ·rw[h];exact EdB.str hm
  ·rw[e1,km,akD,BX (I.bP k hn) rfl];exact PMs.snoc (ms:=[]) .nil rfl
 |mnd f =>
  obtain⟨tx,e,h1,hk,hf⟩:=ht;obtain⟨a,b,e1,e2,e3⟩:=RE h1;have ha:a∈st.au:=by rw[e1];exact fe
  have hb:b∈st.au:=by rw[e1];exact ky _ fe
  have he:=I.vj (I.bP b hb);rw[e3]at he;have he':EdB (12+N) e:=he;obtain⟨w1,w2⟩:=he'.words;have e4:st.carry (.mnd f)=st.Mx b e (bE (R.bj e.th) f):=by unfold Ch.carry;rw[e1];show (match st.mo b with | .chg e=>_ | _=>st)=_;rw[e3];rfl
  rw[e4];obtain⟨_,w,hw,hw2⟩:=hm;refine I.Tt (kp:=st.kept) hb (by rw[e3];rfl) ?_ rfl (λx hx=>akk (I.lk x hx)) ?_
  ·refine⟨he'.1,he'.2.1,he'.2.2.1,_,rfl,vm w1 (by rw[hw];exact hw2),?_⟩
   have:=p7 (R.bj e.th) f;omega
  ·have ne:a≠b:=λz=>by rw[z,e3]at e2;cases e2
   have hp:=I.pil;rw[h1]at hp;obtain⟨tx',e5,e6⟩:=(PMs.pop (ms:=[.mat tx]) hp).2;cases e5;rw[e1,km,km,akD,BX (I.bP b hb) rfl,mj (I.bP b hb) (I.bP a ha).1 ne rfl,e2];exact PMs.snoc (ms:=[.mat tx]) (PMs.snoc (ms:=[]) .nil rfl) ⟨tx,rfl,e6⟩
 |off u =>
  obtain⟨⟨tx,r,h1⟩,_⟩:=ht;obtain⟨k,s,e1,_⟩:=Gk h1;have e3:st.carry (.off u)=st.lU k u:=by unfold Ch.carry;rw[e1]
  rw[e3];exact I.lU e1 hm.1 hm.2
 |lay =>
  obtain⟨⟨tx,r,h1⟩,_⟩:=ht;obtain⟨k,s,e1,_⟩:=Gk h1;have e3:st.carry .lay=st.lU k st.aT:=by unfold Ch.carry;rw[e1]
  rw[e3];have:=I.sit;exact I.lU e1 (by omega) (by omega)
 |cls=>exact⟨J.lm,J.lr,J.ld,J.la,J.lk,J.sit,J.mok,J.num,J.nd,J.pil,J.asd,J.kk,J.ff,J.dw⟩
 |rst=>exact⟨J.lm,J.lr,J.ld,J.la,J.lk,⟨by have:=I.sit.1;show 1<=st.aT+1;omega,by have:=I.sit.2;show st.aT+1<=_;omega⟩,J.mok,J.num,J.nd,J.pil,J.asd,J.kk,J.ff,J.dw⟩
inductive Rs where
 |num (n:Nat) | txt (z:Str) | exc (x:Xc)
abbrev jy:Str:=ar "kept"
abbrev Tu:Str:=ar "lost"
abbrev kX:Str:=ar "dropped"
def jq (b:Bool):Str:=if b=true then jy else Tu
theorem Az (b:Bool):ako (jq b)=true:=by
 unfold jq;split <;> trivial
def kY (st:Ch)(a b:Int):Rs×Ch:=match st.au.getLast? with
 |none=>(.exc .nothing,st)
 |some n=>if a+b > st.cK then (.exc .tooMany,st) else
  (.txt (jq (mO (nd (st.mo n).k) a b)),(if mO (nd (st.mo n).k) a b=true then (st.popped st.au.dropLast n (jq (mO (nd (st.mo n).k) a b))).carry (st.mo n) else st.popped st.au.dropLast n (jq (mO (nd (st.mo n).k) a b))).vi (R.tD (.nums (ar "vote") [a,b])))
def n8 (st:Ch):Rs×Ch:=match st.au.getLast? with
 |none=>(.exc .nothing,st)
 |some n=>(.txt kX,(st.popped st.au.dropLast n kX).vi (R.tD (.nums (ar "drop") [])))
def stepT (st:Ch)(n:Nat):Rs×Ch:=if st.au=[] then (match at1 n st.aH with
 |none=>(.exc .uw,st)
 |some x=>if st.aT < x.2.1 then (.exc (.BQ x.2.1),st) else (.num n,{ st.rA n x.2.2 with rows:=st.rows++[R.tD (.nums (ar "take") [(n:Int)])] })) else (.exc (.tH (oH st.closed (st.au.map st.mo))),st)
def kZ (st:Ch):Mn->Option Xc
 | .chg e=>match st.au.map st.mo with
  | .mat tx::_=>if d9 tx.length e=true then none else some .noFit
  |_=>none
 | .mnd f=>match (st.au.map st.mo).getLast? with
  |some (.chg e)=>if d9 (R.bj e.th).length f=true then none else some .noFit
  |_=>none
 | .off u=>if u<=st.aT then some (.mW st.aT) else none
 |_=>none
def js (st:Ch)(m:Mn):Option Xc:=match uy st.closed (st.au.map st.mo) m.k with
 |some x=>some x
 |none=>kZ st m
def Ch.moved (st:Ch)(m:Mn)(row:Str):Ch:={ st with made:=st.made++[m],au:=st.au++[st.made.length+1],firsts:=(match m with | .mat tx=>st.firsts++[(st.made.length+1,tx)] | _=>st.firsts),kept:=(match m with | .mat _=>st.kept++[(st.made.length+1,([]:List Ed))] | _=>st.kept),rows:=st.rows++[row] }
def lL (st:Ch)(m:Mn)(row:Str):Rs×Ch:=match js st m with
 |some x=>(.exc x,st)
 |none=>(.num (st.made.length+1),st.moved m row)
theorem Inv.moved {N:Nat}{st:Ch}(I:Inv N st){m:Mn}(hm:MOk N m)(hc:js st m=none)(row:Str):Inv (N+3) (st.moved m row):=by
 have J:=I.mono (show N<=N+3 by omega)
 have ho:uy st.closed (st.au.map st.mo) m.k=none/\kZ st m=none:=by
  unfold js at hc;split at hc
  ·cases hc
  ·exact⟨by assumption,hc⟩
 have hf:aaH (st.au.map st.mo) m:=by
  have h:=ho.2;cases m with
  |chg e =>
   intro tx r e1;unfold kZ at h;dsimp only at h;rw[e1]at h;dsimp only at h;split at h
   ·assumption
   ·cases h
  |mnd f =>
   intro r e e1;unfold kZ at h;dsimp only at h;rw[e1,akC]at h;dsimp only at h;split at h
   ·assumption
   ·cases h
  |_=>trivial
 have em:(st.moved m row).made=st.made++[m]:=rfl;have old:∀ks:List Nat,(∀k∈ks,cY st k)->ks.map (st.moved m row).mo=ks.map st.mo:=λks h=>ald λk hk=>BY em (h k hk)
 have nok:∀k,cY st k->cY (st.moved m row) k:=λk h=>⟨h.1,by show k<=(st.made++[m]).length;rw[me];have:=h.2;omega⟩
 have perm:List.Perm (st.moved m row).all ((st.made.length+1)::st.all):=by
  unfold Ch.all Ch.moved;rw[alb];exact List.perm_middle
 have mt:(st.moved m row).uA=st.uA++(if m.k=0 then [st.made.length+1] else []):=by
  unfold Ch.uA;rw[em,me,akh,List.range'_concat,List.filter_append,Nat.one_mul,Nat.add_comm 1]
  congr 1
  ·refine List.filter_congr λk hk=>?_
   rw[ala]at hk;rw[BY em ⟨hk.1,by omega⟩]
  ·rw[List.filter_cons,Fc em]
   by_cases z:m.k=0
   ·rw[if_pos (decide_eq_true z),if_pos z];rfl
   ·rw[if_neg (by rw[decide_eq_false z];decide),if_neg z];rfl
 refine⟨?_,?_,J.ld,J.la,?_,J.sit,?_,?_,?_,?_,?_,?_,?_,J.dw⟩
 ·show 3 * (st.made++[m]).length<=_;rw[me,akh];have:=I.lm;omega
 ·show (st.rows++[row]).length<=_;rw[me,akh];have:=I.lr;omega
 ·intro x hx;have hx':x∈(match m with | .mat _=>st.kept++[(st.made.length+1,([]:List Ed))] | _=>st.kept):=hx
  cases m with
  |mat tx =>
   rcases List.mem_append.mp hx' with h | h
   ·exact J.lk x h
   ·rw[aka]at h;rw[h];exact akX _
  |_=>exact J.lk x hx'
 ·intro x hx;rcases List.mem_append.mp (show x∈st.made++[m] from hx) with h | h
  ·exact J.mok x h
  ·rw[aka]at h;rw[h];exact hm.mono (by omega)
 ·intro k hk;rcases List.mem_cons.mp (perm.mem_iff.mp hk) with h | h
  ·rw[h];exact⟨by omega,by show _<=(st.made++[m]).length;rw[me,akh];omega⟩
  ·exact nok k (I.num k h)
 ·rw[perm.nodup_iff,List.nodup_cons];exact⟨λz=>by have:=(I.num _ z).2;omega,I.nd⟩
 ·show PMs ((st.au++[st.made.length+1]).map (st.moved m row).mo);rw[kx,old st.au I.bP,km,akD,Fc em];exact I.pil.push ho.1 hf
 ·intro x hx;obtain⟨h1,h2⟩:=I.asd x hx;exact⟨by rw[old _ (I.tM hx)];exact h1,h2⟩
 ·rw[mt,<-I.kk];cases m with
  |mat tx=>show (st.kept++[(st.made.length+1,([]:List Ed))]).map (·.1)=_;rw[kx,if_pos (show (Mn.mat tx).k=0 from rfl)];rfl
  |_=>exact(akP _).symm
 ·rw[mt,<-I.ff];cases m with
  |mat tx=>show (st.firsts++[(st.made.length+1,tx)]).map (·.1)=_;rw[kx,if_pos (show (Mn.mat tx).k=0 from rfl)];rfl
  |_=>exact(akP _).symm
theorem DL {n:Nat}{x:Nat×Int×List Nat}:∀ {as:List (Nat×Int×List Nat)},(as.flatMap (·.2.2)).Nodup->(∀y∈as,∃r,y.2.2=y.1::r)->at1 n as=some x->List.Perm (x.2.2++(as.filter λy=>decide (y.1≠n)).flatMap (·.2.2)) (as.flatMap (·.2.2))
 |[],_,_,h=>nomatch h
 |y::as,nd,hd,h=>by
  rw[List.flatMap_cons]at nd ⊢;obtain⟨n1,n2,n3⟩:=List.nodup_append.mp nd;unfold at1 at h;rw[akz]at h
  by_cases e:y.1=n
  ·rw[decide_eq_true e]at h;cases h;have:as.filter (λz=>decide (z.1≠n))=as:=by
    rw[List.filter_eq_self];intro z hz;refine decide_eq_true λq=>?_
    obtain⟨r,hr⟩:=hd z (ky _ hz);obtain⟨r',hr'⟩:=hd x fe;exact n3 n (by rw[hr',e];exact fe) n (List.mem_flatMap.mpr ⟨z,hz,by rw[hr,q];exact fe⟩) rfl
   rw[List.filter_cons_of_neg (by simp[e]),this]
  ·rw[decide_eq_false e]at h;have ih:=DL n2 (λz hz=>hd z (ky _ hz)) h
   rw[List.filter_cons_of_pos (by simp[e]),List.flatMap_cons,<-alb]
   exact(List.Perm.append_right _ List.perm_append_comm).trans (by rw[alb];exact List.Perm.append_left _ ih)
theorem Inv.rA {N:Nat}{st:Ch}(I:Inv N st){n:Nat}{x:Nat×Int×List Nat}(hp:st.au=[])(hx:at1 n st.aH=some x)(row:Str):Inv (N+1) { st.rA n x.2.2 with rows:=st.rows++[row] }:=by
 have J:=I.mono (akY N);have hm:=(dC hx).2;have nd:=I.nd;unfold Ch.all at nd;rw[hp,als]at nd;have pm:=DL (List.nodup_append.mp nd).1 (λy hy=>(I.asd y hy).2.1) hx
 have perm:List.Perm (Ch.all { st.rA n x.2.2 with rows:=st.rows++[row] }) st.all:=by
  unfold Ch.all Ch.rA;rw[hp,als,<-alb];exact List.Perm.append_right _ pm
 refine⟨J.lm,?_,J.ld,?_,J.lk,J.sit,J.mok,λk hk=>I.num k (perm.mem_iff.mp hk),perm.nodup_iff.mpr I.nd,(I.asd x hm).1,λy hy=>I.asd y (List.mem_filter.mp hy).1,I.kk,I.ff,I.dw⟩
 ·show (st.rows++[row]).length<=_;rw[me,akh];have:=I.lr;omega
 ·exact adm (alj _ _) J.la
theorem Inv.kY {N:Nat}{st:Ch}(I:Inv N st)(hN:N<=800)(a b:Int):Inv (N+3) (kY st a b).2:=by
 unfold My.kY;split
 ·exact I.mono (by omega)
 ·rename_i n h;obtain⟨pre,e⟩:=mi h;split
  ·exact I.mono (by omega)
  ·have ed:st.au.dropLast=pre:=by rw[e];exact ak0
   obtain⟨I1,ht⟩:=I.pop e (jq (mO (My.nd (st.mo n).k) a b)) (Az _);rw[ed];have hn:n∈st.au:=by rw[e];simp
   split
   ·exact(I1.carry (by omega) ht ((I.vj (I.bP n hn)).mono (by omega))).vi _
   ·exact(I1.vi _).mono (by omega)
theorem Inv.n8 {N:Nat}{st:Ch}(I:Inv N st):Inv (N+3) (n8 st).2:=by
 unfold My.n8;split
 ·exact I.mono (by omega)
 ·rename_i n h;obtain⟨pre,e⟩:=mi h;have ed:st.au.dropLast=pre:=by rw[e];exact ak0
  rw[ed];exact((I.pop e kX (by trivial)).1.vi _).mono (by omega)
theorem Inv.stepT {N:Nat}{st:Ch}(I:Inv N st)(n:Nat):Inv (N+3) (stepT st n).2:=by
 unfold My.stepT;split
 ·split
  ·exact I.mono (by omega)
  ·split
   ·exact I.mono (by omega)
   ·exact(I.rA (by assumption) (by assumption) _).mono (by omega)
 ·exact I.mono (by omega)
theorem Inv.lL {N:Nat}{st:Ch}(I:Inv N st){m:Mn}(hm:MOk N m)(row:Str):Inv (N+3) (lL st m row).2:=by
 unfold My.lL;split
 ·exact I.mono (by omega)
 ·exact I.moved hm (by assumption) row
theorem BZ:∀(L:Nat) (l:List Nat),l.Nodup->(∀n∈l,1<=n/\n<=L)->l.length<=L
 | 0,l,_,h=>by
  cases l with
  |nil=>exact kq 0
  |cons x r=>have:=h x fe;omega
 |L+1,l,nd,h=>by
  by_cases m:L+1∈l
  ·have ih:=BZ L (l.erase (L+1)) (nd.erase _) (λn hn=>by
    obtain⟨h1,h2⟩:=nd.mem_erase_iff.mp hn;have:=h n h2;omega)
   rw[List.length_erase_of_mem m]at ih;omega
  ·have ih:=BZ L l nd (λn hn=>by
    have:=h n hn;have:n≠L+1:=λz=>m (by rw[<-z];exact hn)
    omega)
   omega
theorem Gm:∀ {as:List (Nat×Int×List Nat)},(∀y∈as,∃r,y.2.2=y.1::r)->List.Sublist (as.map (·.1)) (as.flatMap (·.2.2))
 |[],_=>.slnil
 |y::as,h=>by
  obtain⟨r,hr⟩:=h y fe;rw[km,List.flatMap_cons,hr,List.cons_append];exact .cons₂ _ ((Gm λz hz=>h z (ky _ hz)).trans (List.sublist_append_right _ _))
theorem Inv.V2 {N:Nat}{st:Ch}(I:Inv N st):(st.aH.map (·.1)).Nodup:=by
 have nd:=I.nd;unfold Ch.all at nd;exact(Gm λy hy=>(I.asd y hy).2.1).nodup (List.nodup_append.mp (List.nodup_append.mp nd).2.1).1
theorem Inv.Gn {N:Nat}{st:Ch}(I:Inv N st):st.aH.length<=st.made.length:=by
 have h:=BZ st.made.length (st.aH.map (·.1)) I.V2 (λn hn=>by
  obtain⟨x,hx,e⟩:=List.mem_map.mp hn;obtain⟨r,hr⟩:=(I.asd x hx).2.1;exact I.tM hx n (by rw[hr,e];exact fe))
 rw[ba]at h;exact h
def LU (A:Adr)(i:Nat)(c:Col)(H:Hp)(o:Addr):Rs×Ch->VK->XK->Prop
 | (.num n,st),Q,_=>∀c' H',Step (d8 i) c c' H H'->eP A i c' H' o st->Q (nV n) H'
 | (.txt z,st),Q,_=>∀c' H',Step (d8 i) c c' H H'->eP A i c' H' o st->Q (.str z) H'
 | (.exc x,st),_,E=>∀c' H' C d,Step (d8 i) c c' H H'->eP A i c' H' o st->x.At A H' C d->(∀a,d=some a->c' a=none)->E C d H'
def LV:List Str:=[ar "seats",ar "sitting",ar "closed",ar "made",ar "pile",ar "aside",ar "decided",ar "first_texts",ar "edits_kept",ar "rows"]
theorem cA {m:Str}{v0 v1 v2 v3 v4 v5 v6 v7 v8 v9:V}(h:m∉LV):(chF v0 v1 v2 v3 v4 v5 v6 v7 v8 v9).lookup m=none:=by
 unfold LV at h;simp only[List.mem_cons,List.not_mem_nil,or_false,not_or]at h;obtain⟨h0,h1,h2,h3,h4,h5,h6,h7,h8,h9⟩:=h;unfold chF;simp only[akI,beq_eq_false_iff_ne.mpr h0,beq_eq_false_iff_ne.mpr h1,beq_eq_false_iff_ne.mpr h2,beq_eq_false_iff_ne.mpr h3,beq_eq_false_iff_ne.mpr h4,beq_eq_false_iff_ne.mpr h5,beq_eq_false_iff_ne.mpr h6,beq_eq_false_iff_ne.mpr h7,beq_eq_false_iff_ne.mpr h8,beq_eq_false_iff_ne.mpr h9]
def RF (A:Adr)(i:Nat):Sp:=λvs H Q _=>∃(o mo:Addr) (c:Col) (st:Ch) (m:Mn) (N:Nat),vs=[.ref o,.ref mo]/\eP A i c H o st/\mR A c H m mo/\Inv N st/\N<=900/\za (st.au.map st.mo) m/\MOk N m /\
 ∀c' H',Step (d8 i) c c' H H'->eP A i c' H' o (st.carry m)->Q .non H'
def V3 (A:Adr)(i:Nat):Sp:=λvs H Q E=>∃(o:Addr) (a b:Int) (c:Col) (st:Ch) (N:Nat),vs=[.ref o,.int a,.int b]/\eP A i c H o st/\Inv N st/\N<=800/\(0<=a/\a < 10 ^ 10)/\(0<=b/\b < 10 ^ 10)/\LU A i c H o (kY st a b) Q E
def V4 (A:Adr)(i:Nat):Sp:=λvs H Q E=>∃(o:Addr) (c:Col) (st:Ch) (N:Nat),vs=[.ref o]/\eP A i c H o st/\Inv N st/\N<=800/\LU A i c H o (n8 st) Q E
def V5 (A:Adr)(i:Nat):Sp:=λvs H Q E=>∃(o:Addr) (z:Int) (c:Col) (st:Ch) (N:Nat),vs=[.ref o,.int z]/\eP A i c H o st/\Inv N st/\N<=800/\-1<=z/\z < 10 ^ 10/\LU A i c H o (stepT st z.toNat) Q E
theorem yt:∀ {ks:List Nat} {vs:List V},gW (aZ (ks.zip vs)) (kf (-1))=none
 |[],_=>rfl
 |_::_,[]=>rfl
 |k::ks,v::vs=>by
  rw[cZ,bV (λz=>by have:=Sum.inl.inj z;omega)]
  exact yt
theorem Inv.no0 {N:Nat}{st:Ch}(I:Inv N st):at1 0 st.aH=none:=by
 cases e:at1 0 st.aH with
 |none=>rfl
 |some x =>
  obtain⟨h1,h2⟩:=dC e;obtain⟨r,hr⟩:=(I.asd x h2).2.1;have:=(I.tM h2 x.1 (by rw[hr];exact fe)).1
  omega
theorem Fe {i:Nat}{c:Col}{H:Hp}{t:Addr}{xs:List V}:yo i (ay c t none) (upd H t (.tup xs)) t xs:=⟨by rw[aW];exact aV,ae⟩
theorem wY {A:Adr}{c:Col}{H H':Hp}{f:Nat->Mn}(s:bu H H'):∀ {ns:List Nat} {os:List Addr},bD (λn m=>mR A c H (f n) m) ns os->bD (λm p=>mR A c H' m p) (ns.map f) os
 |_,_,.nil=>.nil
 |_,_,.cons h t=>.cons (h.same s) (wY s t)
theorem B0 {kd:Str}{ns:List Int}(h:(kd,ns.length)∈R.jj)(hn:∀i∈ns,0<=i/\i < 10 ^ 10):R.DOk (.nums kd ns):=⟨h,hn⟩
section
variable{P:sr}{w:World}{K:bo}{mg:Str->Option Value}{base:Heap}{A:Adr}
theorem Ff (T:Txt w.params K mg A){i:Nat}:a7 P w K mg base CX0 5 A.bK A.gD ["self","motion"] (RF A i):=by
 have gN:∀k,k < 8->a7 P w K mg base CX0 1 (A.fk k) (A.fkd k) ["self"] (gu k):=lR T;refine T.dO.ok kP (λvs H Q E h=>?_) (λcdv A' outer s H vs Q E hr h=>?_)
 ·obtain⟨o,mo,c,st,m,N,rfl,_⟩:=h;rfl
 ·obtain⟨o,mo,c,st,m,N,rfl,hc,hmo,I,hN,wZ,CI,q⟩:=h;obtain⟨dx,aM,aP,aA,aD,aF,aE,aR,ms,ds,ws,fs,es,X⟩:=hc.ex;refine⟨_,(ai (a4 (i:=2) kP.nd rfl (wt rfl) (lW (n:=8) (Cf:=A.C) (pv 1) T.cl T.oz gN (hr.mono (by decide)) T.oB a5))
 (aj (a9 (az bt (pv 2) ao (aJ _))
 (aj (bJ (eG (pv 0) T.aq T.iQ (yp (i:=i) T) hr T.dJ .nil a5 (aa (bh (pv 1) rfl) af))))
 (aj (a9 (az bt (pv 2) ao (aJ _))
 (aj (bJ (eG (pv 0) T.aq T.iR (yq (i:=i) T) hr T.dM .nil a5 (aa (bh (pv 1) rfl) af))))
 (aj (a9 (az bt (pv 2) ao (aJ _))
 (aj (bJ (eG (pv 0) T.aq T.ia (wW (i:=i) T) (hr.mono (by decide)) T.dQ .nil a5 (aa (bh (pv 1) rfl) af))))
 (aj (a9 (az bt (pv 2) ao (aJ _))
 (aj (eU (pv 0) kK rfl))
 (aj (a9 (az bt (pv 2) ao (aJ _))
 (aj (bJ (eG (pv 0) T.aq T.ia (wW (i:=i) T) (hr.mono (by decide)) T.dQ .nil a5 (aa (bh (pv 0) rfl) af))))
 (aj (a9 (az bt (pv 2) ao (aJ _))
 (aj (eU (pv 0) (bc eh (bh (pv 0) rfl) ah) rfl))
 aC))))))))))))),?_⟩
  try dsimp only[bG]
  refine aQ λGq gq=>?_
  obtain⟨hcn,dm,v,hm,hv⟩:=hmo;refine gq ?_;refine⟨_,rfl,m.k,m.k8,mo,dm,_,rfl,hm,lQ m.k v,mo,rfl,?_⟩;have lM:=I.lm;cases m with
  |mat tx=>exact⟨_,rfl,rfl,tsf (cg 0 (by decide)) ⟨_,rfl,rfl,tsf (cn 0 (by decide)) ⟨_,rfl,rfl,tsf (gQ 0 (by decide)) ⟨_,rfl,rfl,tsf (jo 0 (by decide)) ⟨_,rfl,rfl,tsf (E7 0 (by decide)) ⟨_,rfl,rfl,tsf (mX 0 (by decide)) (q c H (Step.refl aV) hc)⟩⟩⟩⟩⟩⟩
  |pnt z=>exact⟨_,rfl,rfl,tsf (cg 7 (by decide)) ⟨_,rfl,rfl,tsf (cn 7 (by decide)) ⟨_,rfl,rfl,tsf (gQ 7 (by decide)) ⟨_,rfl,rfl,tsf (jo 7 (by decide)) ⟨_,rfl,rfl,tsf (E7 7 (by decide)) ⟨_,rfl,rfl,tsf (mX 7 (by decide)) (q c H (Step.refl aV) hc)⟩⟩⟩⟩⟩⟩
  |chg e =>
   refine⟨_,rfl,rfl,tst (cg 1 (by decide)) ?_⟩
   refine aQ λGq gq=>?_
   obtain⟨tx,h1,hf⟩:=wZ;obtain⟨k,e1,e2⟩:=O7 h1;have hn:k∈st.au:=by rw[e1];exact fe
   have hno:=I.bP k hn;have htx:=I.vj hno;rw[e2]at htx;have ahN:tx.length<=12+N:=htx.1;obtain⟨x,hx,hxl⟩:=I.keptAt hno (by rw[e2];rfl)
   have e3:st.carry (.chg e)=st.Mw k tx e:=by unfold Ch.carry;rw[e1];dsimp only;rw[e2]
   rw[e3]at q;have O9:EdB (12+N) e:=CI;obtain⟨t,rfl,ht⟩:=hv;refine gq ?_;refine mtv rfl X.ob (cA (by trivial)) ⟨_,rfl,mo,A.C 1,dm,_,.ref t,rfl,hm,T.cl 1 (by decide),T.na1,rfl,?_⟩
   exact⟨o,t,c,st,k,[],tx,e,x,rfl,hc,e1,hno,e2,by omega,by omega,ht,O9.ok (by omega),hf,hx,by omega,by rw[I.kk];exact vk st,q⟩
  |mnd f =>
   refine⟨_,rfl,rfl,tsf (cg 2 (by decide)) ⟨_,rfl,rfl,tst (cn 2 (by decide)) ?_⟩⟩
   refine aQ λGq gq=>?_
   obtain⟨tx,e,h1,hk,hf⟩:=wZ;obtain⟨a,b,e1,e2,e3⟩:=RE h1;have hb:b∈st.au:=by rw[e1];exact ky _ fe
   have hno:=I.bP b hb;have he:=I.vj hno;rw[e3]at he;have he':EdB (12+N) e:=he;obtain⟨w1,w2⟩:=he'.words;have e4:st.carry (.mnd f)=st.Mx b e (bE (R.bj e.th) f):=by unfold Ch.carry;rw[e1];show (match st.mo b with | .chg e=>_ | _=>st)=_;rw[e3];rfl
   rw[e4]at q;obtain⟨hf1,w0,hw0,hw1⟩:=CI;have l1:=p7 (R.bj e.th) f;have l2:=R.DA (vm w1 (by rw[hw0];exact hw1):∀w∈bE (R.bj e.th) f,R.oG w)
   obtain⟨t,rfl,ht⟩:=hv;refine gq ?_;refine mtv rfl X.ob (cA (by trivial)) ⟨_,rfl,mo,A.C 2,dm,_,.ref t,rfl,hm,T.cl 2 (by decide),T.na2,rfl,?_⟩
   exact⟨o,t,c,st,b,[a],e,f,rfl,hc,e1,hno,e3,hk,he'.ok (by omega),by omega,by omega,ht,hf1.ok (by omega),hf,by omega,q⟩
  |off u =>
   refine⟨_,rfl,rfl,tsf (cg 3 (by decide)) ⟨_,rfl,rfl,tsf (cn 3 (by decide)) ⟨_,rfl,rfl,tst (gQ 3 (by decide)) ?_⟩⟩⟩
   refine aQ λGq gq=>?_
   obtain⟨⟨tx,r,h1⟩,_⟩:=wZ;obtain⟨k,r',e1,_⟩:=Gk h1;have e3:st.carry (.off u)=st.lU k u:=by unfold Ch.carry;rw[e1]
   rw[e3]at q;have hv':v=.int u:=hv;subst hv';have:=I.la;refine gq ?_;refine mtv rfl X.ob (cA (by trivial)) ⟨_,rfl,mo,A.C 3,dm,_,.int u,rfl,hm,T.cl 3 (by decide),T.na3,rfl,?_⟩
   exact⟨o,u,c,st,k,r',rfl,hc,e1,I.Fd (by rw[e1];exact fe),by omega,q⟩
  |cls =>
   refine⟨_,rfl,rfl,tsf (cg 4 (by decide)) ⟨_,rfl,rfl,tsf (cn 4 (by decide)) ⟨_,rfl,rfl,tsf (gQ 4 (by decide)) ⟨_,rfl,rfl,tst (jo 4 (by decide)) ?_⟩⟩⟩⟩
   refine⟨_,rfl,o,A.ax,dx,_,rfl,X.ob,T.aq,T.jq5,(by show 10 < 1000;decide),?_⟩
   rw[BN];obtain⟨s1,X1⟩:=X.attr st.aT true;exact q c _ s1.gP X1.at
  |lay =>
   refine⟨_,rfl,rfl,tsf (cg 5 (by decide)) ⟨_,rfl,rfl,tsf (cn 5 (by decide)) ⟨_,rfl,rfl,tsf (gQ 5 (by decide)) ⟨_,rfl,rfl,tsf (jo 5 (by decide)) ⟨_,rfl,rfl,tst (E7 5 (by decide)) ?_⟩⟩⟩⟩⟩
   refine aQ λGq gq=>?_
   obtain⟨⟨tx,r,h1⟩,_⟩:=wZ;obtain⟨k,r',e1,_⟩:=Gk h1;have e3:st.carry .lay=st.lU k st.aT:=by unfold Ch.carry;rw[e1]
   rw[e3]at q;have:=I.la;refine gq ?_;refine mtv rfl X.ob (cA (by trivial)) (eW rfl X.ob T.aq T.jq1 iT ?_)
   exact⟨o,st.aT,c,st,k,r',rfl,hc,e1,I.Fd (by rw[e1];exact fe),by omega,q⟩
  |rst =>
   refine⟨_,rfl,rfl,tsf (cg 6 (by decide)) ⟨_,rfl,rfl,tsf (cn 6 (by decide)) ⟨_,rfl,rfl,tsf (gQ 6 (by decide)) ⟨_,rfl,rfl,tsf (jo 6 (by decide)) ⟨_,rfl,rfl,tsf (E7 6 (by decide)) ⟨_,rfl,rfl,tst (mX 6 (by decide)) ?_⟩⟩⟩⟩⟩⟩
   refine eW rfl X.ob T.aq T.jq1 iT ⟨_,_,rfl,rfl,_,rfl,o,A.ax,dx,_,rfl,X.ob,T.aq,T.jq1,(by show 10 < 1000;decide),?_⟩
   rw[Gf];obtain⟨s1,X1⟩:=X.attr (st.aT+1) st.closed;exact q c _ s1.gP X1.at
theorem RG (T:Txt w.params K mg A){i:Nat}:a7 P w K mg base (CXX P w) 6 A.cQ A.lx ["self","ayes","noes"] (V3 A i):=by
 have V6:∀k,k < 8->a7 P w K mg base CX0 1 (A.fn k) (A.fnd k) ["self"] (EX k):=Rx T;refine T.gI.okX lj (λvs H Q E h=>?_) (λcdv A' outer s H vs Q E hr h=>?_)
 ·obtain⟨o,a,b,c,st,N,rfl,_⟩:=h;rfl
 ·obtain⟨o,a,b,c,st,N,rfl,hc,I,hN,ha,hb,q⟩:=h;obtain⟨dx,aM,aP,aA,aD,aF,aE,aR,ms,ds,ws,fs,es,X⟩:=hc.ex;have hu1:=hr.u1;refine⟨_,(bb (iY (xK (px (pv 0)) T.aq T.eu (mU (i:=i) T) (hr.mono (by decide)) T.ck))
 (bb (gA (az Fv (bc eh (pv 1) (pv 2)) (bh (pv 0) rfl) (aJ _))
 (bw (iF T.BD rfl rfl T.Dx (aa ao af)))
 (uM aC))
 (bb (psx (a4 (i:=3) lj.nd rfl (wt rfl) (a8 hu1 (bh (pv 0) rfl) (aS bA (bh (pv 0) rfl) (mr iy ah) (λ_ _=>rfl)) (λ_ _=>rfl))))
 (bb (psx (a4 (i:=4) lj.nd rfl (wt rfl) (Fu (oj (aX (JR T) (hr.mono (by decide)) rfl T.Di T.ya.kp T.Dh .nil a5 (aa (lW (n:=8) (Cf:=A.C) (pv 3) T.cl T.OP V6 (hr.mono (by decide)) T.OQ a5) (aa (pv 1) (aa (pv 2) af))))) ao ao)))
 (bb (psx (bJ (eG (pv 0) T.aq T.jS (DD (i:=i) T) (hr.mono (by decide)) T.fw .nil a5 (aa (pv 4) af))))
 (bb (psx (a9 (az bt (pv 4) ao (aJ _))
 (aj (bJ (eG (pv 0) T.aq T.lK (Ff (i:=i) T) hr T.eR .nil a5 (aa (pv 3) af))))
 aC))
 (bb (psx (bJ (eG (pv 0) T.aq T.fM (rC (i:=i) T) hr T.cX .nil a5 (aa (bp (aa ao (aa (pv 1) (aa (pv 2) af)))) af))))
 (bw (psx (aG (pv 4))))))))))),?_⟩
  try dsimp only[bG]
  refine mtv rfl X.ob (cA (by trivial)) ⟨o,c,st,rfl,hc,λhne=>?_,λhe=>?_⟩
  case refine_2 =>
   unfold kY at q;rw[he]at q;exact q c H _ _ (Step.refl aV) hc ⟨rfl,rfl⟩ (λ_ z=>nomatch z)
  refine aQ λGq gq=>?_
  obtain⟨pre,n,e⟩:∃pre n,st.au=pre++[n]:=by
   rcases akb st.au with e | ⟨pre,n,e⟩
   ·exact absurd e hne
   ·exact⟨pre,n,by rw[e,akc]⟩
  have gl:st.au.getLast?=some n:=by rw[e];exact akC
  have ed:st.au.dropLast=pre:=by rw[e];exact ak0
  unfold kY at q;rw[gl]at q;dsimp only at q;rw[ed]at q;refine gq ?_;refine⟨_,rfl,_,rfl,_,_,rfl,rfl,eW rfl X.ob T.aq T.jqr Mr ⟨_,_,rfl,rfl,_,rfl,fG (λz=>?_) (λz=>?_)⟩⟩
  ·have z':a+b > st.cK:=of_decide_eq_true z;rw[if_pos z']at q;exact⟨by decide,q c H _ _ (Step.refl aV) hc ⟨rfl,rfl⟩ (λ_ z=>nomatch z)⟩
  refine aQ λGq gq=>?_
  have z':¬a+b > st.cK:=λy=>z (decide_eq_true y)
  rw[if_neg z']at q;have hn:n∈st.au:=by rw[e];simp
  have hno:=I.bP n hn;obtain⟨mo,hv,hmo⟩:=X.RB hno;have hcp:=hmo;obtain⟨_,dm,v,hm,_⟩:=hmo;have h0:atI (st.au.map nV) (-1)=some (nV n):=by rw[e,kx];exact ic _ _
  refine gq ?_;refine⟨_,rfl,o,A.ax,dx,_,.ref aM,rfl,X.ob,T.aq,T.jq2,il,_,rfl,o,A.ax,dx,_,.ref aP,rfl,X.ob,T.aq,T.jq0,fB,_,rfl,aP,_,_,_,rfl,rfl,SqL.of X.au.2,h0,aM,_,rfl,.inl ⟨_,kf (n:Int),.inl X.made.2,rfl,hv.symm⟩,?_⟩;refine⟨_,rfl,(st.mo n).k,(st.mo n).k8,mo,dm,_,rfl,hm,Ro _ v,mo,rfl,_,rfl,_,rfl,nd (st.mo n).k,a,b,rfl,_,rfl,?_⟩;obtain⟨I1,wZ⟩:=I.pop e (jq (mO (nd (st.mo n).k) a b)) (Az _);have CI:=(I.vj hno).mono (akY N);have lp:=I.pil.JU;rw[ba]at lp;have ld:=I.ld;have lr:=I.lr;have dk:R.DOk (.nums (ar "vote") [a,b]):=B0 (by show (ar "vote",2)∈R.jj;trivial) (by
   intro i hi;rcases List.mem_cons.mp hi with h | hi
   ·rw[h];exact ha
   ·rw[aka]at hi;rw[hi];exact hb)
  cases hk:mO (nd (st.mo n).k) a b with
  |true =>
   rw[hk]at q I1;rw[if_pos rfl]at q;refine dW (mtv rfl X.ob (cA (by trivial)) ⟨_,rfl,o,jy,c,st,pre,n,rfl,hc,e,by omega,by omega,λc1 H1 s1 hc1=>?_⟩)
   refine aQ λGq gq=>?_
   obtain⟨dx1,aM1,aP1,aA1,aD1,aF1,aE1,aR1,ms1,ds1,ws1,fs1,es1,X1⟩:=hc1.ex;refine gq ?_;refine⟨_,rfl,rfl,tst (by trivial) (mtv rfl X1.ob (cA (by trivial)) ⟨_,rfl,o,mo,c1,_,st.mo n,N+1,rfl,hc1,hcp.step s1,I1,by omega,wZ,CI,λc2 H2 s2 hc2=>?_⟩)⟩
   refine aQ λGq gq=>?_
   obtain⟨dx2,aM2,aP2,aA2,aD2,aF2,aE2,aR2,ms2,ds2,ws2,fs2,es2,X2⟩:=hc2.ex;have I2:=I1.carry (by omega) wZ CI
   refine gq ?_;refine mtv rfl X2.ob (cA (by trivial)) ⟨_,rfl,_,rfl,(sl 3),λt ht=>?_⟩
   have s3:Step (d8 i) c2 (ay c2 t none) H2 (upd H2 t (.tup [V.str (ar "vote"),.int a,.int b])):=Step.new aV ht;have X3:=X2.free (W:=λ_=>False) (λ_=>id) (Step.new (x:=none) (o:=.tup [V.str (ar "vote"),.int a,.int b]) id ht)
   have lr2:=I2.lr;refine⟨o,t,_,_,.nums (ar "vote") [a,b],rfl,X3.at,Fe,dk,adm lr2 (by omega),λc4 H4 s4 hc4=>⟨_,rfl,?_⟩⟩
   exact q c4 H4 (((s1.trans s2).trans s3).trans s4) hc4
  |false =>
   rw[hk]at q I1;rw[if_neg ma]at q;refine bZ (mtv rfl X.ob (cA (by trivial)) ⟨_,rfl,o,Tu,c,st,pre,n,rfl,hc,e,by omega,by omega,λc1 H1 s1 hc1=>?_⟩)
   refine aQ λGq gq=>?_
   obtain⟨dx2,aM2,aP2,aA2,aD2,aF2,aE2,aR2,ms2,ds2,ws2,fs2,es2,X2⟩:=hc1.ex;refine gq ?_;refine⟨_,rfl,rfl,tsf (by trivial) ?_⟩
   refine mtv rfl X2.ob (cA (by trivial)) ⟨_,rfl,_,rfl,(sl 3),λt ht=>?_⟩
   have s3:Step (d8 i) c1 (ay c1 t none) H1 (upd H1 t (.tup [V.str (ar "vote"),.int a,.int b])):=Step.new aV ht;have X3:=X2.free (W:=λ_=>False) (λ_=>id) (Step.new (x:=none) (o:=.tup [V.str (ar "vote"),.int a,.int b]) id ht)
   refine⟨o,t,_,_,.nums (ar "vote") [a,b],rfl,X3.at,Fe,dk,by show st.rows.length<=1000;omega,λc4 H4 s4 hc4=>⟨_,rfl,?_⟩⟩
   exact q c4 H4 ((s1.trans s3).trans s4) hc4
theorem RH (T:Txt w.params K mg A){i:Nat}:a7 P w K mg base (CXX P w) 6 A.cS A.ly ["self"] (V4 A i):=by
 refine T.gJ.okX zo (λvs H Q E h=>?_) (λcdv A' outer s H vs Q E hr h=>?_)
 ·obtain⟨o,c,st,N,rfl,_⟩:=h;rfl
 ·obtain⟨o,c,st,N,rfl,hc,I,hN,q⟩:=h;obtain⟨dx,aM,aP,aA,aD,aF,aE,aR,ms,ds,ws,fs,es,X⟩:=hc.ex;refine⟨_,(bb (iY (xK (px (pv 0)) T.aq T.eu (mU (i:=i) T) (hr.mono (by decide)) T.ck))
 (bb (psx (bJ (eG (pv 0) T.aq T.jS (DD (i:=i) T) (hr.mono (by decide)) T.fw .nil a5 (aa ao af))))
 (bb (psx (bJ (eG (pv 0) T.aq T.fM (rC (i:=i) T) hr T.cX .nil a5 (aa (bp (aa ao af)) af))))
 (bw (psx (aG ao)))))),?_⟩
  try dsimp only[bG]
  refine mtv rfl X.ob (cA (by trivial)) ⟨o,c,st,rfl,hc,λhne=>?_,λhe=>?_⟩
  case refine_2 =>
   unfold n8 at q;rw[he]at q;exact q c H _ _ (Step.refl aV) hc ⟨rfl,rfl⟩ (λ_ z=>nomatch z)
  refine aQ λGq gq=>?_
  obtain⟨pre,n,e⟩:∃pre n,st.au=pre++[n]:=by
   rcases akb st.au with e | ⟨pre,n,e⟩
   ·exact absurd e hne
   ·exact⟨pre,n,by rw[e,akc]⟩
  have gl:st.au.getLast?=some n:=by rw[e];exact akC
  have ed:st.au.dropLast=pre:=by rw[e];exact ak0
  unfold n8 at q;rw[gl]at q;dsimp only at q;rw[ed]at q;have lp:=I.pil.JU;rw[ba]at lp;have ld:=I.ld;have lr:=I.lr;refine gq ?_;refine mtv rfl X.ob (cA (by trivial)) ⟨o,kX,c,st,pre,n,rfl,hc,e,by omega,by omega,λc1 H1 s1 hc1=>?_⟩
  refine aQ λGq gq=>?_
  obtain⟨dx2,aM2,aP2,aA2,aD2,aF2,aE2,aR2,ms2,ds2,ws2,fs2,es2,X2⟩:=hc1.ex;refine gq ?_;refine mtv rfl X2.ob (cA (by trivial)) ⟨(sl 1),λt ht=>?_⟩
  have s3:Step (d8 i) c1 (ay c1 t none) H1 (upd H1 t (.tup [V.str (ar "drop")])):=Step.new aV ht;have X3:=X2.free (W:=λ_=>False) (λ_=>id) (Step.new (x:=none) (o:=.tup [V.str (ar "drop")]) id ht)
  refine⟨o,t,_,_,.nums (ar "drop") [],rfl,X3.at,Fe,B0 (by trivial) (λ_ h=>nomatch h),by show st.rows.length<=1000;omega,λc4 H4 s4 hc4=>?_⟩
  exact q c4 H4 ((s1.trans s3).trans s4) hc4
theorem RI (T:Txt w.params K mg A){i:Nat}:a7 P w K mg base (CXX P w) 6 A.cT A.lz ["self","number"] (V5 A i):=by
 have kW:a7 P w K mg base CX0 4 A.mh A.g9 ["deed"] (R.E4 K):=R.qR T;refine T.gK.okX q5 (λvs H Q E h=>?_) (λcdv A' outer s H vs Q E hr h=>?_)
 ·obtain⟨o,z,c,st,N,rfl,_⟩:=h;rfl
 ·obtain⟨o,z,c,st,N,rfl,hc,I,hN,hz0,hz1,q⟩:=h;obtain⟨dx,aM,aP,aA,aD,aF,aE,aR,ms,ds,ws,fs,es,X⟩:=hc.ex;have hu1:=hr.u1;have hgd:=hr.gd;have lim:gr=16777216:=by decide
  refine⟨_,(bb (gA (sA (bh (pv 0) rfl) (λ_=>rfl))
 (bw (qD T.pV (y9 T) (hr.mono (by decide)) T.mJ rfl rfl T.By (aa (aX (DG T) (hr.mono (by decide)) rfl T.Bi T.wu.kp T.Bh .nil a5 (aa (ib (pv 0) T.aq T.jf (BP (i:=i) T) (hr.mono (by decide)) T.eJ .nil a5) (aa (bh (pv 0) rfl) af))) af)))
 (uM aC))
 (bb (gA (D3 (ue hu1 (pv 1) (bh (pv 0) rfl)))
 (bw (iF T.BE rfl rfl T.Dy (aa (AN (kM (uO (pv 1) (kM uN)))) af)))
 (uM aC))
 (bb (psx (a4 (i:=2) q5.nd rfl (wt rfl) (aS aU (a8 hu1 (bh (pv 0) rfl) (pv 1) (λ_ _=>rfl)) ah (λ_ _=>rfl))))
 (bb (gA (az sy (bh (pv 0) rfl) (pv 2) (aJ _))
 (bw (qD T.uv (Gh T) (hr.mono (by decide)) T.qO rfl rfl T.F9 (aa (pv 2) af)))
 (uM aC))
 (bb (psx (eU (pv 0) (aS U6 (FU (bh (pv 0) rfl) (pv 1) ⟨rfl,rfl,rfl,rfl⟩) ah (λ_ _=>rfl)) rfl))
 (bb (psx (bJ (gw rf aj4 aj5 dn (bh (pv 0) rfl) (aa (aX kW (hr.mono (by decide)) rfl T.nZ T.kR.kp T.nY .nil a5 (aa (bp (aa ao (aa (pv 1) af))) af)) af))))
 (bw (psx (aG (pv 1)))))))))),?_⟩
  try dsimp only[bG]
  by_cases hz:z=-1
  ·subst hz;refine eW rfl X.ob T.aq T.jq0 fB ⟨_,.inl ⟨_,.inl (.inl X.au.2),rfl⟩,?_⟩;rw[show ((-1:Int).toNat)=0 from rfl]at q
   unfold stepT at q;cases e:st.au with
   |cons k0 r0 =>
    rw[if_neg (by rw[e];exact akq _ _)]at q
    have lp:=I.pil.JU;rw[ba]at lp;have hb:=BS st.closed (st.au.map st.mo);have hb0:0<=oH st.closed (st.au.map st.mo):=Int.le_trans (by
     by_cases z:rO (st.au.map st.mo) < 0
     ·have:=BW z;rw[e]at this;cases this
     ·omega) (tL _ _)
    refine dW (mtv rfl X.ob (cA (by trivial)) ⟨o,c,st,rfl,hc,I.bP,by omega,λB os hB hos=>?_⟩)
    have sB:=aB (o:=.lst (os.map V.ref)) hB;refine eW rfl (sB _ _ X.ob) T.aq T.jq5 qS ⟨B,st.closed,c,st.au.map st.mo,os,rfl,⟨SqL.of ae,wY sB hos⟩,?_⟩;refine⟨_,rfl,pZ (by omega) (by omega),λd hd=>?_⟩
    exact q (bS c H) _ _ _ (Step.cl aV (sB.new hd)) (X.cl (sB.new hd)).at ⟨rfl,d,rfl,ae⟩ (λ_ z=>by cases z;exact bT (same_none sB hd))
   |nil =>
    rw[if_pos e,I.no0]at q;refine bZ ?_;refine⟨_,rfl,eW rfl X.ob T.aq T.jq4 jT ⟨aA,_,rfl,.inl ⟨_,kf (-1),.inl X.aH.2,rfl,rfl⟩,_,rfl,?_⟩⟩;rw[yt];have l1:(akw++ar "no matter of the number ":Str).length=24:=by trivial
    have l2:(ar " is aside").length=9:=by trivial
    have l3:(ar (toString (-1:Int))).length=2:=by trivial
    refine dW ⟨by rw[l1];omega,_,rfl,_,.int (by decide),by rw[l3];omega,by rw[len_app,l1,l3];omega,by rw[len_app,len_app,l1,l2,l3];omega,by rw[len_app,len_app,l1,l2,l3];omega,(sl 1),?_⟩
    exact q c H _ _ (Step.refl aV) hc ⟨rfl,rfl⟩ (λ_ z=>nomatch z)
  refine aQ λGq gq=>?_
  obtain⟨n,rfl⟩:∃n:Nat,z=(n:Int):=⟨z.toNat,by omega⟩
  rw[Int.toNat_natCast]at q;have ajW:n < 10 ^ 10:=by
   have:(10:Nat) ^ 10=10000000000:=by decide
   have:(10:Int) ^ 10=10000000000:=by decide
   omega
  clear hz hz0 hz1;refine gq ?_;refine eW rfl X.ob T.aq T.jq0 fB ⟨_,.inl ⟨_,.inl (.inl X.au.2),rfl⟩,?_⟩;unfold stepT at q;cases e:st.au with
  |cons k0 r0 =>
   rw[if_neg (by rw[e];exact akq _ _)]at q
   have lp:=I.pil.JU;rw[ba]at lp;have hb:=BS st.closed (st.au.map st.mo);have hb0:0<=oH st.closed (st.au.map st.mo):=Int.le_trans (by
    by_cases z:rO (st.au.map st.mo) < 0
    ·have:=BW z;rw[e]at this;cases this
    ·omega) (tL _ _)
   refine dW (mtv rfl X.ob (cA (by trivial)) ⟨o,c,st,rfl,hc,I.bP,by omega,λB os hB hos=>?_⟩)
   have sB:=aB (o:=.lst (os.map V.ref)) hB;refine eW rfl (sB _ _ X.ob) T.aq T.jq5 qS ⟨B,st.closed,c,st.au.map st.mo,os,rfl,⟨SqL.of ae,wY sB hos⟩,?_⟩;refine⟨_,rfl,pZ (by omega) (by omega),λd hd=>?_⟩
   exact q (bS c H) _ _ _ (Step.cl aV (sB.new hd)) (X.cl (sB.new hd)).at ⟨rfl,d,rfl,ae⟩ (λ_ z=>by cases z;exact bT (same_none sB hd))
  |nil =>
   rw[if_pos e]at q;refine bZ ?_;refine⟨_,rfl,eW rfl X.ob T.aq T.jq4 jT ⟨aA,_,rfl,.inl ⟨_,kf (n:Int),.inl X.aH.2,rfl,rfl⟩,_,rfl,?_⟩⟩;cases hx:at1 n st.aH with
   |none =>
    rw[hx]at q;rw[qT (wV hx)];have l1:(akw++ar "no matter of the number ":Str).length=24:=by trivial
    have l2:(ar " is aside").length=9:=by trivial
    have e10:(10:Nat) ^ 10=10000000000:=by decide
    have l3:(ar (toString (n:Int))).length<=20:=DF (by omega) (by omega)
    refine dW ⟨by rw[l1];omega,_,rfl,_,.int (DE (by omega) (by omega)),by omega,by rw[len_app,l1];omega,by rw[len_app,len_app,l1,l2];omega,by rw[len_app,len_app,l1,l2];omega,(sl 1),?_⟩
    exact q c H _ _ (Step.refl aV) hc ⟨rfl,rfl⟩ (λ_ z=>nomatch z)
   |some x =>
    refine aQ λGq gq=>?_
    rw[hx]at q;dsimp only at q;obtain⟨t,p,hv,ht,hl⟩:=X.waitOf hx;refine gq ?_;rw[hv];refine bZ ?_;refine⟨_,rfl,o,A.ax,dx,_,.ref aA,rfl,X.ob,T.aq,T.jq4,jT,_,rfl,aA,_,rfl,.inl ⟨_,kf (n:Int),.inl X.aH.2,rfl,hv.symm⟩,t,_,_,_,rfl,rfl,ht.sq,rfl,?_⟩;refine⟨_,rfl,o,A.ax,dx,_,.int st.aT,rfl,X.ob,T.aq,T.jq1,iT,_,rfl,_,_,rfl,rfl,_,rfl,fG (λz=>?_) (λz=>?_)⟩
    ·have z':st.aT < x.2.1:=of_decide_eq_true z;refine aQ λGq gq=>?_
     rw[if_pos z']at q;obtain⟨_,_,b1,b2⟩:=I.asd x (dC hx).2;refine gq ?_;refine⟨_,rfl,_,rfl,pZ (by have:=I.sit.1;omega) b2,λd hd=>?_⟩
     exact q (bS c H) _ _ _ (Step.cl aV (aB hd)) (X.cl (aB hd)).at ⟨rfl,d,rfl,ae⟩ (λ_ z=>by cases z;exact bT hd)
    ·have z':¬st.aT < x.2.1:=λy=>z (decide_eq_true y)
     rw[if_neg z']at q;have nAt:t≠aA:=λy=>by have:=ht.1;rw[y,X.aH.1]at this;cases this
     have ht':SqT K (upd H aA (.dK (iG (aZ ((st.aH.map (·.1)).zip ws)) (kf (n:Int))))) t [.int x.2.1,.ref p]:=by
      rcases ht.2 with h | ⟨u,h⟩
      ·exact .inl (.inl ((aw nAt).trans h))
      ·exact .inl (.inr ⟨u,(aw nAt).trans h⟩)
     have oA:o≠aA:=d5 X.co X.aH.1 (λz=>nomatch z)
     refine eW rfl X.ob T.aq T.jq4 jT ⟨aA,rfl,.inl ⟨_,.inl X.aH.2⟩,_,rfl,_,kf (n:Int),_,X.aH.2,rfl,hv,.inr (.inl ⟨t,_,1,.ref p,rfl,rfl,ht',rfl,?_⟩)⟩;refine⟨_,rfl,o,A.ax,dx,_,rfl,(aw oA).trans X.ob,T.aq,T.jq0,(by show 10 < 1000;decide),?_⟩
     rw[Gg];refine aQ λGq gq=>?_
     obtain⟨c1,ws1,s1,X1⟩:=X.rA hl;refine gq ?_;generalize upd (upd H aA (.dK (iG (aZ ((st.aH.map (·.1)).zip ws)) (kf (n:Int))))) o (.ins A.ax dx (chF (.int st.cK) (.int st.aT) (.bl st.closed) (.ref aM) (.ref p) (.ref aA) (.ref aD) (.ref aF) (.ref aE) (.ref aR)))=H1 at s1 X1 ⊢
     have lr:=I.lr;have h10:(n:Int) < 10 ^ 10:=by
      have:(10:Nat) ^ 10=10000000000:=by decide
      have:(10:Int) ^ 10=10000000000:=by decide
      omega
     refine eW rfl X1.ob T.aq T.jqk wQ ⟨.inl ⟨rfl,_,SqL.of X1.rows.2⟩,_,rfl,(sl 2),λu hu=>?_⟩
     have s2:=aB (o:=.tup [V.str (ar "take"),nV n]) hu;refine⟨u,.nums (ar "take") [(n:Int)],rfl,SqT.of ae,B0 (by show (ar "take",1)∈R.jj;trivial) (by intro i hi;rw[aka]at hi;rw[hi];exact⟨by omega,h10⟩),λH2 s3=>?_⟩
     have X2:=X1.same (s2.trans s3);obtain⟨s4,X3⟩:=X2.row (R.tD (.nums (ar "take") [(n:Int)]));refine⟨aR,_,_,rfl,rfl,X2.rows.2,by rw[ba];show st.rows.length < _;omega,_,rfl,?_⟩
     exact q c1 _ ((s1.gP.trans (Step.same aV (s2.trans s3))).trans s4.gP) X3.at
end
def eQ:R.d7->Mn
 | .mat cs=>.mat (cs.map (si R.bl1))
 | .ed m k j ws=>if m=true then .mnd ⟨k,j,si R.bl1 ws⟩ else .chg ⟨k,j,si R.bl1 ws⟩
 | .pt ws=>.pnt (si R.bl1 ws)
 | .nums kd ns=>if kd=ar "put off" then .off (ns.getD 0 0) else if kd=ar "close" then .cls else if kd=ar "lay" then .lay else .rst
def n9:List (Str×Nat):=[(ar "put off",1),(ar "close",0),(ar "lay",0),(ar "rest",0)]
def CJ:R.d7->Prop
 | .mat cs=>cs.length<=12/\∀ws∈cs,R.BM 12 ws
 | .ed m k j ws=>(k=0\/k=1\/k=2)/\(-1000<=j/\j<=1000)/\R.BM 12 ws/\(m=true->ws.length=1)
 | .pt ws=>R.BM 12 ws
 | .nums kd ns=>(kd,ns.length)∈n9/\∀i∈ns,-10000000000 < i/\i < 10 ^ 10
theorem qU {kd:Str}{ns:List Int}(h:(kd,ns.length)∈n9):(∃u,kd=ar "put off"/\ns=[u])\/(kd=ar "close"/\ns=[])\/(kd=ar "lay"/\ns=[])\/(kd=ar "rest"/\ns=[]):=by
 unfold n9 at h;simp only[List.mem_cons,List.not_mem_nil,or_false,Prod.mk.injEq]at h;rcases h with ⟨h1,h2⟩ | ⟨h1,h2⟩ | ⟨h1,h2⟩ | ⟨h1,h2⟩
 ·cases ns with
  |nil=>simp at h2
  |cons u r =>
   cases r with
   |nil=>exact .inl ⟨u,h1,rfl⟩
   |cons _ _=>simp at h2
 ·exact .inr (.inl ⟨h1,List.length_eq_zero_iff.mp h2⟩)
 ·exact .inr (.inr (.inl ⟨h1,List.length_eq_zero_iff.mp h2⟩))
 ·exact .inr (.inr (.inr ⟨h1,List.length_eq_zero_iff.mp h2⟩))
theorem Gp {n:Nat}{ws:List Str}(h:R.BM n ws):ako (si R.bl1 ws)=true:=(R.Clause.asc (n:=n) ⟨rfl,h.len,h.wd⟩).ok
theorem Fg {N:Nat}:∀ {d:R.d7},CJ d->MOk N (eQ d)
 | .mat cs,h=>by
  refine⟨?_,?_⟩
  ·rw[ba];have:=h.1;omega
  ·intro x hx;obtain⟨ws,hw,rfl⟩:=List.mem_map.mp hx;exact Gp (h.2 ws hw)
 | .ed m k j ws,h=>by
  obtain⟨h1,⟨h2,h3⟩,h4,h5⟩:=h;cases m with
  |true =>
   show EdB 1 ⟨k,j,si R.bl1 ws⟩/\_;have hl:=h5 rfl
   match ws,hl,h4 with
   |[x],_,h4=>exact⟨⟨h1,h2,h3,[x],rfl,h4.wd,kq 1⟩,x,rfl,h4.wd x fe⟩
  |false =>
   show EdB (12+N) ⟨k,j,si R.bl1 ws⟩;exact⟨h1,h2,h3,ws,rfl,h4.wd,by have:=h4.len;omega⟩
 | .pt ws,h=>Gp h
 | .nums kd ns,h=>by
  obtain⟨h1,h2⟩:=h;rcases qU h1 with ⟨u,rfl,rfl⟩ | ⟨rfl,rfl⟩ | ⟨rfl,rfl⟩ | ⟨rfl,rfl⟩
  ·rw[eQ,if_pos rfl];obtain⟨a,b⟩:=h2 u fe;have:(10:Int) ^ 10=10000000000:=by decide
   exact⟨a,by show u < _;omega⟩
  ·rw[eQ,if_neg (by trivial),if_pos rfl];trivial
  ·rw[eQ,if_neg (by trivial),if_neg (by trivial),if_pos rfl];trivial
  ·rw[eQ,if_neg (by trivial),if_neg (by trivial),if_neg (by trivial)];trivial
theorem Tv {M:Nat}{e:Ed}(h:d9 M e=true):0<=e.at_:=(BF.mp h).1
theorem V7 {N:Nat}{st:Ch}(I:Inv N st){d:R.d7}(h:CJ d)(hc:js st (eQ d)=none):R.DOk d:=by
 have ho:uy st.closed (st.au.map st.mo) (eQ d).k=none/\kZ st (eQ d)=none:=by
  unfold js at hc;split at hc
  ·cases hc
  ·exact⟨by assumption,hc⟩
 obtain⟨h0,hf⟩:=ho;cases d with
 |mat cs=>exact h
 |pt ws=>exact h
 |ed m k j ws =>
  obtain⟨h1,⟨h2,h3⟩,h4,h5⟩:=h;have e10:(10:Int) ^ 10=10000000000:=by decide
  refine⟨h1,⟨?_,by omega⟩,h4,h5⟩
  cases m with
  |true =>
   rw[eQ,if_pos rfl]at h0 hf;have h3:fN (st.au.map st.mo)=true:=(wX h0).2;unfold fN at h3;split at h3
   ·rename_i e he;unfold kZ at hf;dsimp only at hf;rw[he]at hf;dsimp only at hf;split at hf
    ·rename_i h6;exact Tv h6
    ·cases hf
   ·cases h3
  |false =>
   rw[eQ,if_neg ma]at h0 hf;obtain⟨tx,r,e1⟩:=I.pil.JT (wX h0).2;unfold kZ at hf;dsimp only at hf;rw[e1]at hf;dsimp only at hf;split at hf
   ·rename_i h6;exact Tv h6
   ·cases hf
 |nums kd ns =>
  obtain⟨h1,h2⟩:=h;have s1:=I.sit.1;rcases qU h1 with ⟨u,rfl,rfl⟩ | ⟨rfl,rfl⟩ | ⟨rfl,rfl⟩ | ⟨rfl,rfl⟩
  ·rw[eQ,if_pos rfl]at hf;refine⟨by show (ar "put off",1)∈R.jj;trivial,λi hi=>?_⟩
   rw[aka]at hi;subst hi;unfold kZ at hf;dsimp only at hf;split at hf
   ·cases hf
   ·rename_i h6;have h7:¬i<=st.aT:=h6;exact⟨by omega,(h2 i fe).2⟩
  ·exact⟨by trivial,λ_ h=>nomatch h⟩
  ·exact⟨by trivial,λ_ h=>nomatch h⟩
  ·exact⟨by trivial,λ_ h=>nomatch h⟩
theorem w5 {i:Nat}{c:Col}{H:Hp}{t:Addr}:∀ {d:R.d7},CJ d->rB i c H d t->∃v,yo i c H t (rowOf (eQ d).k v)/\((eQ d).k=0->∃L tx,v=.ref L/\eQ d=.mat tx/\Mv i c H L (tx.map V.str))/\((eQ d).k≠0->(eQ d).Val c H v)
 | .mat cs,_,⟨L,a,b⟩=>⟨.ref L,a,λ_=>⟨L,_,rfl,rfl,b⟩,λz=>absurd rfl z⟩
 | .ed true k j ws,h,⟨e,a,b⟩=>⟨.ref e,a,λz=>(nomatch z),λ_=>⟨e,rfl,by rw[<-Fb h.1];exact b⟩⟩
 | .ed false k j ws,h,⟨e,a,b⟩=>⟨.ref e,a,λz=>(nomatch z),λ_=>⟨e,rfl,by rw[<-Fb h.1];exact b⟩⟩
 | .pt ws,_,a=>⟨.str (si R.bl1 ws),a,λz=>(nomatch z),λ_=>rfl⟩
 | .nums kd ns,h,a=>by
  rcases qU h.1 with ⟨u,rfl,rfl⟩ | ⟨rfl,rfl⟩ | ⟨rfl,rfl⟩ | ⟨rfl,rfl⟩
  ·rw[eQ,if_pos rfl];exact⟨.int u,a,λz=>(nomatch z),λ_=>rfl⟩
  ·rw[eQ,if_neg (by trivial),if_pos rfl]
   exact⟨.non,a,λz=>(nomatch z),λ_=>trivial⟩
  ·rw[eQ,if_neg (by trivial),if_neg (by trivial),if_pos rfl]
   exact⟨.non,a,λz=>(nomatch z),λ_=>trivial⟩
  ·rw[eQ,if_neg (by trivial),if_neg (by trivial),if_neg (by trivial)]
   exact⟨.non,a,λz=>(nomatch z),λ_=>trivial⟩
def Pa (A:Adr)(K:bo):Sp:=λvs H Q E=>LH A vs H Q E\/Gb A K vs H Q E
def aaI (A:Adr)(i:Nat):Sp:=λvs H Q E=>∃(o t:Addr) (c:Col) (st:Ch) (N:Nat) (d:R.d7),vs=[.ref o,.ref t]/\eP A i c H o st/\Inv N st/\N<=800/\CJ d/\rB i c H d t /\
 (js st (eQ d)=none->∀H',bu H H'->Q .non H')/\∀x,js st (eQ d)=some x->∀C e H',bu H H'->x.New A H H' C e->E C e H'
def V8 (A:Adr)(i:Nat):Sp:=λvs H Q E=>∃(o t:Addr) (c:Col) (st:Ch) (N:Nat) (d:R.d7),vs=[.ref o,.ref t]/\eP A i c H o st/\Inv N st/\N<=800/\CJ d/\rB i c H d t/\LU A i c H o (lL st (eQ d) (R.tD d)) Q E
theorem MOk.ed1 {N:Nat}{e:Ed}(h:MOk N (.chg e))(hN:N<=800):qP e:=EdB.ok h (by omega)
theorem MOk.ed2 {N:Nat}{e:Ed}(h:MOk N (.mnd e)):qP e:=EdB.ok h.1 (by decide)
section
variable{P:sr}{w:World}{K:bo}{mg:Str->Option Value}{base:Heap}{A:Adr}
theorem qV (T:Txt w.params K mg A){i:Nat}:a7 P w K mg base (CXX P w) 6 A.bg A.dv ["self","told"] (aaI A i):=by
 have mP:a7 P w K mg base CX0 1 A.words_of A.iP ["clause"] R.pY:=R.kT T;refine T.bN.okX dq (λvs H Q E h=>?_) (λcdv A' outer s H vs Q E hr h=>?_)
 ·obtain⟨o,t,c,st,N,d,rfl,_⟩:=h;rfl
 ·obtain⟨o,t,c,st,N,d,rfl,hc,I,hN,hd,hdc,q,qx⟩:=h;obtain⟨dx,aM,aP,aA,aD,aF,aE,aR,ms,ds,ws,fs,es,X⟩:=hc.ex;have hu1:=hr.u1;refine⟨_,(bb (psx (a4 (i:=2) dq.nd rfl (wt rfl) (aS aU (pv 1) ah (λ_ _=>rfl))))
 (bb (psx (a4 (i:=3) dq.nd rfl (wt rfl) (ib (pv 0) T.aq T.jf (BP (i:=i) T) (hr.mono (by decide)) T.eJ .nil a5)))
 (bb (iY (vZ (uz T) hr rfl T.mF T.iB.kp T.mE (pax (aa (pv 2) (aa (pv 3) (aa (bh (pv 0) rfl) af))))))
 (bw (gA (az bt (pv 2) ao (aJ _))
 (bw (iY (vZ (mL T) (hr.mono (by decide)) rfl T.kB T.ij.kp T.kA (pax (aa (bh (aS bA (pv 3) ah (λ_ _=>rfl)) rfl) (aa (aS aU (pv 1) ah (λ_ _=>rfl)) af))))))
 (bw (gA (az bt (pv 2) ao (aJ _))
 (bw (iY (vZ (mL T) (hr.mono (by decide)) rfl T.kB T.ij.kp T.kA (pax (aa (aX mP (hr.mono (by decide)) rfl T.jR T.iA.kp T.jQ .nil a5 (aa (aS aU (bh (aS bA (pv 3) (mr iy ah) (λ_ _=>rfl)) rfl) ah (λ_ _=>rfl)) af)) (aa (aS aU (pv 1) ah (λ_ _=>rfl)) af))))))
 (bw (gA (PW.pt (pw_and (az bt (pv 2) ao (aJ _)) (pw_and1 (az vN (aS aU (pv 1) ah (λ_ _=>rfl)) (bh (pv 0) rfl) (aJ _)))))
 (bw (qD T.n6 (CH T) (hr.mono (by decide)) T.lP rfl rfl T.BB (aa (bh (pv 0) rfl) af)))
 (uM aC)))))))))),?_⟩
  try dsimp only[bG]
  refine aQ λGq gq=>?_
  obtain⟨v,ht,hv0,hv1⟩:=w5 hd hdc;have hmk:=Fg (N:=N) hd;refine gq ?_;generalize eQ d=m at ht hv0 hv1 hmk q qx;have lp:=I.pil.JU;rw[ba]at lp;refine ixv rfl (SqT.of ht.2) dS ?_;refine mtv rfl X.ob (cA (by trivial)) ⟨o,c,st,rfl,hc,I.bP,by omega,λB os hB hos=>?_⟩
  have sB:=aB (o:=.lst (os.map V.ref)) hB;have hp:wR A K c (upd H B (.lst (os.map V.ref))) B (st.au.map st.mo) os:=⟨SqL.of ae,wY sB hos⟩;generalize upd H B (.lst (os.map V.ref))=H1 at sB hp;refine⟨_,rfl,_,rfl,eW rfl (sB _ _ X.ob) T.aq T.jq5 qS ⟨m.k,B,st.closed,c,st.au.map st.mo,os,rfl,m.k8,hp,by rw[ba];omega,λho H2 s2=>?_,λx hx C e H2 s2 hat=>?_⟩⟩
  case refine_2=>exact qx x (by unfold js;rw[hx]) C e H2 (sB.trans s2) ⟨hat.1,λa z=>same_none sB (hat.2 a z)⟩
  have ec:js st m=kZ st m:=by unfold js;rw[ho]
  rw[ec]at q qx;have s12:=sB.trans s2;have hp2:=hp.same s2;obtain⟨h1,h2⟩:=wX ho;have X2:=X.same s12;have ht2:H2 t=some (.tup (rowOf m.k v)):=s12 _ _ ht.2;cases m with
  |mat tx=>exact⟨_,rfl,rfl,tsf (cg 0 (by decide)) ⟨_,rfl,rfl,tsf (cn 0 (by decide)) ⟨_,rfl,rfl,tsf (gQ 0 (by decide)) (bZ (q rfl H2 s12))⟩⟩⟩
  |pnt z=>exact⟨_,rfl,rfl,tsf (cg 7 (by decide)) ⟨_,rfl,rfl,tsf (cn 7 (by decide)) ⟨_,rfl,rfl,tsf (gQ 7 (by decide)) (bZ (q rfl H2 s12))⟩⟩⟩
  |cls=>exact⟨_,rfl,rfl,tsf (cg 4 (by decide)) ⟨_,rfl,rfl,tsf (cn 4 (by decide)) ⟨_,rfl,rfl,tsf (gQ 4 (by decide)) (bZ (q rfl H2 s12))⟩⟩⟩
  |lay=>exact⟨_,rfl,rfl,tsf (cg 5 (by decide)) ⟨_,rfl,rfl,tsf (cn 5 (by decide)) ⟨_,rfl,rfl,tsf (gQ 5 (by decide)) (bZ (q rfl H2 s12))⟩⟩⟩
  |rst=>exact⟨_,rfl,rfl,tsf (cg 6 (by decide)) ⟨_,rfl,rfl,tsf (cn 6 (by decide)) ⟨_,rfl,rfl,tsf (gQ 6 (by decide)) (bZ (q rfl H2 s12))⟩⟩⟩
  |chg e =>
   refine⟨_,rfl,rfl,tst (cg 1 (by decide)) ?_⟩
   refine aQ λGq gq=>?_
   obtain⟨tx,r,e1⟩:=I.pil.JT h2;obtain⟨te,rfl,hte⟩:=hv1 (by simp[Mn.k])
   rw[e1]at hp2;obtain⟨hB2,ho2⟩:=hp2;refine gq ?_;cases ho2 with
   | @cons _ ob _ bs hm ajR =>
    refine aQ λGq gq=>?_
    obtain⟨_,dm,v,hm2,L,rfl,hL⟩:=hm;refine gq ?_;refine ixv rfl hB2 (dI (j:=0) rfl) ⟨ob,A.C 0,dm,_,.ref L,rfl,hm2,T.cl 0 (by decide),T.na0,rfl,ixv rfl (SqT.of ht2) rfl ?_⟩
    refine⟨L,te,tx.map V.str,e,rfl,SqL.of hL.2,bR s12 hte.sq,hmk.ed1 hN,λhf=>?_,λhf=>?_⟩
    ·rw[ba]at hf;refine q ?_ H2 s12;unfold kZ;dsimp only;rw[e1];dsimp only;rw[if_pos hf]
    ·rw[ba]at hf;refine qx .noFit ?_ _ _ H2 s12 ⟨⟨rfl,rfl⟩,λ_ z=>nomatch z⟩
     unfold kZ;dsimp only;rw[e1];dsimp only;rw[if_neg (by rw[hf];decide)]
  |mnd f =>
   refine⟨_,rfl,rfl,tsf (cg 2 (by decide)) ⟨_,rfl,rfl,tst (cn 2 (by decide)) ?_⟩⟩
   refine aQ λGq gq=>?_
   have h3:fN (st.au.map st.mo)=true:=h2;unfold fN at h3;obtain⟨e,he,hk1⟩:∃e,(st.au.map st.mo).getLast?=some (.chg e)/\e.k≠1:=by
    split at h3
    ·rename_i e he;exact⟨e,he,λz=>by rw[z]at h3;cases h3⟩
    ·cases h3
   obtain⟨r,e1⟩:=mi he;obtain⟨te,rfl,hte⟩:=hv1 (by simp[Mn.k])
   obtain⟨hB2,ho2⟩:=hp2;obtain⟨pre,ob,eo⟩:∃pre ob,os=pre++[ob]:=by
    have hl:=ho2.len;rw[e1,me,akh]at hl;rcases akb os with e | ⟨pre,n,e⟩
    ·rw[e]at hl;simp at hl
    ·exact⟨pre,n,by rw[e,akc]⟩
   subst eo;obtain⟨as',a,e3,_,hm⟩:=ho2.last;rw[e1]at e3;obtain⟨_,e4⟩:=List.append_inj' e3 rfl;cases e4;obtain⟨_,dm,v,hm2,tc,rfl,htc⟩:=hm;have hem:EdB (12+N) e:=by
    have Pb:Mn.chg e∈st.au.map st.mo:=by rw[e1];simp
    obtain⟨k,hk,ek⟩:=List.mem_map.mp Pb;have:=I.vj (I.bP k hk);rw[ek]at this;exact this
   have heo:qP e:=hem.ok (by omega)
   refine gq ?_;refine⟨_,rfl,_,rfl,B,_,_,_,rfl,rfl,hB2,BU pre ob,ob,A.C 1,dm,_,.ref tc,rfl,hm2,T.cl 1 (by decide),T.na1,rfl,tc,_,_,_,rfl,rfl,htc.sq,vd hk1,e.th,rfl,?_,λp1 hp1=>?_⟩
   ·have:=heo.th.len;have lim:gr=16777216:=by decide
    omega
   have s3:=aB (o:=.lst ((R.bj e.th).map V.str)) hp1;have s13:=s12.trans s3;refine ixv rfl (SqT.of (s3 _ _ ht2)) rfl ?_;refine⟨p1,te,(R.bj e.th).map V.str,f,rfl,SqL.of ae,bR s13 hte.sq,hmk.ed2,λhf=>?_,λhf=>?_⟩
   ·rw[ba]at hf;refine q ?_ _ s13;unfold kZ;dsimp only;rw[he];dsimp only;rw[if_pos hf]
   ·rw[ba]at hf;refine qx .noFit ?_ _ _ _ s13 ⟨⟨rfl,rfl⟩,λ_ z=>nomatch z⟩
    unfold kZ;dsimp only;rw[he];dsimp only;rw[if_neg (by rw[hf];decide)]
  |off u =>
   have hv':v=.int u:=hv1 (by simp[Mn.k])
   subst hv';refine⟨_,rfl,rfl,tsf (cg 3 (by decide)) ⟨_,rfl,rfl,tsf (cn 3 (by decide)) ⟨_,rfl,rfl,tst (gQ 3 (by decide)) ?_⟩⟩⟩
   refine ixv rfl (SqT.of ht2) rfl (eW rfl X2.ob T.aq T.jq1 iT ⟨_,_,rfl,rfl,_,rfl,fG (λz=>?_) (λz=>?_)⟩)
   ·have z':u<=st.aT:=of_decide_eq_true z;have:=I.sit;refine eW rfl X2.ob T.aq T.jq1 iT ⟨_,rfl,pZ (by omega) (by omega),λd hd=>?_⟩
    refine qx (.mW st.aT) ?_ _ _ _ (s12.new hd) ⟨⟨rfl,d,rfl,ae⟩,λ_ z=>by cases z;exact same_none s12 hd⟩
    unfold kZ;dsimp only;rw[if_pos z']
   ·have z':¬u<=st.aT:=λy=>z (decide_eq_true y)
    refine q ?_ _ s12;unfold kZ;dsimp only;rw[if_neg z']
theorem RJ (T:Txt w.params K mg A):a7 P w K mg base CX0 3 A.pS A.i4 ["told"] (Pa A K):=Z4 (E3 T) (CG T)
theorem Pc {i:Nat}{c:Col}{H:Hp}{t:Addr}{m:Mn}{v:V}{Q:VK}{E:XK}(ht:yo i c H t (rowOf m.k v))(hv0:m.k=0->∃L tx,v=.ref L/\m=.mat tx/\Mv i c H L (tx.map V.str))(hv1:m.k≠0->m.Val c H v)
  (q:∀mo H',bu H H'->mR A (bS c H) H' m mo->Q (.ref mo) H'):Pa A K [.ref t] H Q E:=by
 by_cases h0:m.k=0
 ·obtain⟨L,tx,rfl,rfl,hL⟩:=hv0 h0;refine .inr ⟨t,L,tx.map V.str,rfl,ht.2,SqL.of hL.2,λmo p H' s hm hp hp' hmo=>q mo H' s ?_⟩
  obtain⟨dx,hmo⟩:=hmo;exact⟨bT hm,dx,.ref p,hmo,p,rfl,bT hp,hp'⟩
 ·refine .inl ⟨t,m.k,v,by omega,m.k8,rfl,ht.2,λmo H' s hm hmo=>q mo H' s ?_⟩
  obtain⟨dx,hmo⟩:=hmo;exact⟨bT hm,dx,v,hmo,(hv1 h0).step (Step.cl (W:=λ_=>False) id s)⟩
theorem RK (T:Txt w.params K mg A){i:Nat}:a7 P w K mg base (CXX P w) 7 A.cP A.lu ["self","told"] (V8 A i):=by
 have kW:a7 P w K mg base CX0 4 A.mh A.g9 ["deed"] (R.E4 K):=R.qR T;refine T.gH.okX q0 (λvs H Q E h=>?_) (λcdv A' outer s H vs Q E hr h=>?_)
 ·obtain⟨o,t,c,st,N,d,rfl,_⟩:=h;rfl
 ·obtain⟨o,t,c,st,N,d,rfl,hc,I,hN,hd,hdc,q⟩:=h;obtain⟨dx,aM,aP,aA,aD,aF,aE,aR,ms,ds,ws,fs,es,X⟩:=hc.ex;have hu1:=hr.u1;have lim:gr=16777216:=by decide
  refine⟨_,(bb (iY (pj (px (pv 0)) T.aq T.fE (qV (i:=i) T) hr T.cw (pax (aa (pv 1) af))))
 (bb (psx (a4 (i:=2) q0.nd rfl (wt rfl) (bc eh (cD C9 (by rfl) T.n5 jC (aa (bh (pv 0) rfl) af)) ah)))
 (bb (psx (fJ hu1 (bh (pv 0) rfl) (pv 2) (aX (RJ T) (hr.mono (by decide)) rfl T.yV T.nX.kp T.yU .nil a5 (aa (pv 1) af)) rfl))
 (bb (psx (bJ (gw rf aj4 aj5 dn (bh (pv 0) rfl) (aa (pv 2) af))))
 (bb (psx (a9 (az bt (aS aU (pv 1) ah (λ_ _=>rfl)) ao (aJ _))
 (ai (fJ hu1 (bh (pv 0) rfl) (pv 2) (cE cB (by rfl) T.i9 gU (aa (aS aU (pv 1) ah (λ_ _=>rfl)) af)) rfl)
 (aj (fJ hu1 (bh (pv 0) rfl) (pv 2) (bQ af) rfl)))
 aC))
 (bb (psx (bJ (gw rf aj4 aj5 dn (bh (pv 0) rfl) (aa (aX kW (hr.mono (by decide)) rfl T.nZ T.kR.kp T.nY .nil a5 (aa (pv 1) af)) af))))
 (bw (psx (aG (pv 2)))))))))),?_⟩
  try dsimp only[bG]
  unfold lL at q;refine mtv rfl X.ob (cA (by trivial)) ⟨_,rfl,o,t,c,st,N,d,rfl,hc,I,hN,hd,hdc,λRL H1 s1=>?_,λx hx C e H1 s1 hat=>?_⟩
  case refine_2 =>
   rw[hx]at q;exact q (bS c H) H1 C e (Step.cl aV s1) (X.cl s1).at hat.1 (λa z=>bT (hat.2 a z))
  refine aQ λGq gq=>?_
  rw[RL]at q;have aaJ:=V7 I hd RL;have X1:=X.same s1;have st1:Step (d8 i) c c H H1:=Step.same aV s1;have V9:=hdc.step st1;obtain⟨v,ht,hv0,hv1⟩:=w5 hd V9;obtain⟨m,em⟩:∃m,m=eQ d:=⟨_,rfl⟩;rw[<-em]at ht hv0 hv1 q;have lm:=I.lm;have lr:=I.lr;have ml:=X1.mot.len;have lp:=I.pil.JU;rw[ba]at lp;have el:(aZ ((aku 1 st.made.length).zip (ms.map V.ref))).length=st.made.length:=by
   unfold aZ;rw[ba,ak5,akN,ba,<-ml,Nat.min_self]
  have en:(((aZ ((aku 1 st.made.length).zip (ms.map V.ref))).length:Nat):Int)+1=((st.made.length+1:Nat):Int):=by rw[el];omega
  refine gq ?_;refine eW rfl X1.ob T.aq T.jq2 il ⟨aM,_,rfl,X1.made.2,_,_,rfl,rfl,?_⟩;dsimp only[dD];rw[en];refine⟨_,rfl,Pc ht hv0 hv1 λmo H2 s2 hmo=>?_⟩
  have X2:=X1.cl s2;have st2:Step (d8 i) c (bS c H1) H1 H2:=Step.cl aV s2;refine eW rfl X2.ob T.aq T.jq2 il ⟨_,rfl,aM,_,rfl,mx.k (k:=kf ((st.made.length+1:Nat):Int)) X2.made.2 (by omega),?_⟩
  obtain⟨st3,X3⟩:=X2.Rz hmo;have Wa:=st2.trans st3.gP;generalize upd H2 aM (.dK (putK (aZ ((aku 1 st.made.length).zip (ms.map V.ref))) (kf ((st.made.length+1:Nat):Int)) (.ref mo)))=H3 at Wa X3 ⊢;clear hmo st2 X2;generalize bS c H1=c3 at Wa X3;refine eW rfl X3.ob T.aq T.jq0 fB ⟨.inl ⟨rfl,_,SqL.of X3.au.2⟩,_,rfl,aP,_,_,rfl,rfl,X3.au.2,by rw[ba];show st.au.length < _;omega,?_⟩
  obtain⟨st4,X4⟩:=X3.push (st.made.length+1);have aaK:=Wa.trans st4.gP;have X4':ChX A i c3 (upd H3 aP (.lst (st.au.map nV++[V.int ((st.made.length+1:Nat):Int)]))) o { st with made:=st.made++[m],au:=st.au++[st.made.length+1] } dx aM aP aA aD aF aE aR (ms++[mo]) ds ws fs es:=X4
  have DM:Step (d8 i) c c3 H1 (upd H3 aP (.lst (st.au.map nV++[V.int ((st.made.length+1:Nat):Int)]))):=aaK;clear X4 aaK st4;generalize upd H3 aP (.lst (st.au.map nV++[V.int ((st.made.length+1:Nat):Int)]))=H4 at X4' DM ⊢;have nf:st.made.length+1∉st.uA:=λz=>by
   have:=(List.mem_filter.mp z).1;rw[ala]at this;omega
  have ht4:=ht.step DM
  by_cases h0:m.k=0
  ·obtain⟨L,tx,rfl,rfl,hL⟩:=hv0 h0;have hL4:=hL.step DM;refine ixv rfl (SqT.of ht4.2) rfl ⟨rfl,tst (BV 0 (by decide)) ?_⟩
   refine ixv rfl (SqT.of ht4.2) rfl ⟨L,_,rfl,.inl (SqL.of hL4.2),λp hp=>?_⟩
   have lf:st.firsts.length=fs.length:=X4'.first.len;have lff:st.firsts.length<=st.made.length:=by
    have:=congrArg akT I.ff;rw[ba]at this;rw[this];exact adm (alj _ _) (by rw[akN];exact kq _)
   have lkk:st.kept.length<=st.made.length:=by
    have:=congrArg akT I.kk;rw[ba]at this;rw[this];exact adm (alj _ _) (by rw[akN];exact kq _)
   have sp:=aB (o:=.lst (tx.map V.str)) hp;refine eW rfl (sp _ _ X4'.ob) T.aq T.jq3 lE ⟨_,rfl,aF,_,rfl,mx.k (k:=kf ((st.made.length+1:Nat):Int)) (sp _ _ X4'.firsts.2) ?_,?_⟩
   ·unfold aZ;rw[ba,ak5,ba];show min st.firsts.length _ < _;omega
   obtain⟨st5,X5⟩:=X4'.O6 (tx:=tx) hp (n:=st.made.length+1) (by show _∉st.firsts.map (·.1);rw[I.ff];exact nf)
   have X5':ChX A i (ay c3 p (some (i,.dA (st.made.length+1)))) (upd (upd H4 p (.lst (tx.map V.str))) aF (.dK (putK (aZ ((st.firsts.map (·.1)).zip fs)) (kf ((st.made.length+1:Nat):Int)) (.ref p)))) o { st with made:=st.made++[.mat tx],au:=st.au++[st.made.length+1],firsts:=st.firsts++[(st.made.length+1,tx)] } dx aM aP aA aD aF aE aR (ms++[mo]) ds ws (fs++[.ref p]) es:=X5
   have Wb:Step (d8 i) c (ay c3 p (some (i,.dA (st.made.length+1)))) H1 (upd (upd H4 p (.lst (tx.map V.str))) aF (.dK (putK (aZ ((st.firsts.map (·.1)).zip fs)) (kf ((st.made.length+1:Nat):Int)) (.ref p)))):=DM.trans st5.gP
   clear X5 st5;generalize ay c3 p (some (i,.dA (st.made.length+1)))=c5 at X5' Wb;generalize upd (upd H4 p (.lst (tx.map V.str))) aF (.dK (putK (aZ ((st.firsts.map (·.1)).zip fs)) (kf ((st.made.length+1:Nat):Int)) (.ref p)))=H5 at X5' Wb ⊢
   refine⟨(sl 0),λp2 hp2=>?_⟩
   have sp2:=aB (o:=.lst []) hp2;refine eW rfl (sp2 _ _ X5'.ob) T.aq T.jq6 mT ⟨_,rfl,aE,_,rfl,mx.k (k:=kf ((st.made.length+1:Nat):Int)) (sp2 _ _ X5'.jx.2) ?_,?_⟩
   ·unfold aZ;rw[ba,ak5,ba];show min st.kept.length _ < _;omega
   obtain⟨st6,X6⟩:=X5'.RA hp2 (n:=st.made.length+1) (by show _∉st.kept.map (·.1);rw[I.kk];exact nf)
   have aaL:=Wb.trans st6.gP;have Wc:=V9.step aaL;refine eW rfl X6.ob T.aq T.jqk wQ ⟨.inl ⟨rfl,_,SqL.of X6.rows.2⟩,_,rfl,t,d,rfl,Wc.at,aaJ,λH7 s7=>?_⟩
   have X7:=X6.same s7;obtain⟨st8,X8⟩:=X7.row (R.tD d);refine⟨aR,_,_,rfl,rfl,X7.rows.2,by rw[ba];show st.rows.length < _;omega,_,rfl,?_⟩
   exact q _ _ (((st1.trans aaL).trans (Step.same aV s7)).trans st8.gP) X8.at
  ·refine ixv rfl (SqT.of ht4.2) dS ⟨rfl,tsf ((BV m.k m.k8).trans (decide_eq_false h0)) ?_⟩;have Wc:=V9.step DM;refine eW rfl X4'.ob T.aq T.jqk wQ ⟨.inl ⟨rfl,_,SqL.of X4'.rows.2⟩,_,rfl,t,d,rfl,Wc.at,aaJ,λH7 s7=>?_⟩
   have X7:=X4'.same s7;obtain⟨st8,X8⟩:=X7.row (R.tD d);refine⟨aR,_,_,rfl,rfl,X7.rows.2,by rw[ba];show st.rows.length < _;omega,_,rfl,?_⟩
   have e8:st.moved m (R.tD d)={ st with made:=st.made++[m],au:=st.au++[st.made.length+1],rows:=st.rows++[R.tD d] }:=by
    unfold Ch.moved;cases m with
    |mat tx=>exact absurd rfl h0
    |_=>rfl
   rw[e8]at q;exact q _ _ (((st1.trans DM).trans (Step.same aV s7)).trans st8.gP) X8.at
end
def LW (n:Int):Ch:=⟨n,1,false,[],[],[],[],[],[],[]⟩
def aaM (A:Adr):Sp:=λvs H Q _=>∃(o dx:Addr) (n:Int),vs=[.ref o,.int n]/\H o=some (.ins A.ax dx []) /\
 ∀H',(∀(i:Nat) (c:Col),∃c',(∀a v,H a=some v->a≠o->H' a=some v/\c' a=c a)/\eP A i c' H' o (LW n))->Q .non H'
theorem ip {f:Str}{v:V}:∀ {fs:List (Str×V)},f∉fs.map (·.1)->gx f v fs=fs++[(f,v)]
 |[],_=>rfl
 | (g,x)::r,h=>by
  rw[gx,if_neg (λz=>h (by rw[<-z];exact fe)),ip λz=>h (ky _ z)]
  rfl
theorem nxt {H:Hp}{o a C dx:Addr}{fs fs':List (Str×V)}{v:HO}(ho:H o=some (.ins C dx fs))(ha:H a=none) :
  (upd (upd H a v) o (.ins C dx fs')) a=some v/\(upd (upd H a v) o (.ins C dx fs')) o=some (.ins C dx fs')/\a≠o/\∀b u,H b=some u->b≠o->(upd (upd H a v) o (.ins C dx fs')) b=some u/\b≠a:=by
 have na:a≠o:=(aI ho ha).symm;refine⟨(aw na).trans ae,ae,na,λb u hb hbo=>?_⟩
 have nb:b≠a:=aI hb ha;exact⟨(aw hbo).trans ((aw nb).trans hb),nb⟩
section
variable{P:sr}{w:World}{K:bo}{mg:Str->Option Value}{base:Heap}{A:Adr}
theorem We (T:Txt w.params K mg A):a7 P w K mg base CX0 2 A.cO A.lq ["self","seats"] (aaM A):=by
 refine T.gG.ok zm (λvs H Q E h=>?_) (λcdv A' outer s H vs Q E hr h=>?_)
 ·obtain⟨o,dx,n,rfl,_⟩:=h;rfl
 ·obtain⟨o,dx,n,rfl,ho,q⟩:=h;refine⟨_,(ai (eU (pv 0) (pv 1) rfl)
 (ai (eU (pv 0) ah rfl)
 (ai (eU (pv 0) kK rfl)
 (ai (eU (pv 0) kO rfl)
 (ai (eU (pv 0) (bQ af) rfl)
 (ai (eU (pv 0) kO rfl)
 (ai (eU (pv 0) (bQ af) rfl)
 (ai (eU (pv 0) kO rfl)
 (ai (eU (pv 0) kO rfl)
 (aj (eU (pv 0) (bQ af) rfl))))))))))),?_⟩
  try dsimp only[bG]
  refine⟨_,rfl,_,rfl,o,A.ax,dx,_,rfl,ho,T.aq,T.jqr,(by show 0 < 1000;decide),?_⟩
  refine⟨_,rfl,o,A.ax,dx,_,rfl,ae,T.aq,T.jq1,(by show 1 < 1000;decide),?_⟩
  rw[nO];refine⟨_,rfl,o,A.ax,dx,_,rfl,ae,T.aq,T.jq5,(by show 2 < 1000;decide),?_⟩
  rw[nO];have e0:gx (ar "closed") (V.bl false) (gx (ar "sitting") (V.int 1) (gx (ar "seats") (V.int n) []))=[(ar "seats",V.int n),(ar "sitting",V.int 1),(ar "closed",V.bl false)]:=by
   have f1:gx (ar "seats") (V.int n) []=[(ar "seats",V.int n)]:=rfl;have f2:gx (ar "sitting") (V.int 1) [(ar "seats",V.int n)]=[(ar "seats",V.int n),(ar "sitting",V.int 1)]:=ip (by show _∉[ar "seats"];trivial)
   rw[f1,f2];exact ip (by show _∉[ar "seats",ar "sitting"];trivial)
  rw[e0];have o0:(upd H o (.ins A.ax dx [(ar "seats",V.int n),(ar "sitting",V.int 1),(ar "closed",V.bl false)])) o=some (.ins A.ax dx [(ar "seats",V.int n),(ar "sitting",V.int 1),(ar "closed",V.bl false)]):=ae;have k0:∀b u,H b=some u->b≠o->(upd H o (.ins A.ax dx [(ar "seats",V.int n),(ar "sitting",V.int 1),(ar "closed",V.bl false)])) b=some u:=λb u hb hbo=>(aw hbo).trans hb
  generalize upd H o (.ins A.ax dx [(ar "seats",V.int n),(ar "sitting",V.int 1),(ar "closed",V.bl false)])=H0 at o0 k0 ⊢;refineλaM zaM=>?_
  have naM:o≠aM:=aI o0 zaM;refine⟨_,rfl,o,A.ax,dx,_,rfl,(aw naM).trans o0,T.aq,T.jq2,(by show 3 < 1000;decide),?_⟩
  have e1:gx (ar "made") (V.ref aM) [(ar "seats",V.int n),(ar "sitting",V.int 1),(ar "closed",V.bl false)]=[(ar "seats",V.int n),(ar "sitting",V.int 1),(ar "closed",V.bl false),(ar "made",V.ref aM)]:=ip (by show _∉[ar "seats",ar "sitting",ar "closed"];trivial)
  rw[e1];refine aQ λGq gq=>?_
  obtain⟨yaM,o1,_,waM⟩:=nxt (v:=.dK []) (fs':=[(ar "seats",V.int n),(ar "sitting",V.int 1),(ar "closed",V.bl false),(ar "made",V.ref aM)]) o0 zaM;have k1:=λb u (hb:H b=some u) (hbo:b≠o)=>waM b u (k0 b u hb hbo) hbo
  refine gq ?_;generalize upd (upd H0 aM (.dK [])) o (.ins A.ax dx [(ar "seats",V.int n),(ar "sitting",V.int 1),(ar "closed",V.bl false),(ar "made",V.ref aM)])=H1 at o1 k1 waM yaM ⊢;clear waM;refine⟨(sl 0),λaP zaP=>?_⟩
  have naP:o≠aP:=aI o1 zaP;refine⟨_,rfl,o,A.ax,dx,_,rfl,(aw naP).trans o1,T.aq,T.jq0,(by show 4 < 1000;decide),?_⟩
  have e2:gx (ar "pile") (V.ref aP) [(ar "seats",V.int n),(ar "sitting",V.int 1),(ar "closed",V.bl false),(ar "made",V.ref aM)]=[(ar "seats",V.int n),(ar "sitting",V.int 1),(ar "closed",V.bl false),(ar "made",V.ref aM),(ar "pile",V.ref aP)]:=ip (by show _∉[ar "seats",ar "sitting",ar "closed",ar "made"];trivial)
  rw[e2];refine aQ λGq gq=>?_
  obtain⟨yaP,o2,_,waP⟩:=nxt (v:=.lst []) (fs':=[(ar "seats",V.int n),(ar "sitting",V.int 1),(ar "closed",V.bl false),(ar "made",V.ref aM),(ar "pile",V.ref aP)]) o1 zaP;obtain⟨yaM,aaN⟩:=waP _ _ yaM (akp naM);have k2:=λb u (hb:H b=some u) (hbo:b≠o)=>waP b u ((k1 b u hb hbo).1) hbo
  refine gq ?_;generalize upd (upd H1 aP (.lst [])) o (.ins A.ax dx [(ar "seats",V.int n),(ar "sitting",V.int 1),(ar "closed",V.bl false),(ar "made",V.ref aM),(ar "pile",V.ref aP)])=H2 at o2 k2 waP yaM yaP ⊢;clear waP;refineλaA zaA=>?_
  have naA:o≠aA:=aI o2 zaA;refine⟨_,rfl,o,A.ax,dx,_,rfl,(aw naA).trans o2,T.aq,T.jq4,(by show 5 < 1000;decide),?_⟩
  have e3:gx (ar "aside") (V.ref aA) [(ar "seats",V.int n),(ar "sitting",V.int 1),(ar "closed",V.bl false),(ar "made",V.ref aM),(ar "pile",V.ref aP)]=[(ar "seats",V.int n),(ar "sitting",V.int 1),(ar "closed",V.bl false),(ar "made",V.ref aM),(ar "pile",V.ref aP),(ar "aside",V.ref aA)]:=ip (by show _∉[ar "seats",ar "sitting",ar "closed",ar "made",ar "pile"];trivial)
  rw[e3];refine aQ λGq gq=>?_
  obtain⟨yaA,o3,_,waA⟩:=nxt (v:=.dK []) (fs':=[(ar "seats",V.int n),(ar "sitting",V.int 1),(ar "closed",V.bl false),(ar "made",V.ref aM),(ar "pile",V.ref aP),(ar "aside",V.ref aA)]) o2 zaA;obtain⟨yaM,aaO⟩:=waA _ _ yaM (akp naM);obtain⟨yaP,aaP⟩:=waA _ _ yaP (akp naP);have k3:=λb u (hb:H b=some u) (hbo:b≠o)=>waA b u ((k2 b u hb hbo).1) hbo
  refine gq ?_;generalize upd (upd H2 aA (.dK [])) o (.ins A.ax dx [(ar "seats",V.int n),(ar "sitting",V.int 1),(ar "closed",V.bl false),(ar "made",V.ref aM),(ar "pile",V.ref aP),(ar "aside",V.ref aA)])=H3 at o3 k3 waA yaM yaP yaA ⊢;clear waA;refine⟨(sl 0),λaD zaD=>?_⟩
  have naD:o≠aD:=aI o3 zaD;refine⟨_,rfl,o,A.ax,dx,_,rfl,(aw naD).trans o3,T.aq,T.jqj,(by show 6 < 1000;decide),?_⟩
  have e4:gx (ar "decided") (V.ref aD) [(ar "seats",V.int n),(ar "sitting",V.int 1),(ar "closed",V.bl false),(ar "made",V.ref aM),(ar "pile",V.ref aP),(ar "aside",V.ref aA)]=[(ar "seats",V.int n),(ar "sitting",V.int 1),(ar "closed",V.bl false),(ar "made",V.ref aM),(ar "pile",V.ref aP),(ar "aside",V.ref aA),(ar "decided",V.ref aD)]:=ip (by show _∉[ar "seats",ar "sitting",ar "closed",ar "made",ar "pile",ar "aside"];trivial)
  rw[e4];refine aQ λGq gq=>?_
  obtain⟨yaD,o4,_,waD⟩:=nxt (v:=.lst []) (fs':=[(ar "seats",V.int n),(ar "sitting",V.int 1),(ar "closed",V.bl false),(ar "made",V.ref aM),(ar "pile",V.ref aP),(ar "aside",V.ref aA),(ar "decided",V.ref aD)]) o3 zaD;obtain⟨yaM,aaQ⟩:=waD _ _ yaM (akp naM);obtain⟨yaP,aaR⟩:=waD _ _ yaP (akp naP);obtain⟨yaA,aaS⟩:=waD _ _ yaA (akp naA);have k4:=λb u (hb:H b=some u) (hbo:b≠o)=>waD b u ((k3 b u hb hbo).1) hbo
  refine gq ?_;generalize upd (upd H3 aD (.lst [])) o (.ins A.ax dx [(ar "seats",V.int n),(ar "sitting",V.int 1),(ar "closed",V.bl false),(ar "made",V.ref aM),(ar "pile",V.ref aP),(ar "aside",V.ref aA),(ar "decided",V.ref aD)])=H4 at o4 k4 waD yaM yaP yaA yaD ⊢;clear waD;refineλaF zaF=>?_
  have naF:o≠aF:=aI o4 zaF;refine⟨_,rfl,o,A.ax,dx,_,rfl,(aw naF).trans o4,T.aq,T.jq3,(by show 7 < 1000;decide),?_⟩
  have e5:gx (ar "first_texts") (V.ref aF) [(ar "seats",V.int n),(ar "sitting",V.int 1),(ar "closed",V.bl false),(ar "made",V.ref aM),(ar "pile",V.ref aP),(ar "aside",V.ref aA),(ar "decided",V.ref aD)]=[(ar "seats",V.int n),(ar "sitting",V.int 1),(ar "closed",V.bl false),(ar "made",V.ref aM),(ar "pile",V.ref aP),(ar "aside",V.ref aA),(ar "decided",V.ref aD),(ar "first_texts",V.ref aF)]:=ip (by show _∉[ar "seats",ar "sitting",ar "closed",ar "made",ar "pile",ar "aside",ar "decided"];trivial)
  rw[e5];refine aQ λGq gq=>?_
  obtain⟨yaF,o5,_,waF⟩:=nxt (v:=.dK []) (fs':=[(ar "seats",V.int n),(ar "sitting",V.int 1),(ar "closed",V.bl false),(ar "made",V.ref aM),(ar "pile",V.ref aP),(ar "aside",V.ref aA),(ar "decided",V.ref aD),(ar "first_texts",V.ref aF)]) o4 zaF;obtain⟨yaM,aaT⟩:=waF _ _ yaM (akp naM);obtain⟨yaP,aaU⟩:=waF _ _ yaP (akp naP);obtain⟨yaA,aaV⟩:=waF _ _ yaA (akp naA);obtain⟨yaD,aaW⟩:=waF _ _ yaD (akp naD);have k5:=λb u (hb:H b=some u) (hbo:b≠o)=>waF b u ((k4 b u hb hbo).1) hbo
  refine gq ?_;generalize upd (upd H4 aF (.dK [])) o (.ins A.ax dx [(ar "seats",V.int n),(ar "sitting",V.int 1),(ar "closed",V.bl false),(ar "made",V.ref aM),(ar "pile",V.ref aP),(ar "aside",V.ref aA),(ar "decided",V.ref aD),(ar "first_texts",V.ref aF)])=H5 at o5 k5 waF yaM yaP yaA yaD yaF ⊢;clear waF;refineλaE zaE=>?_
  have naE:o≠aE:=aI o5 zaE;refine⟨_,rfl,o,A.ax,dx,_,rfl,(aw naE).trans o5,T.aq,T.jq6,(by show 8 < 1000;decide),?_⟩
  have e6:gx (ar "edits_kept") (V.ref aE) [(ar "seats",V.int n),(ar "sitting",V.int 1),(ar "closed",V.bl false),(ar "made",V.ref aM),(ar "pile",V.ref aP),(ar "aside",V.ref aA),(ar "decided",V.ref aD),(ar "first_texts",V.ref aF)]=[(ar "seats",V.int n),(ar "sitting",V.int 1),(ar "closed",V.bl false),(ar "made",V.ref aM),(ar "pile",V.ref aP),(ar "aside",V.ref aA),(ar "decided",V.ref aD),(ar "first_texts",V.ref aF),(ar "edits_kept",V.ref aE)]:=ip (by show _∉[ar "seats",ar "sitting",ar "closed",ar "made",ar "pile",ar "aside",ar "decided",ar "first_texts"];trivial)
  rw[e6];refine aQ λGq gq=>?_
  obtain⟨yaE,o6,_,waE⟩:=nxt (v:=.dK []) (fs':=[(ar "seats",V.int n),(ar "sitting",V.int 1),(ar "closed",V.bl false),(ar "made",V.ref aM),(ar "pile",V.ref aP),(ar "aside",V.ref aA),(ar "decided",V.ref aD),(ar "first_texts",V.ref aF),(ar "edits_kept",V.ref aE)]) o5 zaE;obtain⟨yaM,aaX⟩:=waE _ _ yaM (akp naM);obtain⟨yaP,aaY⟩:=waE _ _ yaP (akp naP);obtain⟨yaA,aaZ⟩:=waE _ _ yaA (akp naA);obtain⟨yaD,aa0⟩:=waE _ _ yaD (akp naD);obtain⟨yaF,aa1⟩:=waE _ _ yaF (akp naF);have k6:=λb u (hb:H b=some u) (hbo:b≠o)=>waE b u ((k5 b u hb hbo).1) hbo
  refine gq ?_;generalize upd (upd H5 aE (.dK [])) o (.ins A.ax dx [(ar "seats",V.int n),(ar "sitting",V.int 1),(ar "closed",V.bl false),(ar "made",V.ref aM),(ar "pile",V.ref aP),(ar "aside",V.ref aA),(ar "decided",V.ref aD),(ar "first_texts",V.ref aF),(ar "edits_kept",V.ref aE)])=H6 at o6 k6 waE yaM yaP yaA yaD yaF yaE ⊢;clear waE;refine⟨(sl 0),λaR zaR=>?_⟩
  have naR:o≠aR:=aI o6 zaR;refine⟨_,rfl,o,A.ax,dx,_,rfl,(aw naR).trans o6,T.aq,T.jqk,(by show 9 < 1000;decide),?_⟩
  have e7:gx (ar "rows") (V.ref aR) [(ar "seats",V.int n),(ar "sitting",V.int 1),(ar "closed",V.bl false),(ar "made",V.ref aM),(ar "pile",V.ref aP),(ar "aside",V.ref aA),(ar "decided",V.ref aD),(ar "first_texts",V.ref aF),(ar "edits_kept",V.ref aE)]=[(ar "seats",V.int n),(ar "sitting",V.int 1),(ar "closed",V.bl false),(ar "made",V.ref aM),(ar "pile",V.ref aP),(ar "aside",V.ref aA),(ar "decided",V.ref aD),(ar "first_texts",V.ref aF),(ar "edits_kept",V.ref aE),(ar "rows",V.ref aR)]:=ip (by show _∉[ar "seats",ar "sitting",ar "closed",ar "made",ar "pile",ar "aside",ar "decided",ar "first_texts",ar "edits_kept"];trivial)
  rw[e7];refine aQ λGq gq=>?_
  obtain⟨yaR,o7,_,waR⟩:=nxt (v:=.lst []) (fs':=[(ar "seats",V.int n),(ar "sitting",V.int 1),(ar "closed",V.bl false),(ar "made",V.ref aM),(ar "pile",V.ref aP),(ar "aside",V.ref aA),(ar "decided",V.ref aD),(ar "first_texts",V.ref aF),(ar "edits_kept",V.ref aE),(ar "rows",V.ref aR)]) o6 zaR;obtain⟨yaM,aa2⟩:=waR _ _ yaM (akp naM);obtain⟨yaP,aa3⟩:=waR _ _ yaP (akp naP);obtain⟨yaA,aa4⟩:=waR _ _ yaA (akp naA);obtain⟨yaD,aa5⟩:=waR _ _ yaD (akp naD);obtain⟨yaF,aa6⟩:=waR _ _ yaF (akp naF);obtain⟨yaE,aa7⟩:=waR _ _ yaE (akp naE);have k7:=λb u (hb:H b=some u) (hbo:b≠o)=>waR b u ((k6 b u hb hbo).1) hbo
  refine gq ?_;generalize upd (upd H6 aR (.lst [])) o (.ins A.ax dx [(ar "seats",V.int n),(ar "sitting",V.int 1),(ar "closed",V.bl false),(ar "made",V.ref aM),(ar "pile",V.ref aP),(ar "aside",V.ref aA),(ar "decided",V.ref aD),(ar "first_texts",V.ref aF),(ar "edits_kept",V.ref aE),(ar "rows",V.ref aR)])=H7 at o7 k7 waR yaM yaP yaA yaD yaF yaE yaR ⊢;clear waR;refine q H7 λi c=>⟨ay (ay (ay (ay (ay (ay (ay (ay c o (some (i,Rl.ob))) aM (some (i,Rl.made))) aP (some (i,Rl.au))) aA (some (i,Rl.aH))) aD (some (i,Rl.decided))) aF (some (i,Rl.firsts))) aE (some (i,Rl.kept))) aR (some (i,Rl.rows)),λb u hb hbo=>⟨(k7 b u hb hbo).1,?_⟩,⟨dx,aM,aP,aA,aD,aF,aE,aR,[],[],[],[],[],?_⟩⟩
  ·rw[av (k7 b u hb hbo).2,av (k6 b u hb hbo).2,av (k5 b u hb hbo).2,av (k4 b u hb hbo).2,av (k3 b u hb hbo).2,av (k2 b u hb hbo).2,av (k1 b u hb hbo).2,av hbo]
  ·exact⟨by rw[av naR,av naE,av naF,av naD,av naA,av naP,av naM,aW],o7,⟨by rw[av aa2,av aaX,av aaT,av aaQ,av aaO,av aaN,aW],yaM⟩,.nil,⟨by rw[av aa3,av aaY,av aaU,av aaR,av aaP,aW],yaP⟩,⟨by rw[av aa4,av aaZ,av aaV,av aaS,aW],yaA⟩,.nil,⟨by rw[av aa5,av aa0,av aaW,aW],yaD⟩,.nil,⟨by rw[av aa6,av aa1,aW],yaF⟩,.nil,⟨by rw[av aa7,aW],yaE⟩,.nil,⟨by rw[aW],yaR⟩⟩
end
def ahO (A:Adr)(i:Nat):Sp:=λvs H Q _=>∃(o:Addr) (n:Nat) (c:Col) (st:Ch) (x:Nat×Int×List Nat),vs=[.ref o,nV n]/\eP A i c H o st/\at1 n st.aH=some x /\
 ∀l u H',H l=none->H u=none->bu H H'->H' l=some (.lst (x.2.2.map nV))->H' u=some (.tup [nV n,.int x.2.1,.ref l])->Q (.ref u) H'
def hJ (ns:List Nat):PyData:=.list (ns.map λn:Nat=>.int (n:Int))
def RM (st:Ch)(n:Int):Nat×Int×List Nat:=(at1 n.toNat st.aH).getD (0,0,[])
def mnD:Mn->PyData
 | .mat tx=>.tuple [.str (nm 0),.list (tx.map akS)]
 | .chg e=>.tuple [.str (nm 1),edD e]
 | .mnd e=>.tuple [.str (nm 2),edD e]
 | .off u=>.tuple [.str (nm 3),.int u]
 | .cls=>.tuple [.str (nm 4)]
 | .lay=>.tuple [.str (nm 5)]
 | .rst=>.tuple [.str (nm 6)]
 | .pnt z=>.tuple [.str (nm 7),.str z]
theorem LX {α:Type}{K:bo}{H:Hp}{f:α->PyData}{g:α->V}:∀ {xs:List α},(∀x∈xs,DV K H (f x) (g x))->DVs K H (xs.map f) (xs.map g)
 |[],_=>by unfold DVs;rfl
 |x::xs,h=>by
  rw[km,km];unfold DVs;exact⟨g x,xs.map g,rfl,h x fe,LX λy hy=>h y (ky _ hy)⟩
theorem kG {K:bo}{H:Hp}{a:Addr}{ns:List Nat}(h:SqL K H a (ns.map nV)):DV K H (hJ ns) (.ref a):=by
 unfold hJ DV;exact⟨a,_,rfl,h,LX (f:=λn:Nat=>PyData.int (n:Int)) (g:=nV) λn _=>by unfold DV;rfl⟩
theorem bD.dvs {α:Type}{K:bo}{H:Hp}{f:α->PyData}{R:α->V->Prop}(g:∀x v,R x v->DV K H (f x) v):∀ {xs:List α} {vs:List V},bD R xs vs->DVs K H (xs.map f) vs
 |_,_,.nil=>by unfold DVs;rfl
 |_,_,.cons h t=>by
  rw[km];unfold DVs;exact⟨_,_,rfl,g _ _ h,t.dvs g⟩
theorem bD.mapR {α β γ:Type}{R:α->γ->Prop}{f:β->γ}:∀ {xs:List α} {ys:List β},bD (λa b=>R a (f b)) xs ys->bD R xs (ys.map f)
 |_,_,.nil=>.nil
 |_,_,.cons h t=>.cons h t.mapR
def MA (H:Hp)(R:Addr)(x:Nat×Int×List Nat)(v:V):Prop:=∃u l,v=.ref u/\u≠R/\l≠R/\H u=some (.tup [nV x.1,.int x.2.1,.ref l])/\H l=some (.lst (x.2.2.map nV))
theorem MA.same {H H':Hp}{R:Addr}{x:Nat×Int×List Nat}{v:V}(s:bu H H'):MA H R x v->MA H' R x v
 |⟨u,l,e,h1,h2,h3,h4⟩=>⟨u,l,e,h1,h2,s _ _ h3,s _ _ h4⟩
theorem MA.upd {H:Hp}{R:Addr}{o:HO}{x:Nat×Int×List Nat}{v:V}:MA H R x v->MA (L2.upd H R o) R x v
 |⟨u,l,e,h1,h2,h3,h4⟩=>⟨u,l,e,h1,h2,(aw h1).trans h3,(aw h2).trans h4⟩
section
variable{P:sr}{w:World}{K:bo}{mg:Str->Option Value}{base:Heap}{A:Adr}
theorem CK (T:Txt w.params K mg A){i:Nat}:a7 P w K mg base CX0 1 A.bI A.gk ["self","number"] (ahO A i):=by
 refine T.dG.ok jw (λvs H Q E h=>?_) (λcdv A' outer s H vs Q E hr h=>?_)
 ·obtain⟨o,n,c,st,x,rfl,_⟩:=h;rfl
 ·obtain⟨o,n,c,st,x,rfl,hc,hx,q⟩:=h;obtain⟨dx,aM,aP,aA,aD,aF,aE,aR,ms,ds,ws,fs,es,X⟩:=hc.ex;have hu1:=hr.u1;refine⟨_,(ai (a4 (i:=2) jw.nd rfl (wt rfl) (a8 hu1 (bh (pv 0) rfl) (pv 1) (λ_ _=>rfl)))
 (aj (aG (bp (aa (pv 1) (aa (aS aU (pv 2) ah (λ_ _=>rfl)) (aa (cE cB (by rfl) T.i9 gU (aa (aS aU (pv 2) ah (λ_ _=>rfl)) af)) af))))))),?_⟩
  try dsimp only[bG]
  refine aQ λGq gq=>?_
  obtain⟨t,p,hv,ht,hl⟩:=X.waitOf hx;refine gq ?_;refine⟨_,rfl,o,A.ax,dx,_,.ref aA,rfl,X.ob,T.aq,T.jq4,jT,_,rfl,aA,_,rfl,.inl ⟨_,kf (n:Int),.inl X.aH.2,rfl,hv.symm⟩,?_⟩;refine⟨_,rfl,_,rfl,t,_,_,_,rfl,rfl,ht.sq,rfl,_,rfl,t,_,_,_,rfl,rfl,ht.sq,rfl,p,_,rfl,.inl (SqL.of hl.2),λl hl0=>⟨(sl 3),λu hu=>?_⟩⟩
  have nul:u≠l:=λz=>by rw[z,ae]at hu;cases hu
  have hu0:H u=none:=by rw[aw nul]at hu;exact hu
  exact q l u _ hl0 hu0 ((aB hl0).new hu) ((aw (akp nul)).trans ae) ae
end
def fF (st:Ch):R.d7->Rs×Ch
 | .nums kd ns=>if kd=ar "vote" then kY st (ns.getD 0 0) (ns.getD 1 0) else if kd=ar "drop" then n8 st else if kd=ar "take" then stepT st (ns.getD 0 0).toNat else lL st (eQ (.nums kd ns)) (R.tD (.nums kd ns))
 |d=>lL st (eQ d) (R.tD d)
inductive uB:R.d7->Prop
 |Fh {a b:Int}:(0<=a/\a < 10 ^ 10)->(0<=b/\b < 10 ^ 10)->uB (.nums (ar "vote") [a,b])
 |drop:uB (.nums (ar "drop") [])
 |take {z:Int}:-1<=z->z < 10 ^ 10->uB (.nums (ar "take") [z])
 |move {d:R.d7}:CJ d->uB d
theorem jW {st:Ch}{a b:Int}:fF st (.nums (ar "vote") [a,b])=kY st a b:=by rw[fF,if_pos rfl];rfl
theorem jX {st:Ch}:fF st (.nums (ar "drop") [])=n8 st:=by rw[fF,if_neg (by trivial),if_pos rfl]
theorem jY {st:Ch}{z:Int}:fF st (.nums (ar "take") [z])=stepT st z.toNat:=by
 rw[fF,if_neg (by trivial),if_neg (by trivial),if_pos rfl]
 rfl
theorem jZ {st:Ch}{d:R.d7}(h:CJ d):fF st d=lL st (eQ d) (R.tD d):=by
 cases d with
 |nums kd ns =>
  rcases qU h.1 with ⟨u,rfl,rfl⟩ | ⟨rfl,rfl⟩ | ⟨rfl,rfl⟩ | ⟨rfl,rfl⟩ <;> rw[fF,if_neg (by trivial),if_neg (by trivial),if_neg (by trivial)]
 |_=>rfl
theorem Inv.fF {N:Nat}{st:Ch}(I:Inv N st)(hN:N<=800){d:R.d7}(h:uB d):Inv (N+3) (fF st d).2:=by
 cases h with
 |Fh=>rw[jW];exact I.kY hN _ _
 |drop=>rw[jX];exact I.n8
 |take=>rw[jY];exact I.stepT _
 |move h=>rw[jZ h];exact I.lL (Fg h) _
def aa8:Xc->Prop
 | .tH b=>-10000000000 < b/\b < 10000000000
 | .mW b=>-10000000000 < b/\b < 10000000000
 | .BQ b=>-10000000000 < b/\b < 10000000000
 |_=>True
def ahP:Rs->Prop
 | .txt z=>ako z=true
 | .exc x=>aa8 x
 |_=>True
theorem RN {N:Nat}{st:Ch}(I:Inv N st)(hN:N<=800){m:Mn}{x:Xc}(h:js st m=some x):aa8 x:=by
 have hb:=BS st.closed (st.au.map st.mo);have hs:=I.sit;unfold js at h;split at h
 ·rename_i y hy;cases h;unfold uy at hy;split at hy
  ·cases hy;exact⟨by omega,by omega⟩
  ·split at hy
   ·cases hy
   ·split at hy <;> cases hy <;> trivial
 ·unfold kZ at h;split at h
  ·split at h
   ·split at h
    ·cases h
    ·cases h;trivial
   ·cases h
  ·split at h
   ·split at h
    ·cases h
    ·cases h;trivial
   ·cases h
  ·split at h
   ·cases h;exact⟨by omega,by omega⟩
   ·cases h
  ·cases h
theorem Pd {N:Nat}{st:Ch}(I:Inv N st)(hN:N<=800){d:R.d7}(h:uB d):ahP (fF st d).1:=by
 cases h with
 |Fh =>
  rw[jW];unfold kY;split
  ·trivial
  ·split
   ·trivial
   ·show ako (jq _)=true;unfold jq;split <;> trivial
 |drop =>
  rw[jX];unfold n8;split
  ·trivial
  ·show ako kX=true
   trivial
 |take =>
  rw[jY];unfold stepT;split
  ·split
   ·trivial
   ·rename_i x hx;split
    ·exact(I.asd x (dC hx).2).2.2
    ·trivial
  ·have hb:=BS st.closed (st.au.map st.mo);exact⟨by omega,by omega⟩
 |move h =>
  rw[jZ h];unfold lL;split
  ·rename_i x hx;exact RN I hN hx
  ·trivial
theorem dc {W:Option (Nat×Rl)->Prop}{c c':Col}{H H':Hp}(s:Step W c c' H H'){a:Addr}{v:HO}(h:c a=none)(hv:H a=some v):c' a=none/\H' a=some v:=by
 have hn:¬W (c a):=by rw[h];exact s.nn
 exact⟨by rw[s.col a _ hv hn];exact h,s.keep _ _ hv hn⟩
def mdF (v0 v1 v2 v3 v4 v5:V):List (Key×V):=[(tu (ar "sitting"),v0),(tu (ar "closed"),v1),(tu (ar "pile"),v2),(tu (ar "aside"),v3),(tu (ar "decided"),v4),(tu (ar "motions"),v5)]
theorem key_ne {a b:Str}(h:a≠b){v:V}:¬((tu a,v):Key×V).1=(tu b:Key):=λz=>h (Sum.inr.inj z)
theorem B1 {kvs:List (Key×V)}{k:Key}{v y:V}(h:gW kvs k=some v):putK kvs k y=kvs.map (λkv=>if kv.1=k then (kv.1,y) else kv):=by
 unfold putK;rw[sE,h];exact if_pos rfl
section
variable{v0 v1 v2 v3 v4 v5 y:V}
theorem oa:gW (mdF v0 v1 v2 v3 v4 v5) (tu (ar "sitting"))=some v0:=eV rfl
theorem B2:gW (mdF v0 v1 v2 v3 v4 v5) (tu (ar "closed"))=some v1:=(bV (key_ne (by trivial))).trans (eV rfl)
theorem tN:gW (mdF v0 v1 v2 v3 v4 v5) (tu (ar "pile"))=some v2:=(bV (key_ne (by trivial))).trans ((bV (key_ne (by trivial))).trans (eV rfl))
theorem yu:gW (mdF v0 v1 v2 v3 v4 v5) (tu (ar "aside"))=some v3:=(bV (key_ne (by trivial))).trans ((bV (key_ne (by trivial))).trans ((bV (key_ne (by trivial))).trans (eV rfl)))
theorem zb:gW (mdF v0 v1 v2 v3 v4 v5) (tu (ar "decided"))=some v4:=(bV (key_ne (by trivial))).trans ((bV (key_ne (by trivial))).trans ((bV (key_ne (by trivial))).trans ((bV (key_ne (by trivial))).trans (eV rfl))))
theorem zc:gW (mdF v0 v1 v2 v3 v4 v5) (tu (ar "motions"))=some v5:=(bV (key_ne (by trivial))).trans ((bV (key_ne (by trivial))).trans ((bV (key_ne (by trivial))).trans ((bV (key_ne (by trivial))).trans ((bV (key_ne (by trivial))).trans (eV rfl)))))
theorem Gr:putK (mdF v0 v1 v2 v3 v4 v5) (tu (ar "sitting")) y=mdF y v1 v2 v3 v4 v5:=by
 rw[B1 oa];unfold mdF;simp only[km,akD,if_neg (show ¬(tu (ar "closed"):Key)=tu (ar "sitting") by trivial),if_neg (show ¬(tu (ar "pile"):Key)=tu (ar "sitting") by trivial),if_neg (show ¬(tu (ar "aside"):Key)=tu (ar "sitting") by trivial),if_neg (show ¬(tu (ar "decided"):Key)=tu (ar "sitting") by trivial),if_neg (show ¬(tu (ar "motions"):Key)=tu (ar "sitting") by trivial),if_true]
theorem B3:putK (mdF v0 v1 v2 v3 v4 v5) (tu (ar "closed")) y=mdF v0 y v2 v3 v4 v5:=by
 rw[B1 B2];unfold mdF;simp only[km,akD,if_neg (show ¬(tu (ar "sitting"):Key)=tu (ar "closed") by trivial),if_neg (show ¬(tu (ar "pile"):Key)=tu (ar "closed") by trivial),if_neg (show ¬(tu (ar "aside"):Key)=tu (ar "closed") by trivial),if_neg (show ¬(tu (ar "decided"):Key)=tu (ar "closed") by trivial),if_neg (show ¬(tu (ar "motions"):Key)=tu (ar "closed") by trivial),if_true]
theorem B4:putK (mdF v0 v1 v2 v3 v4 v5) (tu (ar "pile")) y=mdF v0 v1 y v3 v4 v5:=by
 rw[B1 tN];unfold mdF;simp only[km,akD,if_neg (show ¬(tu (ar "sitting"):Key)=tu (ar "pile") by trivial),if_neg (show ¬(tu (ar "closed"):Key)=tu (ar "pile") by trivial),if_neg (show ¬(tu (ar "aside"):Key)=tu (ar "pile") by trivial),if_neg (show ¬(tu (ar "decided"):Key)=tu (ar "pile") by trivial),if_neg (show ¬(tu (ar "motions"):Key)=tu (ar "pile") by trivial),if_true]
end
def MnT (c:Col)(H:Hp)(m:Mn)(t:Addr):Prop:=c t=none/\∃v,H t=some (.tup (rowOf m.k v))/\m.Val c H v
theorem MnT.step {W:Option (Nat×Rl)->Prop}{c c':Col}{H H':Hp}{m:Mn}{t:Addr}(s:Step W c c' H H')(h:MnT c H m t):MnT c' H' m t:=by
 obtain⟨n,v,h,hv⟩:=h;have hn:¬W (c t):=by rw[n];exact s.nn
 exact⟨by rw[s.col t _ h hn];exact n,v,s.keep _ _ h hn,hv.step s⟩
def gv (st:Ch)(n:Nat):List Ed:=((at1 n st.kept).map (·.2)).getD []
def B5 (st:Ch)(n:Nat):Option (List Str):=(at1 n st.firsts).map (·.2)
abbrev Ent:=Nat×Mn×List Ed×Option (List Str)
def hU (st:Ch)(n:Nat):Ent:=(n,st.mo n,gv st n,B5 st n)
def iC (st:Ch):List Ent:=(aku 1 st.made.length).map (hU st)
abbrev Wf (i:Nat)(c:Col)(H:Hp)(x:Ent)(v:V):Prop:=∃(p t1 t2 k:Addr) (ts:List Addr),v=.ref p/\LstAt i c H (.dA x.1) p [.ref t1,.ref t2,.ref k]/\MnT c H x.2.1 t1/\(∀tx,x.2.2.2=some tx->MnT c H (.mat tx) t2)/\LstAt i c H (.gO x.1) k (ts.map V.ref)/\bD (λe t=>TupAt c H t (dH e)) x.2.2.1 ts
structure MdX (i:Nat)(c:Col)(H:Hp)(m:Addr)(st:Ch)(aP aA aD aM:Addr)(ds:List Addr)(ws es:List V):Prop where
 co:c m=some (i,.ob)
 ob:H m=some (.dK (mdF (.int st.aT) (.bl st.closed) (.ref aP) (.ref aA) (.ref aD) (.ref aM)))
 au:LstAt i c H .au aP (st.au.map nV)
 aH:iS i c H .aH aA ((st.aH.map (·.1)).zip ws)
 wait:bD (LL i c H) st.aH ws
 dec:LstAt i c H .decided aD (ds.map V.ref)
 mS:bD (λ(x:Nat×Str) t=>TupAt c H t [nV x.1,.str x.2]) st.decided ds
 lV:LstAt i c H .made aM es
 ent:bD (Wf i c H) (iC st) es
structure jt (i:Nat)(c:Col)(H:Hp)(m:Addr)(st:Ch):Prop where
 ex:∃(aP aA aD aM:Addr) (ds:List Addr) (ws es:List V),MdX i c H m st aP aA aD aM ds ws es
section
variable{i:Nat}{p:Rl->Bool}{c c':Col}{H H':Hp}{m aP aA aD aM:Addr}{st:Ch}{ds:List Addr}{ws es:List V}
theorem MdX.at (X:MdX i c H m st aP aA aD aM ds ws es):jt i c H m st:=⟨_,_,_,_,_,_,_,X⟩
theorem Gs {xs:List Ent}{vs:List V}(h1:∀x∈xs,p (.dA x.1)=false)(h2:∀x∈xs,p (.gO x.1)=false)(s:Step (Wr i p) c c' H H')(z:bD (Wf i c H) xs vs):bD (Wf i c' H') xs vs :=
 z.imp_mem λx m v ⟨q,t1,t2,k,ts,e,z1,z2,z3,z4,z5⟩=>⟨q,t1,t2,k,ts,e,z1.kp (h1 x m) s,z2.step s,λtx ht=>(z3 tx ht).step s,z4.kp (h2 x m) s,z5.imp λ_ _ y=>y.step s⟩
theorem MdX.free {W:Option (Nat×Rl)->Prop}(h:∀r,¬W (some (i,r)))(s:Step W c c' H H')(X:MdX i c H m st aP aA aD aM ds ws es):MdX i c' H' m st aP aA aD aM ds ws es:=by
 have hn:¬W (c m):=by rw[X.co];exact h _
 refine⟨by rw[s.col m _ X.ob hn];exact X.co,s.keep _ _ X.ob hn,X.au.keep (h _) s,X.aH.keep (h _) s,X.wait.imp ?_,X.dec.keep (h _) s,jn s X.mS,X.lV.keep (h _) s,X.ent.imp ?_⟩
 ·rintro x v ⟨t,p,e,z1,z2⟩;exact⟨t,p,e,z1.step s,z2.keep (h _) s⟩
 ·rintro x v ⟨q,t1,t2,k,ts,e,z1,z2,z3,z4,z5⟩;exact⟨q,t1,t2,k,ts,e,z1.keep (h _) s,z2.step s,λtx ht=>(z3 tx ht).step s,z4.keep (h _) s,z5.imp λ_ _ y=>y.step s⟩
theorem MdX.same (s:bu H H')(X:MdX i c H m st aP aA aD aM ds ws es):MdX i c H' m st aP aA aD aM ds ws es:=X.free (W:=λ_=>False) (λ_=>id) (Step.same id s)
theorem MdX.cl (s:bu H H')(X:MdX i c H m st aP aA aD aM ds ws es):MdX i (bS c H) H' m st aP aA aD aM ds ws es:=X.free (W:=λ_=>False) (λ_=>id) (Step.cl id s)
theorem jt.free {W:Option (Nat×Rl)->Prop}(h:∀r,¬W (some (i,r)))(s:Step W c c' H H')(X:jt i c H m st):jt i c' H' m st:=by
 obtain⟨aP,aA,aD,aM,ds,ws,es,X⟩:=X.ex;exact(X.free h s).at
theorem MdX.attr (X:MdX i c H m st aP aA aD aM ds ws es)(n:Int)(b:Bool) :
  Step (Wr i pOb) c c H (upd H m (.dK (mdF (.int n) (.bl b) (.ref aP) (.ref aA) (.ref aD) (.ref aM))))/\MdX i c (upd H m (.dK (mdF (.int n) (.bl b) (.ref aP) (.ref aA) (.ref aD) (.ref aM)))) m { st with aT:=n,closed:=b } aP aA aD aM ds ws es:=by
 have s:Step (Wr i pOb) c c H (upd H m (.dK (mdF (.int n) (.bl b) (.ref aP) (.ref aA) (.ref aD) (.ref aM)))):=Step.upd Wr.nn (Wr.yes X.co rfl);exact⟨s,X.co,ae,X.au.kp rfl s,X.aH.kp rfl s,kU (λ_ _=>rfl) s X.wait,X.dec.kp rfl s,jn s X.mS,X.lV.kp rfl s,Gs (λ_ _=>rfl) (λ_ _=>rfl) s X.ent⟩
def aa9:Rl->Bool | .au=>true | .decided=>true | _=>false
theorem MdX.pop (X:MdX i c H m st aP aA aD aM ds ws es){pre:List Nat}{n:Nat}{t:Addr}{wd:Str}(ht:(upd H aP (.lst (pre.map nV))) t=none) :
  Step (Wr i aa9) c (ay c t none) H (upd (upd (upd H aP (.lst (pre.map nV))) t (.tup [nV n,.str wd])) aD (.lst (ds.map V.ref++[.ref t]))) /\
  MdX i (ay c t none) (upd (upd (upd H aP (.lst (pre.map nV))) t (.tup [nV n,.str wd])) aD (.lst (ds.map V.ref++[.ref t]))) m (st.popped pre n wd) aP aA aD aM (ds++[t]) ws es:=by
 have nt:∀ {a:Addr} {v:HO},H a=some v->a≠t:=by
  intro a v e z;subst z
  by_cases y:a=aP
  ·subst y;rw[ae]at ht;cases ht
  ·rw[aw y,e]at ht;cases ht
 have nPD:aD≠aP:=d5 X.dec.1 X.au.1 (λz=>nomatch z)
 have s:Step (Wr i aa9) c (ay c t none) H (upd (upd (upd H aP (.lst (pre.map nV))) t (.tup [nV n,.str wd])) aD (.lst (ds.map V.ref++[.ref t]))) :=
  ((Step.upd Wr.nn (Wr.yes X.au.1 rfl)).trans (Step.new Wr.nn ht)).trans (Step.upd Wr.nn ⟨.decided,by rw[av (nt X.dec.2)];exact X.dec.1,rfl⟩)
 have htt:TupAt (ay c t none) (upd (upd (upd H aP (.lst (pre.map nV))) t (.tup [nV n,.str wd])) aD (.lst (ds.map V.ref++[.ref t]))) t [nV n,.str wd]:=⟨aW,.inl ((aw (nt X.dec.2).symm).trans ae)⟩;have kp:LstAt i (ay c t none) (upd (upd (upd H aP (.lst (pre.map nV))) t (.tup [nV n,.str wd])) aD (.lst (ds.map V.ref++[.ref t]))) .au aP (pre.map nV) :=
  ⟨by rw[av (nt X.au.2)];exact X.au.1,by rw[aw nPD.symm,aw (nt X.au.2),ae]⟩
 have kd:LstAt i (ay c t none) (upd (upd (upd H aP (.lst (pre.map nV))) t (.tup [nV n,.str wd])) aD (.lst (ds.map V.ref++[.ref t]))) .decided aD ((ds++[t]).map V.ref) :=
  ⟨by rw[av (nt X.dec.2)];exact X.dec.1,by rw[ae,kx];rfl⟩
 have k:=mQ rfl s X.co X.ob;exact⟨s,k.1,k.2,kp,X.aH.kp rfl s,kU (λ_ _=>rfl) s X.wait,kd,(jn s X.mS).snoc htt,X.lV.kp rfl s,Gs (λ_ _=>rfl) (λ_ _=>rfl) s X.ent⟩
theorem MdX.gs (X:MdX i c H m st aP aA aD aM ds ws es):uP H m (V.str (ar "sitting")) (some (.int st.aT)):=.inl ⟨_,tu (ar "sitting"),.inl X.ob,rfl,oa.symm⟩
theorem MdX.gc (X:MdX i c H m st aP aA aD aM ds ws es):uP H m (V.str (ar "closed")) (some (.bl st.closed)):=.inl ⟨_,tu (ar "closed"),.inl X.ob,rfl,B2.symm⟩
theorem MdX.gp (X:MdX i c H m st aP aA aD aM ds ws es):uP H m (V.str (ar "pile")) (some (.ref aP)):=.inl ⟨_,tu (ar "pile"),.inl X.ob,rfl,tN.symm⟩
theorem MdX.ga (X:MdX i c H m st aP aA aD aM ds ws es):uP H m (V.str (ar "aside")) (some (.ref aA)):=.inl ⟨_,tu (ar "aside"),.inl X.ob,rfl,yu.symm⟩
theorem MdX.gd (X:MdX i c H m st aP aA aD aM ds ws es):uP H m (V.str (ar "decided")) (some (.ref aD)):=.inl ⟨_,tu (ar "decided"),.inl X.ob,rfl,zb.symm⟩
theorem MdX.gm (X:MdX i c H m st aP aA aD aM ds ws es):uP H m (V.str (ar "motions")) (some (.ref aM)):=.inl ⟨_,tu (ar "motions"),.inl X.ob,rfl,zc.symm⟩
end
theorem Pe (xs:List V)(k:Nat):gy xs none (some (k:Int))=xs.take k:=by
 unfold gy;rw[HT.vP,HT.Fy,List.drop_zero,Nat.sub_zero,<-List.take_eq_take_min]
theorem RO {xs:List V}{lo hi:Option Int}{x:V}(h:x∈gy xs lo hi):x∈xs:=by
 unfold gy at h;exact List.mem_of_mem_drop (List.mem_of_mem_take h)
abbrev vn:Str:=ar "abcdefghijklmnopqrstuvwxyzAZ09-#./"
theorem Pf:vn.length=34:=by trivial
theorem DN:vn.cps.toList.length=34:=by trivial
theorem DO:∀c∈vn.cps.toList,R.Sign c:=by trivial
theorem RP:∀c∈vn.cps.toList.take 33,c≠47:=by trivial
theorem ahQ {i:Int}(h0:0<=i)(h1:i < 34):∃c,atI vn.cps.toList i=some c/\R.Sign c:=by
 obtain⟨c,hc,hm⟩:=Te (xs:=vn.cps.toList) (i:=i) (n:=34) DN h0 (by omega)
 exact⟨c,hc,DO c hm⟩
theorem ahR {i:Int}(h0:0<=i)(h1:i < 33):∃c,atI vn.cps.toList i=some c/\R.Sign c/\c≠47:=by
 obtain⟨n,rfl⟩:∃n:Nat,i=(n:Int):=⟨i.toNat,by omega⟩
 have hn:n < 33:=by omega
 have hl:=DN;have e:vn.cps.toList[n]?=some vn.cps.toList[n]:=wa (by omega)
 refine⟨_,dI e,DO _ (List.getElem_mem _),RP _ ?_⟩;have e2:(vn.cps.toList.take 33)[n]?=some vn.cps.toList[n]:=by rw[List.getElem?_take,if_pos hn];exact e
 exact akl e2
structure Wd (n:Nat)(x:Str):Prop where
 len:x.length<=n
 hd:∃d r,x.cps.toList=d::r/\d≠47
 sgn:∀c∈x.cps.toList,R.Sign c
theorem Wg {c:Nat}(h:R.Sign c)(n:c≠47):Wd 1 ⟨#[c]⟩:=⟨kq 1,⟨c,[],rfl,n⟩,λd hd=>by
 have:d=c:=by simpa using hd
 rw[this];exact h⟩
theorem Wh {x:Str}{n c:Nat}(w:Wd n x)(h:R.Sign c):Wd (n+1) (x++⟨#[c]⟩):=by
 obtain⟨d,r,e,hd⟩:=w.hd;refine⟨?_,⟨d,r++[c],?_,hd⟩,λy hy=>?_⟩
 ·have:=w.len;rw[len_app];show _+1<=_;omega
 ·rw[fH,e];rfl
 ·rw[fH,List.mem_append]at hy;rcases hy with hy | hy
  ·exact w.sgn y hy
  ·have:y=c:=by simpa using hy
   rw[this];exact h
theorem Wd.word {n:Nat}{x:Str}(w:Wd n x)(h:n<=20):R.oG x:=by
 obtain⟨d,r,e,hd⟩:=w.hd;have hl:x.cps.toList.length=x.length:=by rw[alc];rfl
 refine⟨?_,adm w.len h,w.sgn,λz=>?_⟩
 ·rw[<-hl,e];simp
 ·rw[z]at e;have:(ar "/").cps.toList=[47]:=by trivial
  rw[this]at e;cases e;exact hd rfl
def Pg:Sp:=λvs H Q _=>∃c:Int,vs=[.int c]/\∀x,R.oG x->Q (.str x) H
def B6:Sp:=λvs H Q _=>∃c:Int,vs=[.int c]/\∀(ws:List Str) (H':Hp),R.BM 12 ws->bu H H'->Q (.str (si R.bl1 ws)) H'
def Wi (K:bo):Sp:=λvs H Q _=>∃(a:Addr) (ns:List Int) (k:Int),vs=[.ref a,.int k]/\SqL K H a (ns.map V.int)/\0<=k/\∀z:Int,Q (.int z) H
def Ph:Sp:=λvs H Q _=>∃(c n:Int) (z:Str),vs=[.int c,.int n,.str z]/\0<=n/\n<=900/\∀(k:Nat) (j:Int) (t:Addr) (H':Hp),(k=0\/k=1\/k=2)->-1<=j->j<=1000->bu H H'->H t=none->H' t=some (.tup (R.edR k j z))->Q (.ref t) H'
def Pj:Sp:=λvs H Q _=>∃k:Nat,k < 8/\vs=[.str (nm k)]/\∀H',bu H H'->Q (.int (k:Int)) H'
def JV:List Str:=[ar "matter",ar "change",ar "mend",ar "put off",ar "close",ar "lay",ar "rest",ar "point"]
theorem Pk:∀k,k < 8->JV[k]?=some (nm k)/\∀m,m < k->JV[m]?≠some (nm k):=by trivial
section
variable{P:sr}{w:World}{K:bo}{mg:Str->Option Value}{base:Heap}{A:Adr}
theorem Fi (T:Txt w.params K mg A):a7 P w K mg base CX0 1 A.xT A.qG ["_law_script","_law_k"] (Wi K):=by
 refine T.sU.ok Ez (λvs H Q E h=>?_) (λcdv A' outer s H vs Q E hr h=>?_)
 ·obtain⟨a,ns,k,rfl,_⟩:=h;rfl
 ·obtain⟨a,ns,k,rfl,hS,h0,q⟩:=h;refine⟨_,(ai (a9 (az sy (pv 1) (cD cM (by rfl) T.n5 jC (aa (pv 0) af)) (aJ _))
 (aj (aG (aS bA (pv 0) (pv 1) (λ_ _=>rfl))))
 aC)
 (aj (aG ah))),?_⟩
  try dsimp only[bG]
  refine⟨_,rfl,_,rfl,a,_,rfl,.inl hS,_,_,rfl,rfl,_,rfl,fG (λe=>?_) (λ_=>q 0)⟩
  refine aQ λGq gq=>?_
  have e':k < ((ns.map V.int).length:Int):=of_decide_eq_true e;rw[ba]at e';obtain⟨c,hc,hm⟩:=Te (xs:=ns.map V.int) (i:=k) (n:=ns.length) (ba _) h0 e';obtain⟨z,_,rfl⟩:=List.mem_map.mp hm;refine gq ?_;exact⟨_,rfl,_,rfl,a,_,_,_,rfl,rfl,hS,hc,q z⟩
theorem DQ (T:Txt w.params K mg A):a7 P w K mg base CX0 1 A.JA A.xU ["_law_cell"] Pg:=by
 refine T.wy.ok pH (λvs H Q E h=>?_) (λcdv A' outer s H vs Q E hr h=>?_)
 ·obtain⟨c,rfl,_⟩:=h;rfl
 ·obtain⟨c,rfl,k⟩:=h;refine⟨_,(ai (a4 (i:=1) pH.nd rfl (wt rfl) ao)
 (ai (a4 (i:=2) pH.nd rfl (wt rfl) (aS Ji (pv 1) (bc cJ (pv 0) ah) (λ_ _=>rfl)))
 (ai (xC alv rfl (xB rfl T.Ax (aa (bc cJ (bc dR (pv 0) ah) ah) af)) (iW (i:=3) pH.nd rfl (wt rfl))
 (aj (a4 (i:=2) pH.nd rfl (wt rfl) (bc Ja (pv 2) (aS Ji (pv 1) (bc cJ (bc dR (pv 0) (bc xD ah (bc eh ah (bc xD ah (pv 3))))) ah) (λ_ _=>rfl))))))
 (aj (aG (pv 2)))))),?_⟩
  try dsimp only[bG]
  refine aQ λGq gq=>?_
  have s34:vn.length<=gr:=by rw[Pf];decide
  obtain⟨d,hd,hd',ahS⟩:=ahR (i:=c % 33) (by omega) (by omega)
  refine gq ?_;refine⟨_,rfl,_,rfl,_,_,rfl,rfl,(by show (0:Int) < 33;decide),vn,_,d,rfl,rfl,s34,hd,?_⟩
  refine⟨_,rfl,_,_,rfl,rfl,⟨by decide,by decide⟩,_,_,rfl,rfl,(by show (0:Int) < 3;decide),_,rfl,by omega,by omega,?_⟩
  refine CU (lo:=0) (n:=(c / 33 % 3).toNat) (λi σ H'=>H'=H/\∃x kv,σ=[some (.int c),some (.str vn),some (.str x),kv]/\Wd (1+i) x) ⟨rfl,_,_,rfl,Wg hd' ahS⟩ ?_ ?_
  ·rintro i σ H' hi ⟨rfl,x,kv,rfl,wx⟩;refine aQ λGq gq=>?_
   obtain⟨d2,hd2,ahT⟩:=ahQ (i:=c / (99 * (1+33 * (0+(i:Int)))) % 34) (by omega) (by omega)
   refine gq ?_;refine⟨_,rfl,_,rfl,_,rfl,_,rfl,_,_,rfl,rfl,.inl ⟨by decide,by decide⟩,_,_,rfl,rfl,_,_,rfl,rfl,.inl ⟨by decide,by decide⟩,_,_,rfl,rfl,⟨by omega,by omega⟩,_,_,rfl,rfl,(by show (0:Int) < 34;decide),vn,_,d2,rfl,rfl,s34,hd2,_,_,rfl,rfl,?_,rfl,_,_,rfl,?_⟩
   ·have:=wx.len;rw[show (⟨#[d2]⟩:Str).length=1 from rfl]
    have:i < 3:=by omega
    exact adm (by omega:x.length+1<=10) (by decide)
   ·exact Wh wx ahT
  ·rintro σ H' ⟨rfl,x,kv,rfl,wx⟩;exact⟨_,rfl,k x (wx.word (by omega))⟩
theorem Gu (T:Txt w.params K mg A):a7 P w K mg base CX0 2 A.wo A.nS ["_law_cell"] B6:=by
 refine T.mH.ok kQ (λvs H Q E h=>?_) (λcdv A' outer s H vs Q E hr h=>?_)
 ·obtain⟨c,rfl,_⟩:=h;rfl
 ·obtain⟨c,rfl,k⟩:=h;refine⟨_,(ai (a4 (i:=1) kQ.nd rfl (wt rfl) (bQ af))
 (ai (a4 (i:=2) kQ.nd rfl (wt rfl) (bc eh (bc cJ (pv 0) ah) ah))
 (ai (xC alv rfl (xB rfl T.Ax (aa (bc cJ (pv 0) ah) af)) (iW (i:=3) kQ.nd rfl (wt rfl))
 (ai (a4 (i:=2) kQ.nd rfl (wt rfl) (bc cJ (bc xD (pv 2) ah) ah))
 (aj (bJ (gw rf aj4 aj5 dn (pv 1) (aa (aX (DQ T) hr rfl T.Bk T.wy.kp T.Bj .nil a5 (aa (bc dR (pv 2) ah) af)) af))))))
 (aj (aG (gw alf PySem.F.slot_str_join PySem.F.type_str_join Ee ao (aa (pv 1) af))))))),?_⟩
  try dsimp only[bG]
  have sz:gr=16777216:=by decide
  refine⟨akX _,λW hW=>?_⟩
  refine⟨_,rfl,_,_,rfl,rfl,(by show (0:Int) < 4294967311;decide),_,_,rfl,rfl,?_⟩
  refine⟨_,rfl,_,_,rfl,rfl,(by show (0:Int) < 4;decide),_,rfl,by omega,by omega,?_⟩
  refine CU (lo:=0) (n:=(c % 4).toNat) (λi σ H2=>∃(ws:List Str) (m:Int) (kv:Option V),σ=[some (.int c),some (.ref W),some (.int m),kv]/\0<=m/\m<=4294967311/\H2 W=some (.lst (ws.map V.str))/\ws.length=i/\(∀w∈ws,R.oG w)/\bu H H2)
   ⟨[],_,_,rfl,by omega,by omega,ae,rfl,(λz hz=>nomatch hz),aB hW⟩ ?_ ?_
  ·rintro i σ H2 hi ⟨ws,m,kv,rfl,m0,m1,h2,hl,hg,s2⟩;refine⟨_,rfl,_,_,rfl,rfl,.inl ⟨by omega,by omega⟩,_,_,rfl,rfl,(by show (0:Int) < 4294967311;decide),?_⟩
   refine⟨_,rfl,.inl ⟨rfl,_,SqL.of h2⟩,_,rfl,_,_,rfl,rfl,⟨by decide,by decide⟩,_,rfl,λx hx=>?_⟩
   refine⟨W,_,_,rfl,rfl,h2,(by rw[ba];omega),?_⟩
   refine⟨ws++[x],_,_,rfl,by omega,by omega,?_,?_,λz h=>?_,s2.own hW⟩
   ·rw[ae,kx];rfl
   ·rw[me,hl];rfl
   ·rcases List.mem_append.mp h with h | h
    ·exact hg z h
    ·rw[List.mem_singleton.mp h];exact hx
  ·rintro σ H2 ⟨ws,m,kv,rfl,m0,m1,h2,hl,hg,s2⟩;have hs:=R.DA hg;refine⟨rfl,_,rfl,R.bl1,W,ws,rfl,rfl,SqL.of h2,(by rw[R.oF];show _+_ * 1<=_;omega),?_⟩
   exact k ws _ ⟨by omega,hg⟩ s2
theorem DR (T:Txt w.params K mg A):a7 P w K mg base CX0 1 A.JB A.xV ["_law_cell","_law_size","_law_thing"] Ph:=by
 refine T.wz.ok Df (λvs H Q E h=>?_) (λcdv A' outer s H vs Q E hr h=>?_)
 ·obtain⟨c,n,z,rfl,_⟩:=h;rfl
 ·obtain⟨c,n,z,rfl,n0,n1,q⟩:=h;refine⟨_,(ai (a4 (i:=3) Df.nd rfl (wt rfl) (bc oo (bc cJ (bc dR (pv 0) ah) (bc eh (pv 1) ah)) ah))
 (ai (a9 (az bt (bc cJ (pv 0) ah) ah (aJ _))
 (aj (aG (bp (aa ao (aa (pv 3) af)))))
 aC)
 (aj (aG (bp (aa (aS bA (bQ (aa ao (aa ao (aa ao af)))) (bc cJ (pv 0) ah) (λ_ _=>rfl)) (aa (pv 3) (aa (pv 2) af)))))))),?_⟩
  try dsimp only[bG]
  refine⟨_,rfl,_,_,rfl,rfl,⟨by decide,by decide⟩,_,rfl,_,_,rfl,rfl,_,_,rfl,rfl,(by show (0:Int) < n+3;omega),_,_,rfl,rfl,?_⟩
  have j0:0<=c / 3 % (n+3):=ak6 _ (by omega)
  have j1:c / 3 % (n+3) < n+3:=akO _ (by omega)
  dsimp only[dD];obtain⟨j,ej⟩:∃j,c / 3 % (n+3) - 1=j:=⟨_,rfl⟩;rw[ej];refine⟨_,rfl,_,_,rfl,rfl,(by show (0:Int) < 3;decide),rfl,_,rfl,fG (λh=>?_) (λh=>?_)⟩
  ·refine⟨_,rfl,(sl 2),λt ht=>?_⟩
   exact q 1 j t _ (.inr (.inl rfl)) (by omega) (by omega) (aB ht) ht ae
  ·have h':¬c % 3=1:=λe=>h (decide_eq_true (by show V.int (c % 3)=V.int 1;rw[e]))
   refine⟨(sl 3),λp hp=>?_⟩
   refine aQ λGq gq=>?_
   have s1:=aB (o:=.lst [V.str (ar "put"),.str (ar ""),.str (ar "turn")]) hp;obtain⟨k,hk3,hk1,hk⟩:∃k:Nat,(k=0\/k=1\/k=2)/\k≠1/\atI [V.str (ar "put"),.str (ar ""),.str (ar "turn")] (c % 3)=some (.str (R.kn k)):=by
    have h3:c % 3=0\/c % 3=2:=by omega
    rcases h3 with e | e
    ·exact⟨0,.inl rfl,by decide,by rw[e];rfl⟩
    ·exact⟨2,.inr (.inr rfl),by decide,by rw[e];rfl⟩
   refine gq ?_;refine⟨_,rfl,_,_,rfl,rfl,(by show (0:Int) < 3;decide),p,_,_,_,rfl,rfl,SqL.of ae,hk,_,rfl,_,rfl,(sl 3),λt ht=>?_⟩
   refine q k j t _ hk3 (by omega) (by omega) (s1.new ht) (same_none s1 ht) ?_
   rw[ae,R.edR,if_neg hk1]
theorem vo (T:Txt w.params K mg A):a7 P w K mg base CX0 1 A.ED A.uX ["_law_clause_here"] R.pY:=by
 refine T.pU.ok Jx (λvs H Q E h=>?_) (λcdv A' outer s H vs Q E hr h=>?_)
 ·obtain⟨z,rfl,_⟩:=h;rfl
 ·obtain⟨z,rfl,hz,k⟩:=h;refine⟨_,(ai (a9 (az bt (pv 0) ao (aJ _))
 (aj (aG (bQ af)))
 aC)
 (aj (aG (gw alf PySem.F.slot_str_split PySem.F.type_str_split FF (pv 0) (aa ao af))))),?_⟩
  try dsimp only[bG]
  refine⟨_,rfl,rfl,_,rfl,fG (λe=>?_) (λe=>?_)⟩
  ·have e':z=R.em:=by injection of_decide_eq_true e
   refine⟨akX _,λp hp=>?_⟩
   have:=k p hp;rw[R.bj,if_pos e']at this;exact this
  ·have e':¬z=R.em:=λq=>e (decide_eq_true (by rw[q]))
   refine⟨_,rfl,rfl,z,R.bl1,rfl,rfl,by rw[R.oF];rfl,hz,λp hp=>?_⟩
   have:=k p hp;rw[R.bj,if_neg e']at this;exact this
theorem DS (T:Txt w.params K mg A):a7 P w K mg base CX0 1 A.JE A.xY ["_law_kind"] Pj:=by
 refine T.wF.ok Mq (λvs H Q E h=>?_) (λcdv A' outer s H vs Q E hr h=>?_)
 ·obtain⟨k,_,rfl,_⟩:=h;rfl
 ·obtain⟨k,k8,rfl,q⟩:=h;refine⟨_,(aj (aG (gw rf PySem.F.slot_list_index PySem.F.type_list_index N9 (bQ (aa ao (aa ao (aa ao (aa ao (aa ao (aa ao (aa ao (aa ao af))))))))) (aa (pv 0) af)))),?_⟩
  try dsimp only[bG]
  obtain⟨h1,h2⟩:=Pk k k8;refine⟨(sl 8),λp hp=>?_⟩
  refine⟨.inl ⟨rfl,_,SqL.of ae⟩,_,rfl,p,JV,nm k,k,rfl,rfl,SqL.of ae,h1,h2,?_⟩;exact q _ (aB hp)
theorem yw (T:Txt w.params K mg A):a7 P w K mg base CX0 1 A.JC A.xW ["_law_things","_law_edit_here"] (OW K):=by
 refine T.sV.ok Mp (λvs H Q E h=>?_) (λcdv A' outer s H vs Q E hr h=>?_)
 ·obtain⟨a,t,xs,e,rfl,_⟩:=h;rfl
 ·obtain⟨a,t,xs,e,rfl,ha,ht,o,q⟩:=h;refine⟨_,(ai (a9 (az bt (aS aU (pv 1) ah (λ_ _=>rfl)) ao (aJ _))
 (aj (aG (AE vN vN ah (aS aU (pv 1) ah (λ_ _=>rfl)) (cD cM (by rfl) T.n5 jC (aa (pv 0) af)))))
 aC)
 (aj (aG (AE vN sy ah (aS aU (pv 1) ah (λ_ _=>rfl)) (cD cM (by rfl) T.n5 jC (aa (pv 0) af)))))),?_⟩
  try dsimp only[bG]
  unfold d9 at q;refine ixv rfl ht (oE e) ⟨rfl,_,rfl,fG (λz=>?_) (λz=>?_)⟩
  ·have hk:e.k=0:=(yi o).mp (of_decide_eq_true z);rw[if_pos hk]at q;refine ixv rfl ht (vc e) ⟨_,_,rfl,rfl,_,rfl,fG (λz1=>?_) (λz1=>?_)⟩
   ·have h1:0<=e.at_:=of_decide_eq_true z1;rw[decide_eq_true h1,Bool.true_and]at q;refine⟨_,rfl,a,_,rfl,.inl ha,_,_,rfl,rfl,?_⟩;dsimp only;rw[show decide (e.at_<=(xs.length:Int))=decide (e.at_ < (xs.length:Int)+1) by simp only[decide_eq_decide];omega]
    exact q
   ·have h1:¬0<=e.at_:=λy=>z1 (decide_eq_true y)
    rw[decide_eq_false h1,Bool.false_and]at q;exact q
  ·have hk:¬e.k=0:=λy=>z (decide_eq_true ((yi o).mpr y))
   rw[if_neg hk,Int.add_zero]at q;refine ixv rfl ht (vc e) ⟨_,_,rfl,rfl,_,rfl,fG (λz1=>?_) (λz1=>?_)⟩
   ·have h1:0<=e.at_:=of_decide_eq_true z1;rw[decide_eq_true h1,Bool.true_and]at q;exact⟨_,rfl,a,_,rfl,.inl ha,_,_,rfl,rfl,q⟩
   ·have h1:¬0<=e.at_:=λy=>z1 (decide_eq_true y)
    rw[decide_eq_false h1,Bool.false_and]at q;exact q
end
def Pl (K:bo):Sp:=λvs H Q _=>∃(a t:Addr) (xs:List Str) (e:Ed),vs=[.ref a,.ref t]/\SqL K H a (xs.map V.str)/\xs.length<=1000/\SqT K H t (dH e)/\qP e/\d9 xs.length e=true /\
 ∀p H',bu H H'->H p=none->H' p=some (.lst ((bE xs e).map V.str))->Q (.ref p) H'
def RQ:Sp:=λvs H Q _=>vs=[]/\∀m H',(∀(i:Nat) (c:Col) (n:Int),∃c',Step (λ_=>False) c c' H H'/\jt i c' H' m (LW n))->Q (.ref m) H'
def LY (i:Nat):Sp:=λvs H Q _=>∃(m:Addr) (n:Nat) (c:Col) (st:Ch),vs=[.ref m,nV n]/\jt i c H m st/\cY st n/\∀t,MnT c H (st.mo n) t->Q (.ref t) H
def RS (i:Nat):Sp:=λvs H Q _=>∃(m:Addr) (c:Col) (st:Ch),vs=[.ref m]/\jt i c H m st/\(∀n∈st.au,cY st n)/\∀H',bu H H'->Q (.int (oH st.closed (st.au.map st.mo))) H'
theorem kH (ns:List Nat):akR (hJ ns) (.list [])=ns.isEmpty:=by
 cases ns with
 |nil=>simp[hJ,akR,akQ]
 |cons n ns=>simp[hJ,akR,akQ]
theorem B7:∀ns:List Nat,aks (ns.map λn:Nat=>PyData.int (n:Int))<=1
 |[]=>by simp only[akD,aks];omega
 |n::ns=>by
  have:=B7 ns;simp only[km,aks,akE];omega
theorem kJ (ns:List Nat):ale (hJ ns)=true:=by
 have h1:(hJ ns).canLay0=true:=by
  unfold hJ;simp only[akm]
  induction ns with
  |nil=>simp only[akD,aj1]
  |cons n ns ih=>simp only[km,aj1,akm,ih,akM]
 have h2:(hJ ns).depth<=64:=by
  have:=B7 ns;unfold hJ;simp only[akE];omega
 show ((hJ ns).canLay0 && decide ((hJ ns).depth<=64))=true;rw[h1,decide_eq_true h2];rfl
theorem oI:ale (.list [])=true:=by rfl
theorem oJ {K:bo}{H:Hp}{p:Addr}(h:SqL K H p []):DV K H (.list []) (.ref p):=by
 unfold DV;exact⟨p,[],rfl,h,by unfold DVs;rfl⟩
theorem oe {st:Ch}{n:Nat}(hn:cY st n):(iC st)[n - 1]?=some (hU st n):=by
 unfold iC;rw[aj7,Gj hn.1 hn.2];rfl
theorem MnT.kind {c:Col}{H:Hp}{m:Mn}{t:Addr}(h:MnT c H m t):∃v,H t=some (.tup (rowOf m.k v)):=⟨_,h.2.choose_spec.1⟩
theorem Wj {v0 v1 v2 v3 v4 v5:V}:xM [] (mdF v0 v1 v2 v3 v4 v5)=mdF v0 v1 v2 v3 v4 v5:=by kernel_rfl
section
variable{P:sr}{w:World}{K:bo}{mg:Str->Option Value}{base:Heap}{A:Adr}
theorem yx (T:Txt w.params K mg A):a7 P w K mg base CX0 1 A.JD A.xX ["_law_things","_law_edit_here"] (Pl K):=by
 refine T.sW.ok Dg (λvs H Q E h=>?_) (λcdv A' outer s H vs Q E hr h=>?_)
 ·obtain⟨a,t,xs,e,rfl,_⟩:=h;rfl
 ·obtain⟨a,t,xs,e,rfl,ha,hl,ht,o,hf,q⟩:=h;refine⟨_,(ai (a4 (i:=2) Dg.nd rfl (wt rfl) (aS aU (pv 1) ah (λ_ _=>rfl)))
 (ai (a9 (az bt (aS aU (pv 1) ah (λ_ _=>rfl)) ao (aJ _))
 (aj (aG (bc vW (pf vS (pv 0) vR (qB (pv 2))) (pf vS (pv 0) (qB (bc eh (pv 2) ah)) vR))))
 aC)
 (aj (aG (bc vW (bc vW (pf vS (pv 0) vR (qB (pv 2))) (bQ (aa (aS aU (pv 1) ah (λ_ _=>rfl)) af))) (pf vS (pv 0) (qB (bc eh (pv 2) (cE CV (by rfl) T.ON NQ (aa (nP bt (aS aU (pv 1) ah (λ_ _=>rfl)) ao (aJ _)) af)))) vR)))))),?_⟩
  try dsimp only[bG]
  refine aQ λGq gq=>?_
  have sz:gr=16777216:=by decide
  obtain⟨f0,f1⟩:=BF.mp hf;obtain⟨n,hn⟩:∃n:Nat,e.at_=(n:Int):=⟨e.at_.toNat,by omega⟩
  refine gq ?_;refine ixv rfl ht (vc e) ?_;rw[hn];rw[hn]at f1;have en:e.at_.toNat=n:=by rw[hn];rfl
  refine ixv rfl ht (oE e) ⟨rfl,_,rfl,fG (λz=>?_) (λz=>?_)⟩
  ·have hk:e.k=1:=(ve o).mp (of_decide_eq_true z);refine⟨_,rfl,_,rfl,_,rfl,a,_,rfl,ha,λp1 hp1=>?_⟩
   have s1:=aB (o:=.lst (gy (xs.map V.str) none (some (n:Int)))) hp1;refine⟨_,rfl,_,rfl,_,_,rfl,rfl,_,rfl,a,_,rfl,s1.seq ha,λp2 hp2=>?_⟩
   have n12:p1≠p2:=aI ae hp2;have s2:=s1.new (o:=.lst (gy (xs.map V.str) (some ((n:Int)+1)) none)) hp2;have e1:gy (xs.map V.str) none (some (n:Int))=(xs.take n).map V.str:=by rw[Pe,List.map_take]
   have e2:gy (xs.map V.str) (some ((n:Int)+1)) none=(xs.drop (n+1)).map V.str:=by rw[show (n:Int)+1=((n+1:Nat):Int) by omega,AK,List.map_drop]
   refine⟨p1,p2,_,_,rfl,rfl,(aw n12).trans ae,ae,?_,λp3 hp3=>?_⟩
   ·have h1:=iE (xs.map V.str) none (some (n:Int));have h2:=iE (xs.map V.str) (some ((n:Int)+1)) none;rw[ba]at h1 h2;show (gy (xs.map V.str) none (some (n:Int))).length+(gy (xs.map V.str) (some ((n:Int)+1)) none).length<=_;omega
   ·refine q p3 _ (s2.new hp3) (same_none s2 hp3) ?_;have el:(bE xs e).map V.str=gy (xs.map V.str) none (some (n:Int))++gy (xs.map V.str) (some ((n:Int)+1)) none:=by
     rw[e1,e2,<-kx];unfold bE;rw[hk,en];show (xs.eraseIdx n).map V.str=_;rw[List.eraseIdx_eq_take_drop_succ]
    rw[el];exact ae
  ·have hk:¬e.k=1:=λy=>z (decide_eq_true ((ve o).mpr y))
   refine⟨_,rfl,_,rfl,_,rfl,a,_,rfl,ha,λp1 hp1=>?_⟩
   have s1:=aB (o:=.lst (gy (xs.map V.str) none (some (n:Int)))) hp1;refine ixv rfl (bR s1 ht) (vd hk) ⟨(sl 1),λp2 hp2=>?_⟩
   have n12:p1≠p2:=aI ae hp2;have s2:=s1.new (o:=.lst [V.str e.th]) hp2;have h1:=iE (xs.map V.str) none (some (n:Int));rw[ba]at h1;refine⟨p1,p2,_,_,rfl,rfl,(aw n12).trans ae,ae,by show (gy (xs.map V.str) none (some (n:Int))).length+1<=_;omega,λp3 hp3=>?_⟩
   refine aQ λGq gq=>?_
   have s3:=s2.new (o:=.lst (gy (xs.map V.str) none (some (n:Int))++[V.str e.th])) hp3;obtain⟨b,hb,hb2⟩:∃b:Nat,(if decide (V.str (kn e.k)=V.str (ar "turn"))=true then (1:Int) else 0)=(b:Int)/\b=if e.k=2 then 1 else 0:=by
    by_cases h2:e.k=2
    ·exact⟨1,by rw[decide_eq_true ((LA o).mpr h2)];rfl,by rw[if_pos h2]⟩
    ·exact⟨0,by rw[decide_eq_false (λy=>h2 ((LA o).mp y))];rfl,by rw[if_neg h2]⟩
   refine gq ?_;refine⟨_,rfl,_,rfl,ixv rfl (bR s3 ht) (oE e) ⟨rfl,.inr ⟨_,rfl,_,_,rfl,rfl,_,rfl,?_⟩⟩⟩;dsimp only;rw[hb,show (n:Int)+(b:Int)=((n+b:Nat):Int) by omega]
   refine⟨a,_,rfl,s3.seq ha,λp4 hp4=>?_⟩
   have n34:p3≠p4:=aI ae hp4;have s4:=s3.new (o:=.lst (gy (xs.map V.str) (some ((n+b:Nat):Int)) none)) hp4;have h2:=iE (xs.map V.str) (some ((n+b:Nat):Int)) none;rw[ba]at h2;refine⟨p3,p4,_,_,rfl,rfl,(aw n34).trans ae,ae,?_,λp5 hp5=>?_⟩
   ·show (gy (xs.map V.str) none (some (n:Int))++[V.str e.th]).length+(gy (xs.map V.str) (some ((n+b:Nat):Int)) none).length<=_;rw[me,akh];omega
   ·refine q p5 _ (s4.new hp5) (same_none s4 hp5) ?_;have el:(bE xs e).map V.str=gy (xs.map V.str) none (some (n:Int))++[V.str e.th]++gy (xs.map V.str) (some ((n+b:Nat):Int)) none:=by
     rw[Pe,AK,<-List.map_take,<-List.map_drop];unfold bE;rcases o.k3 with h | h | h
     ·rw[h]at hb2 ⊢;rw[hb2,en];simp
     ·exact absurd h hk
     ·rw[h,if_neg (by decide)]at f1
      rw[h]at hb2 ⊢;rw[hb2,en];show (xs.set n e.th).map V.str=_;rw[List.set_eq_take_append_cons_drop,if_pos (by omega)]
      simp
    rw[el];exact ae
theorem mY (T:Txt w.params K mg A){i:Nat}:a7 P w K mg base CX0 1 A.Lu A.wq ["_law_m","_law_number"] (LY i):=by
 refine T.i8.ok Oh (λvs H Q E h=>?_) (λcdv A' outer s H vs Q E hr h=>?_)
 ·obtain⟨m,n,c,st,rfl,_⟩:=h;rfl
 ·obtain⟨m,n,c,st,rfl,hm,hn,q⟩:=h;obtain⟨aP,aA,aD,aM,ds,ws,es,X⟩:=hm.ex;have hu1:=hr.u1;refine⟨_,(aj (aG (aS bA (aS bA (a8 hu1 (pv 0) ao (λ_ _=>rfl)) (bc oo (pv 1) ah) (λ_ _=>rfl)) ah (λ_ _=>rfl)))),?_⟩
  try dsimp only[bG]
  refine aQ λGq gq=>?_
  obtain⟨v,ev,p,t1,t2,k,ts,rfl,z1,z2,z3,z4,z5⟩:=X.ent.get (oe hn);have h1:=hn.1;have ea:atI es ((n:Int) - 1)=some (.ref p):=by
   rw[show (n:Int) - 1=((n - 1:Nat):Int) by omega]
   exact dI ev
  refine gq ?_;refine dgv rfl X.gm ⟨_,rfl,_,_,rfl,rfl,aM,_,_,_,rfl,rfl,SqL.of X.lV.2,ea,p,_,_,_,rfl,rfl,SqL.of z1.2,rfl,?_⟩;exact q t1 z2
theorem B8 (T:Txt w.params K mg A){i:Nat}:a7 P w K mg base CX0 2 A.Oj A.Bc ["_law_m"] (RS i):=by
 refine T.wG.ok A9 (λvs H Q E h=>?_) (λcdv A' outer s H vs Q E hr h=>?_)
 ·obtain⟨m,c,st,rfl,_⟩:=h;rfl
 ·obtain⟨m,c,st,rfl,hm,hp,q⟩:=h;obtain⟨aP,aA,aD,aM,ds,ws,es,X⟩:=hm.ex;have hu1:=hr.u1;have jh:=hr.units;refine⟨_,(ai (a4 (i:=1) A9.nd rfl (wt rfl) (mr iy ah))
 (ai (a9 (az (mw jh) (a8 hu1 (pv 0) ao (λ_ _=>rfl)) (bQ af) (aJ _))
 (aj (a4 (i:=1) A9.nd rfl (wt rfl) (aX (DS T) hr rfl T.Bo T.wF.kp T.Bn .nil a5 (aa (aS aU (aX (mY (i:=i) T) hr rfl T.kF T.i8.kp T.kD .nil a5 (aa (pv 0) (aa (aS bA (a8 hu1 (pv 0) ao (λ_ _=>rfl)) (mr iy ah) (λ_ _=>rfl)) af))) ah (λ_ _=>rfl)) af))))
 aC)
 (ai (a9 (oj (a8 hu1 (pv 0) ao (λ_ _=>rfl)))
 (aj (aG (cD (ua rfl) (by rfl) T.F8 Ec (aa (pv 1) (aa ah af)))))
 aC)
 (aj (aG (pv 1)))))),?_⟩
  try dsimp only[bG]
  refine⟨_,rfl,?_⟩;dsimp only[dD];refine d6 (λσ' H'=>σ'=[some (.ref m),some (.int (rO (st.au.map st.mo)))]/\bu H H') ?r (λN nN=>?f)
  case f =>
   refine dgv rfl X.gp ⟨(sl 0),λp hp0=>?_⟩
   have s1:=aB (o:=.lst []) hp0;refine⟨hJ st.au,.list [],kG (SqL.of (s1 _ _ X.au.2)),oJ (SqL.of ae),kJ _,oI,_,rfl,?_⟩;rw[kH];rcases akb st.au with e | ⟨pre,n,e⟩
   ·rw[e];exact bZ (nN _ _ ⟨by rw[e];rfl,s1⟩)
   ·rw[akc]at e;have X1:=X.same s1;have hn:=hp n (by rw[e];simp)
    have h0:atI (st.au.map nV) (-1)=some (nV n):=by rw[e,kx];exact ic _ _
    refine qX (by rw[e];simp) ?_
    refine⟨_,rfl,_,rfl,m,_,rfl,X1.gp,_,rfl,aP,_,_,_,rfl,rfl,SqL.of X1.au.2,h0,m,n,c,st,rfl,X1.at,hn,λt ht=>?_⟩
    obtain⟨v,hv⟩:=ht.kind;refine⟨t,_,_,_,rfl,rfl,SqT.of hv,dS,(st.mo n).k,(st.mo n).k8,rfl,λH2 s2=>nN _ _ ⟨?_,s1.trans s2⟩⟩
    rw[e,kx,km,akD,p0];rfl
  case r =>
   rintro σ' H1 ⟨rfl,s1⟩;have X1:=X.same s1;refine dgv rfl X1.gc ⟨_,rfl,?_⟩;have q:=q H1 s1;unfold oH at q;cases hcl:st.closed with
   |true =>
    rw[hcl]at q;exact dW ⟨_,rfl,_,_,rfl,q⟩
   |false =>
    rw[hcl]at q;exact bZ ⟨_,rfl,q⟩
end
def xcC:Xc->Str×Int
 | .tH b=>(ar "bar",b)
 | .mV=>(ar "no matter",0)
 | .noChange=>(ar "no change",0)
 | .noFit=>(ar "no fit",0)
 | .mW n=>(ar "not later",n)
 | .nothing=>(ar "nothing",0)
 | .tooMany=>(ar "too many",0)
 | .uw=>(ar "no aside",0)
 | .BQ n=>(ar "not yet",n)
 | .BR=>(ar "no number",0)
def RT (i:Nat):Sp:=λvs H Q _=>∃(m t:Addr) (c:Col) (st:Ch) (N:Nat) (d:R.d7),vs=[.ref m,.ref t]/\jt i c H m st/\Inv N st/\N<=800/\CJ d/\rB i c H d t /\
 (js st (eQ d)=none->∀H',bu H H'->Q .non H')/\∀x,js st (eQ d)=some x->∀u H',bu H H'->H u=none->H' u=some (.tup [.str (xcC x).1,.int (xcC x).2])->Q (.ref u) H'
theorem JW {m:Mn}{r:List Mn}(h:PMs (m::r)):ux (m::r)=decide (m.k=0):=by
 cases hm:ux (m::r) with
 |true =>
  obtain⟨tx,r',e⟩:=h.JT hm;cases e;rfl
 |false =>
  unfold ux at hm;rw[List.any_cons,Bool.or_eq_false_iff]at hm;exact hm.1.symm
theorem Pm {ms:List Mn}(h:PMs ms)(hm:fN ms=true):ux ms=true:=by
 unfold fN at hm;split at hm
 ·rename_i e he;obtain⟨r,e1⟩:=mi he;subst e1;obtain⟨tx,e2,_⟩:=h.pop.2;subst e2;rfl
 ·cases hm
section
variable{P:sr}{w:World}{K:bo}{mg:Str->Option Value}{base:Heap}{A:Adr}
theorem JX (T:Txt w.params K mg A){i:Nat}:a7 P w K mg base CX0 3 A.EE A.uY ["_law_m","_law_motion"] (RT i):=by
 have Fj:a7 P w K mg base CX0 1 A.Lu A.wq ["_law_m","_law_number"] (LY i):=mY T;refine T.yb.ok uS (λvs H Q E h=>?_) (λcdv A' outer s H vs Q E hr h=>?_)
 ·obtain⟨m,t,c,st,N,d,rfl,_⟩:=h;rfl
 ·obtain⟨m,t,c,st,N,d,rfl,hm,I,hN,hd,hdc,q,qx⟩:=h;obtain⟨aP,aA,aD,aM,ds,ws,es,X⟩:=hm.ex;have hu1:=hr.u1;have jh:=hr.units;have B9:Room 1 _:=hr.mono (by decide)
  refine⟨_,(ai (a4 (i:=2) uS.nd rfl (wt rfl) (aS aU (pv 1) ah (λ_ _=>rfl)))
 (ai (a9 (az vN (aX (DS T) (hr.mono (by decide)) rfl T.Bo T.wF.kp T.Bn .nil a5 (aa (pv 2) af)) (aX (B8 (i:=i) T) hr rfl T.Aw T.wG.kp T.Av .nil a5 (aa (pv 0) af)) (aJ _))
 (aj (aG (bp (aa ao (aa (aX (B8 (i:=i) T) hr rfl T.Aw T.wG.kp T.Av .nil a5 (aa (pv 0) af)) af)))))
 aC)
 (ai (a9 (az xG (pv 2) (bp (aa ao (aa ao (aa ao af)))) rfl)
 (aj (aG ix))
 aC)
 (ai (a9 (PW.pt (pw_or (az (xH jh) (a8 hu1 (pv 0) ao (λ_ _=>rfl)) (bQ af) (aJ _)) (pw_or1 (az yO (aS aU (aX Fj B9 rfl T.kF T.i8.kp T.kD .nil a5 (aa (pv 0) (aa (aS bA (a8 hu1 (pv 0) ao (λ_ _=>rfl)) ah (λ_ _=>rfl)) af))) ah (λ_ _=>rfl)) ao (aJ _)))))
 (aj (aG (bp (aa ao (aa ah af)))))
 aC)
 (ai (a4 (i:=3) uS.nd rfl (wt rfl) (aX Fj B9 rfl T.kF T.i8.kp T.kD .nil a5 (aa (pv 0) (aa (aS bA (a8 hu1 (pv 0) ao (λ_ _=>rfl)) (mr iy ah) (λ_ _=>rfl)) af))))
 (ai (a9 (PW.pt (pw_and (az bt (pv 2) ao (aJ _)) (pw_and1 (PW.pt (pw_or (az yO (aS aU (pv 3) ah (λ_ _=>rfl)) ao (aJ _)) (pw_or1 (az bt (aS aU (aS aU (pv 3) ah (λ_ _=>rfl)) ah (λ_ _=>rfl)) ao (aJ _))))))))
 (aj (aG (bp (aa ao (aa ah af)))))
 aC)
 (ai (a9 (PW.pt (pw_and (az bt (pv 2) ao (aJ _)) (pw_and1 (sv (oj (aX (yw T) (hr.mono (by decide)) rfl T.wB T.sV.kp T.wA .nil a5 (aa (aX (vo T) (hr.mono (by decide)) rfl T.ur T.pU.kp T.uq .nil a5 (aa (aS aU (aS aU (pv 3) ah (λ_ _=>rfl)) ah (λ_ _=>rfl)) af)) (aa (aS aU (pv 1) ah (λ_ _=>rfl)) af))))))))
 (aj (aG (bp (aa ao (aa ah af)))))
 aC)
 (ai (a9 (PW.pt (pw_and (az bt (pv 2) ao (aJ _)) (pw_and1 (sv (oj (aX (yw T) (hr.mono (by decide)) rfl T.wB T.sV.kp T.wA .nil a5 (aa (aS aU (aX Fj B9 rfl T.kF T.i8.kp T.kD .nil a5 (aa (pv 0) (aa (aS bA (a8 hu1 (pv 0) ao (λ_ _=>rfl)) ah (λ_ _=>rfl)) af))) ah (λ_ _=>rfl)) (aa (aS aU (pv 1) ah (λ_ _=>rfl)) af))))))))
 (aj (aG (bp (aa ao (aa ah af)))))
 aC)
 (ai (a9 (PW.pt (pw_and (az bt (pv 2) ao (aJ _)) (pw_and1 (az vN (aS aU (pv 1) ah (λ_ _=>rfl)) (a8 hu1 (pv 0) ao (λ_ _=>rfl)) (aJ _)))))
 (aj (aG (bp (aa ao (aa (a8 hu1 (pv 0) ao (λ_ _=>rfl)) af)))))
 aC)
 (aj (aG ix))))))))))),?_⟩
  try dsimp only[bG]
  refine aQ λGq gq=>?_
  obtain⟨v,ht,hv0,hv1⟩:=w5 hd hdc;have hmk:=Fg (N:=N) hd;refine gq ?_;generalize eQ d=mn at ht hv0 hv1 hmk q qx;refine ixv rfl (SqT.of ht.2) dS ?_;refine⟨_,rfl,mn.k,mn.k8,rfl,λH1 s1=>?_⟩
  refine⟨_,rfl,m,c,st,rfl,(X.same s1).at,I.bP,λH2 s2=>?_⟩
  have s12:=s1.trans s2;refine⟨_,_,rfl,rfl,_,rfl,fG (λz=>?_) (λz=>?_)⟩
  ·have z':(mn.k:Int)<=oH st.closed (st.au.map st.mo):=of_decide_eq_true z;refine⟨_,rfl,m,c,st,rfl,(X.same s12).at,I.bP,λH3 s3=>⟨(sl 2),λu hu=>?_⟩⟩
   refine qx (.tH (oH st.closed (st.au.map st.mo))) (by unfold js uy;rw[if_pos z']) u _ ((s12.trans s3).new hu) (same_none (s12.trans s3) hu) ae
  have z':¬(mn.k:Int)<=oH st.closed (st.au.map st.mo):=λy=>z (decide_eq_true y)
  refine⟨_,rfl,(sl 3),λt3 ht3=>?_⟩
  have s3:=s12.new (o:=.tup [V.str (ar "matter"),V.str (ar "rest"),V.str (ar "point")]) ht3;refine⟨t3,_,rfl,.inr (SqT.of ae),rfl,rfl,_,rfl,?_⟩;have ein:(if false=true then !inV (V.str (nm mn.k)) [V.str (ar "matter"),V.str (ar "rest"),V.str (ar "point")] else inV (V.str (nm mn.k)) [V.str (ar "matter"),V.str (ar "rest"),V.str (ar "point")])=decide (mn.k=0\/mn.k=6\/mn.k=7):=by
   have:∀k,k < 8->inV (V.str (nm k)) [V.str (ar "matter"),V.str (ar "rest"),V.str (ar "point")]=decide (k=0\/k=6\/k=7):=by trivial
   exact this _ mn.k8
  rw[ein];generalize upd H2 t3 (.tup [V.str (ar "matter"),V.str (ar "rest"),V.str (ar "point")])=H3 at s3 ⊢;clear ht3 ein s12 s2 s1 z
  by_cases MB:mn.k=0\/mn.k=6\/mn.k=7
  ·refine qX (decide_eq_true MB) (q ?_ H3 s3);have hn:tI (st.au.map st.mo) mn.k=true:=by
    unfold tI;rw[if_neg (by omega),if_neg (by omega)]
   unfold js uy;rw[if_neg z',if_pos hn];cases mn <;> first | rfl | (simp[Mn.k]at MB)
  refine qY (decide_eq_false MB) ?_;have X3:=X.same s3;refine dgv rfl X3.gp ⟨(sl 0),λp4 hp4=>?_⟩
  have s4:=s3.new (o:=.lst []) hp4;have X4:=X.same s4;refine⟨hJ st.au,.list [],kG (SqL.of X4.au.2),oJ (SqL.of ae),kJ _,oI,_,rfl,?_⟩;rw[kH];generalize upd H3 p4 (.lst [])=H4 at s4 X4 ⊢;clear hp4 X3 s3;have ht4:SqT K H4 t (rowOf mn.k v):=SqT.of (s4 _ _ ht.2);have nomat:ux (st.au.map st.mo)=false->js st mn=some .mV:=λhh=>by
   have hn:tI (st.au.map st.mo) mn.k=false:=by
    unfold tI
    by_cases h2:mn.k=2
    ·rw[if_pos h2];cases hmm:fN (st.au.map st.mo) with
     |false=>rfl
     |true=>rw[Pm I.pil hmm]at hh;cases hh
    ·have:=mn.k8;rw[if_neg h2,if_pos (by omega),hh]
   unfold js uy;rw[if_neg z',if_neg (by rw[hn];decide),if_neg (by rw[hh];decide)]
  have say:∀(x:Xc) (z:Str),js st mn=some x->(xcC x).1=z->(xcC x).2=0->∀(Hn:Hp),bu H Hn->∀u,Hn u=none->Q (.ref u) (upd Hn u (.tup [.str z,.int 0])):=λx z hx hz h0 Hn sn u hu=>by
   subst hz;have:=qx x hx u _ (sn.new hu) (same_none sn hu) (ae (o:=.tup [.str (xcC x).1,.int (xcC x).2]));rw[h0]at this;exact this
  cases Ca:st.au with
  |nil =>
   refine dW (dW ⟨(sl 2),λu hu=>?_⟩)
   exact say .mV _ (nomat (by rw[Ca];rfl)) rfl rfl H4 s4 u hu
  |cons b r =>
   refine bZ ?_;have hb:cY st b:=I.bP b (by rw[Ca];exact fe)
   have h0:atI (st.au.map nV) 0=some (nV b):=by rw[Ca];exact dI (j:=0) rfl
   refine⟨_,rfl,dgv rfl X4.gp ⟨aP,_,_,_,rfl,rfl,SqL.of X4.au.2,h0,m,b,c,st,rfl,X4.at,hb,λtb htb=>?_⟩⟩
   obtain⟨vb,hvb⟩:=htb.kind;have hbm:ux (st.au.map st.mo)=decide ((st.mo b).k=0):=by
    have hp:=I.pil;rw[Ca,km]at hp ⊢;exact JW hp
   refine⟨tb,_,_,_,rfl,rfl,SqT.of hvb,dS,rfl,_,rfl,?_⟩;rw[BV _ (st.mo b).k8]
   by_cases hk0:(st.mo b).k=0
   case neg =>
    rw[decide_eq_false hk0]at hbm ⊢;refine dW ⟨(sl 2),λu hu=>?_⟩
    exact say .mV _ (nomat hbm) rfl rfl H4 s4 u hu
   rw[decide_eq_true hk0]at hbm ⊢;refine bZ ?_;refine aQ λGq gq=>?_
   obtain⟨tx,etx⟩:∃tx,st.mo b=.mat tx:=by
    cases hmo:st.mo b with
    |mat tx=>exact⟨tx,rfl⟩
    |_=>rw[hmo]at hk0;simp[Mn.k]at hk0
   obtain⟨pre,n,Pn⟩:∃pre n,st.au=pre++[n]:=by
    rcases akb st.au with e | ⟨pre,n,e⟩
    ·rw[e]at Ca;cases Ca
    ·exact⟨pre,n,by rw[e,akc]⟩
   have hn:cY st n:=I.bP n (by rw[Pn];simp)
   have aba:atI (st.au.map nV) (-1)=some (nV n):=by rw[Pn,kx];exact ic _ _
   have etop:(st.au.map st.mo).getLast?=some (st.mo n):=by rw[Pn,kx];exact akC
   have ahU:∃r',st.au.map st.mo=.mat tx::r':=⟨r.map st.mo,by rw[Ca,km,etx]⟩
   refine gq ?_;refine⟨_,rfl,_,rfl,m,_,rfl,X4.gp,_,rfl,aP,_,_,_,rfl,rfl,SqL.of X4.au.2,aba,m,n,c,st,rfl,X4.at,hn,λtt htt=>?_⟩
   refine aQ λGq gq=>?_
   obtain⟨_,vt,hvt,hvv⟩:=htt;have okn:tI (st.au.map st.mo) mn.k=true->js st mn=kZ st mn:=λhh=>by
    unfold js uy;rw[if_neg z',if_pos hh]
   refine gq ?_;cases mn with
   |mat _=>exact absurd (.inl rfl) MB
   |rst=>exact absurd (.inr (.inl rfl)) MB
   |pnt _=>exact absurd (.inr (.inr rfl)) MB
   |cls =>
    have hx:js st .cls=none:=okn (by show ux _=true;exact hbm)
    exact⟨_,rfl,rfl,tsf (cn 4 (by decide)) (bZ ⟨_,rfl,rfl,tsf (cn 4 (by decide)) (bZ ⟨_,rfl,rfl,tsf (cg 4 (by decide)) (bZ ⟨_,rfl,rfl,tsf (gQ 4 (by decide)) (bZ (q hx H4 s4))⟩)⟩)⟩)⟩
   |lay =>
    have hx:js st .lay=none:=okn (by show ux _=true;exact hbm)
    exact⟨_,rfl,rfl,tsf (cn 5 (by decide)) (bZ ⟨_,rfl,rfl,tsf (cn 5 (by decide)) (bZ ⟨_,rfl,rfl,tsf (cg 5 (by decide)) (bZ ⟨_,rfl,rfl,tsf (gQ 5 (by decide)) (bZ (q hx H4 s4))⟩)⟩)⟩)⟩
   |off u =>
    have hx:js st (.off u)=kZ st (.off u):=okn (by show ux _=true;exact hbm)
    have hv':v=.int u:=hv1 (by simp[Mn.k])
    subst hv';refine⟨_,rfl,rfl,tsf (cn 3 (by decide)) (bZ ⟨_,rfl,rfl,tsf (cn 3 (by decide)) (bZ ⟨_,rfl,rfl,tsf (cg 3 (by decide)) (bZ ⟨_,rfl,rfl,tst (gQ 3 (by decide)) ?_⟩)⟩)⟩)⟩
    refine ixv rfl ht4 rfl (dgv rfl X4.gs ⟨_,_,rfl,rfl,_,rfl,fG (λy=>?_) (λy=>?_)⟩)
    ·have y':u<=st.aT:=of_decide_eq_true y;refine dgv rfl X4.gs ⟨(sl 2),λu2 hu=>?_⟩
     exact qx (.mW st.aT) (by rw[hx];unfold kZ;dsimp only;rw[if_pos y']) u2 _ (s4.new hu) (same_none s4 hu) ae
    ·have y':¬u<=st.aT:=λz=>y (decide_eq_true z)
     exact q (by rw[hx];unfold kZ;dsimp only;rw[if_neg y']) H4 s4
   |chg e =>
    refine aQ λGq gq=>?_
    have hx:js st (.chg e)=kZ st (.chg e):=okn (by show ux _=true;exact hbm)
    obtain⟨te,rfl,hte⟩:=hv1 (by simp[Mn.k])
    obtain⟨r',er'⟩:=ahU;refine gq ?_;refine⟨_,rfl,rfl,tsf (cn 1 (by decide)) (bZ ⟨_,rfl,rfl,tsf (cn 1 (by decide)) (bZ ⟨_,rfl,rfl,tst (cg 1 (by decide)) ?_⟩)⟩)⟩
    refine⟨_,rfl,dgv rfl X4.gp ⟨aP,_,_,_,rfl,rfl,SqL.of X4.au.2,h0,m,b,c,st,rfl,X4.at,hb,λtb2 abb=>?_⟩⟩
    refine aQ λGq gq=>?_
    rw[etx]at abb;obtain⟨_,v2,hv2,L,rfl,hL⟩:=abb;refine gq ?_;refine⟨tb2,_,_,_,rfl,rfl,SqT.of hv2,rfl,ixv rfl ht4 rfl ⟨L,te,_,e,rfl,SqL.of hL.2,bR s4 hte.sq,hmk.ed1 hN,_,rfl,?_⟩⟩;rw[ba];cases hf:d9 tx.length e with
    |true=>exact bZ ⟨_,rfl,rfl,tsf (gQ 1 (by decide)) (bZ (q (by rw[hx];unfold kZ;dsimp only;rw[er'];dsimp only;rw[if_pos hf]) H4 s4))⟩
    |false =>
     refine dW ⟨(sl 2),λu hu=>?_⟩
     exact say .noFit _ (by rw[hx];unfold kZ;dsimp only;rw[er'];dsimp only;rw[if_neg (by rw[hf];decide)]) rfl rfl H4 s4 u hu
   |mnd f =>
    refine aQ λGq gq=>?_
    obtain⟨te,rfl,hte⟩:=hv1 (by simp[Mn.k])
    refine gq ?_;refine⟨_,rfl,rfl,tst (cn 2 (by decide)) (ixv rfl (SqT.of hvt) dS ⟨rfl,_,rfl,?_⟩)⟩
    rw[cg _ (st.mo n).k8];have Gv:fN (st.au.map st.mo)=false->js st (.mnd f)=some .noChange:=λhh=>by
     have hn:tI (st.au.map st.mo) (Mn.mnd f).k=false:=(show fN (st.au.map st.mo)=false from hh)
     unfold js uy;rw[if_neg z',if_neg (by rw[hn];decide),if_pos (by rw[hbm])]
    by_cases h1:(st.mo n).k=1
    case neg =>
     rw[decide_eq_false h1];refine dW (dW ⟨(sl 2),λu hu=>?_⟩)
     refine say .noChange _ (Gv ?_) rfl rfl H4 s4 u hu;unfold fN;rw[etop];cases hmo:st.mo n with
     |chg e=>rw[hmo]at h1;exact absurd rfl h1
     |_=>rfl
    rw[decide_eq_true h1];refine aQ λGq gq=>?_
    obtain⟨e,emo⟩:∃e,st.mo n=.chg e:=by
     cases hmo:st.mo n with
     |chg e=>exact⟨e,rfl⟩
     |_=>rw[hmo]at h1;simp[Mn.k]at h1
    rw[emo]at hvt hvv etop;obtain⟨tc,rfl,htc⟩:=hvv;refine gq ?_;refine bZ (ixv rfl (SqT.of hvt) rfl ⟨tc,_,_,_,rfl,rfl,htc.sq,oE e,rfl,_,rfl,?_⟩);rw[E8]
    by_cases hk1:e.k=1
    ·rw[decide_eq_true hk1];refine dW ⟨(sl 2),λu hu=>?_⟩
     refine say .noChange _ (Gv ?_) rfl rfl H4 s4 u hu;unfold fN;rw[etop];dsimp only;rw[decide_eq_true hk1];rfl
    ·rw[decide_eq_false hk1];have hmo:fN (st.au.map st.mo)=true:=by
      unfold fN;rw[etop];dsimp only;rw[decide_eq_false hk1];rfl
     have hx:js st (.mnd f)=kZ st (.mnd f):=okn (show fN (st.au.map st.mo)=true from hmo)
     have hem:EdB (12+N) e:=by
      have:=I.vj hn;rw[emo]at this;exact this
     have heo:qP e:=hem.ok (by omega)
     refine bZ ⟨_,rfl,rfl,tst (cn 2 (by decide)) (ixv rfl (SqT.of hvt) rfl ⟨tc,_,_,_,rfl,rfl,htc.sq,vd hk1,e.th,rfl,?_,λp1 hp1=>?_⟩)⟩
     ·have:=heo.th.len;have lim:gr=16777216:=by decide
      omega
     have s5:=s4.new (o:=.lst ((R.bj e.th).map V.str)) hp1;have s45:=aB (o:=.lst ((R.bj e.th).map V.str)) hp1;refine ixv rfl (bR s45 ht4) rfl ⟨p1,te,_,f,rfl,SqL.of ae,bR s5 hte.sq,hmk.ed2,_,rfl,?_⟩;rw[ba];cases hf:d9 (R.bj e.th).length f with
     |true=>exact bZ ⟨_,rfl,rfl,tsf (cg 2 (by decide)) (bZ ⟨_,rfl,rfl,tsf (gQ 2 (by decide)) (bZ (q (by rw[hx];unfold kZ;dsimp only;rw[etop];dsimp only;rw[if_pos hf]) _ s5))⟩)⟩
     |false =>
      refine dW ⟨(sl 2),λu hu=>?_⟩
      exact say .noFit _ (by rw[hx];unfold kZ;dsimp only;rw[etop];dsimp only;rw[if_neg (by rw[hf];decide)]) rfl rfl _ s5 u hu
end
theorem bD.Po {α β:Type}{R R':α->β->Prop}:∀ {as:List α} {bs:List β} {j:Nat} {a':α} {b:β},bD R as bs->bs[j]?=some b->(∀k a b',k≠j->as[k]?=some a->R a b'->R' a b')->R' a' b->bD R' (as.set j a') bs
 |_,_,_,_,_,.nil,h,_,_=>by simp at h
 |a::as,b0::bs,0,a',b,.cons h t,hb,hk,hn=>by
  rw[aj8]at hb;cases hb;refine .cons hn ?_;have:∀ {as:List α} {bs:List β} (s:Nat),(∀(k:Nat) a b',as[k]?=some a->R a b'->R' a b')->bD R as bs->bD R' as bs:=by
   intro as bs s f z
   induction z with
   |nil=>exact .nil
   |cons h1 t1 ih=>exact .cons (f 0 _ _ aj8 h1) (ih λk a b' e=>f (k+1) a b' (by rw[akn];exact e))
  exact this 0 (λk x y e=>hk (k+1) x y (by omega) (by rw[akn];exact e)) t
 |a::as,b0::bs,j+1,a',b,.cons h t,hb,hk,hn=>by
  rw[akn]at hb;exact .cons (hk 0 _ _ (by omega) aj8 h) (t.Po hb (λk x y ne e=>hk (k+1) x y (by omega) (by rw[akn];exact e)) hn)
theorem p8 (st:Ch):(iC st).length=st.made.length:=by unfold iC;rw[ba,akN]
theorem Gw {st:Ch}{j:Nat}{x:Ent}(h:(iC st)[j]?=some x):x=hU st (j+1)/\j < st.made.length:=by
 have hj:j < st.made.length:=by rw[<-p8];exact(List.getElem?_eq_some_iff.mp h).1
 have e:=oe (st:=st) (n:=j+1) ⟨by omega,by omega⟩
 rw[Nat.add_sub_cancel]at e;rw[e]at h;exact⟨(ajZ h).symm,hj⟩
theorem Gx {st st':Ch}{n:Nat}(hl:st'.made.length=st.made.length)(hn:cY st n)(h:∀k,cY st k->k≠n->hU st' k=hU st k):iC st'=(iC st).set (n - 1) (hU st' n):=by
 refine List.ext_getElem? λj=>?_
 have h1:=hn.1;have h2:=hn.2
 by_cases hj:j < st.made.length
 ·have e:=oe (st:=st') (n:=j+1) ⟨by omega,by omega⟩
  rw[Nat.add_sub_cancel]at e;rw[e]
  by_cases z:j=n - 1
  ·subst z;rw[List.getElem?_set_self (by rw[p8];omega),show n - 1+1=n by omega]
  ·rw[List.getElem?_set_ne (λy=>z y.symm)]
   have e2:=oe (st:=st) (n:=j+1) ⟨by omega,by omega⟩
   rw[Nat.add_sub_cancel]at e2;rw[e2,h (j+1) ⟨by omega,by omega⟩ (by omega)]
 ·rw[List.getElem?_eq_none (by rw[p8];omega),List.getElem?_eq_none (by rw[ak4,p8];omega)]
theorem Pp {st st':Ch}(hl:st'.made.length=st.made.length+1)(h:∀k,cY st k->hU st' k=hU st k):iC st'=iC st++[hU st' (st.made.length+1)]:=by
 unfold iC;rw[hl,List.range'_concat,kx,Nat.one_mul,Nat.add_comm 1]
 congr 1
 refine ald λk hk=>?_
 rw[ala]at hk;exact h k ⟨hk.1,by omega⟩
theorem Cb {n k:Nat}{e:Ed}:∀ {xs:List (Nat×List Ed)},at1 k (p6 n e xs)=(at1 k xs).map λx=>if x.1=n then (x.1,x.2++[e]) else x
 |[]=>rfl
 |y::xs=>by
  have ih:=Cb (n:=n) (k:=k) (e:=e) (xs:=xs);unfold at1 p6 at ih ⊢;rw[km,akz,akz];have ek:(if y.1=n then (y.1,y.2++[e]) else y).1=y.1:=by split <;> rfl
  rw[ek]
  by_cases z:y.1=k
  ·rw[decide_eq_true z];rfl
  ·rw[decide_eq_false z];exact ih
theorem Pq {st:Ch}{n:Nat}{e:Ed}{x:Nat×List Ed}(h:at1 n st.kept=some x):gv { st with kept:=p6 n e st.kept } n=gv st n++[e]:=by
 unfold gv;show ((at1 n (p6 n e st.kept)).map (·.2)).getD []=_
 rw[Cb,h];have:=(dC h).1;show (if x.1=n then (x.1,x.2++[e]) else x).2=x.2++[e]
 rw[if_pos this]
theorem Gy {st:Ch}{n k:Nat}{e:Ed}(ne:k≠n):gv { st with kept:=p6 n e st.kept } k=gv st k:=by
 unfold gv;show ((at1 k (p6 n e st.kept)).map (·.2)).getD []=_
 rw[Cb];cases h:at1 k st.kept with
 |none=>rfl
 |some x =>
  have:=(dC h).1;show (if x.1=n then (x.1,x.2++[e]) else x).2=x.2
  rw[if_neg (by rw[this];exact ne)]
def Wk (n:Nat):Rl->Bool | .dA m=>decide (m=n) | _=>false
section
variable{i:Nat}{c c':Col}{H H':Hp}{m aP aA aD aM:Addr}{st:Ch}{ds:List Addr}{ws es:List V}
theorem MdX.Pr (X:MdX i c H m st aP aA aD aM ds ws es){n:Nat}(hn:cY st n){mn:Mn}{p t1 t2 k t':Addr}(he:es[n - 1]?=some (.ref p))(hp:LstAt i c H (.dA n) p [.ref t1,.ref t2,.ref k])(ht:MnT c H mn t') :
  Step (Wr i (Wk n)) c c H (upd H p (.lst [.ref t',.ref t2,.ref k]))/\MdX i c (upd H p (.lst [.ref t',.ref t2,.ref k])) m { st with made:=st.made.set (n - 1) mn } aP aA aD aM ds ws es:=by
 have s:Step (Wr i (Wk n)) c c H (upd H p (.lst [.ref t',.ref t2,.ref k])):=Step.upd Wr.nn (Wr.yes hp.1 (decide_eq_true rfl));have kk:=mQ rfl s X.co X.ob;have ee:iC { st with made:=st.made.set (n - 1) mn }=(iC st).set (n - 1) (hU { st with made:=st.made.set (n - 1) mn } n) :=
  Gx (by show (st.made.set (n - 1) mn).length=_;rw[ak4]) hn λk hk ne=>by
   unfold hU;rw[mj hn hk.1 ne rfl];rfl
 refine⟨s,kk.1,kk.2,X.au.kp rfl s,X.aH.kp rfl s,kU (λ_ _=>rfl) s X.wait,X.dec.kp rfl s,jn s X.mS,X.lV.kp rfl s,?_⟩
 rw[ee];refine X.ent.Po he (λj x b ne ex z=>?_) ?_
 ·obtain⟨e1,hj⟩:=Gw ex;have hx:x.1≠n:=by rw[e1];show j+1≠n;omega
  obtain⟨q,t1,t2,k,ts,e,z1,z2,z3,z4,z5⟩:=z;exact⟨q,t1,t2,k,ts,e,z1.kp (decide_eq_false hx) s,z2.step s,λtx ht=>(z3 tx ht).step s,z4.kp rfl s,z5.imp λ_ _ y=>y.step s⟩
 ·obtain⟨v,ev,q,t1',t2',k',ts,e,z1,z2,z3,z4,z5⟩:=X.ent.get (oe hn);rw[he]at ev;cases ev;cases e;have hh:=z1.2;rw[hp.2]at hh;injection hh with hh
  injection hh with hh
  injection hh with h1 hh
  injection hh with h2 hh
  injection hh with h3 hh
  injection h2 with h2
  injection h3 with h3
  subst h2;subst h3;refine⟨p,t',t2,k,ts,rfl,⟨hp.1,ae⟩,?_,λtx ht=>(z3 tx ht).step s,z4.kp rfl s,z5.imp λ_ _ y=>y.step s⟩
  have:(hU { st with made:=st.made.set (n - 1) mn } n).2.1=mn:=BX hn rfl
  rw[this];exact ht.step s
theorem MdX.E9 (X:MdX i c H m st aP aA aD aM ds ws es){n:Nat}(hn:cY st n){e:Ed}{x:Nat×List Ed}(hx:at1 n st.kept=some x){p t1 t2 k t:Addr}{ts:List Addr}(he:es[n - 1]?=some (.ref p))(hp:LstAt i c H (.dA n) p [.ref t1,.ref t2,.ref k])(hk:LstAt i c H (.gO n) k (ts.map V.ref))(ht:TupAt c H t (dH e)) :
  Step (Wr i (LP n)) c c H (upd H k (.lst (ts.map V.ref++[.ref t])))/\MdX i c (upd H k (.lst (ts.map V.ref++[.ref t]))) m { st with kept:=p6 n e st.kept } aP aA aD aM ds ws es:=by
 have s:Step (Wr i (LP n)) c c H (upd H k (.lst (ts.map V.ref++[.ref t]))):=Step.upd Wr.nn (Wr.yes hk.1 (decide_eq_true rfl));have kk:=mQ rfl s X.co X.ob;have ee:iC { st with kept:=p6 n e st.kept }=(iC st).set (n - 1) (hU { st with kept:=p6 n e st.kept } n) :=
  Gx rfl hn λj hj ne=>by
   unfold hU;rw[Gy ne];rfl
 refine⟨s,kk.1,kk.2,X.au.kp rfl s,X.aH.kp rfl s,kU (λ_ _=>rfl) s X.wait,X.dec.kp rfl s,jn s X.mS,X.lV.kp rfl s,?_⟩
 rw[ee];refine X.ent.Po he (λj x b ne ex z=>?_) ?_
 ·obtain⟨e1,hj⟩:=Gw ex;have hx:x.1≠n:=by rw[e1];show j+1≠n;omega
  obtain⟨q,t1,t2,k,ts,e,z1,z2,z3,z4,z5⟩:=z;exact⟨q,t1,t2,k,ts,e,z1.kp rfl s,z2.step s,λtx ht=>(z3 tx ht).step s,z4.kp (decide_eq_false hx) s,z5.imp λ_ _ y=>y.step s⟩
 ·obtain⟨v,ev,q,t1',t2',k',ts',e,z1,z2,z3,z4,z5⟩:=X.ent.get (oe hn);rw[he]at ev;cases ev;cases e;have hh:=z1.2;rw[hp.2]at hh;injection hh with hh
  injection hh with hh
  injection hh with h1 hh
  injection hh with h2 hh
  injection hh with h3 hh
  injection h1 with h1
  injection h2 with h2
  injection h3 with h3
  subst h1;subst h2;subst h3;have e3:ts'.map V.ref=ts.map V.ref:=by
   have:=z4.2;rw[hk.2]at this;injection this with this
   injection this with this
   exact this.symm
  refine⟨p,t1,t2,k,ts'++[t],rfl,z1.kp rfl s,z2.step s,λtx ht=>(z3 tx ht).step s,⟨z4.1,by rw[ae,<-e3,kx];rfl⟩,?_⟩
  show bD _ (gv { st with kept:=p6 n e st.kept } n) (ts'++[t])
  rw[Pq hx];exact(z5.imp λ_ _ y=>y.step s).snoc (ht.step s)
theorem MdX.lU (X:MdX i c H m st aP aA aD aM ds ws es){n:Nat}{u:Int}{t p:Addr}(ht:H t=none)(hp:H p=none)(ntp:p≠t)(hn:n∉st.aH.map (·.1)) :
  ∃c',Step (Wr i Ry) c c' H (upd (upd (upd (upd H t (.tup [.int u,.ref aP])) aA (.dK (putK (aZ ((st.aH.map (·.1)).zip ws)) (kf (n:Int)) (.ref t)))) p (.lst [])) m (.dK (mdF (.int st.aT) (.bl st.closed) (.ref p) (.ref aA) (.ref aD) (.ref aM)))) /\
  MdX i c' (upd (upd (upd (upd H t (.tup [.int u,.ref aP])) aA (.dK (putK (aZ ((st.aH.map (·.1)).zip ws)) (kf (n:Int)) (.ref t)))) p (.lst [])) m (.dK (mdF (.int st.aT) (.bl st.closed) (.ref p) (.ref aA) (.ref aD) (.ref aM)))) m (st.lU n u) p aA aD aM ds (ws++[.ref t]) es:=by
 have nt:∀ {a:Addr} {v:HO},H a=some v->a≠t:=λe=>aI e ht
 have np:∀ {a:Addr} {v:HO},H a=some v->a≠p:=λe=>aI e hp
 have oA:m≠aA:=d5 X.co X.aH.1 (λz=>nomatch z)
 have oP:m≠aP:=d5 X.co X.au.1 (λz=>nomatch z)
 have AP:aA≠aP:=d5 X.aH.1 X.au.1 (λz=>nomatch z)
 have e:=jV (v:=.ref t) hn (vs:=ws) (by rw[ba];exact X.wait.len)
 have hp2:(upd (upd H t (.tup [.int u,.ref aP])) aA (.dK (putK (aZ ((st.aH.map (·.1)).zip ws)) (kf (n:Int)) (.ref t)))) p=none:=by
  rw[aw (np X.aH.2).symm,aw ntp];exact hp
 have x1:ay (ay c t none) p (some (i,.au)) m=some (i,.ob):=by rw[av (np X.ob),av (nt X.ob)];exact X.co
 have x2:ay (ay c t none) p (some (i,.au)) aP=some (i,.au):=by rw[av (np X.au.2),av (nt X.au.2)];exact X.au.1
 have x3:ay c t none aA=some (i,.aH):=by rw[av (nt X.aH.2)];exact X.aH.1
 refine⟨ay (ay (ay c t none) p (some (i,.au))) aP (some (i,.fA n)),?_⟩;have s:Step (Wr i Ry) c (ay (ay (ay c t none) p (some (i,.au))) aP (some (i,.fA n))) H (upd (upd (upd (upd H t (.tup [.int u,.ref aP])) aA (.dK (putK (aZ ((st.aH.map (·.1)).zip ws)) (kf (n:Int)) (.ref t)))) p (.lst [])) m (.dK (mdF (.int st.aT) (.bl st.closed) (.ref p) (.ref aA) (.ref aD) (.ref aM)))) :=
  ((((Step.new Wr.nn ht).trans (Step.upd Wr.nn ⟨.aH,x3,rfl⟩)).trans (Step.new Wr.nn hp2)).trans (Step.upd Wr.nn ⟨.ob,x1,rfl⟩)).trans (Step.role Wr.nn ⟨.au,x2,rfl⟩)
 have k1:ay (ay (ay c t none) p (some (i,.au))) aP (some (i,.fA n)) m=some (i,.ob):=by rw[av oP];exact x1
 have y1:ay (ay (ay c t none) p (some (i,.au))) aP (some (i,.fA n)) aA=some (i,.aH):=by rw[av AP,av (np X.aH.2)];exact x3
 have y2:ay (ay (ay c t none) p (some (i,.au))) aP (some (i,.fA n)) aP=some (i,.fA n):=aW;have y3:ay (ay (ay c t none) p (some (i,.au))) aP (some (i,.fA n)) p=some (i,.au):=by rw[av (np X.au.2).symm,aW]
 have y4:ay (ay (ay c t none) p (some (i,.au))) aP (some (i,.fA n)) t=none:=by rw[av (nt X.au.2).symm,av ntp.symm,aW]
 generalize ay (ay (ay c t none) p (some (i,.au))) aP (some (i,.fA n))=c3 at s k1 y1 y2 y3 y4 ⊢;have z1:(upd (upd (upd (upd H t (.tup [.int u,.ref aP])) aA (.dK (putK (aZ ((st.aH.map (·.1)).zip ws)) (kf (n:Int)) (.ref t)))) p (.lst [])) m (.dK (mdF (.int st.aT) (.bl st.closed) (.ref p) (.ref aA) (.ref aD) (.ref aM)))) aA=some (.dK (aZ (((st.aH++[(n,u,st.au)]).map (·.1)).zip (ws++[.ref t])))):=by rw[aw oA.symm,aw (np X.aH.2),ae,e,kx];rfl
 have z2:(upd (upd (upd (upd H t (.tup [.int u,.ref aP])) aA (.dK (putK (aZ ((st.aH.map (·.1)).zip ws)) (kf (n:Int)) (.ref t)))) p (.lst [])) m (.dK (mdF (.int st.aT) (.bl st.closed) (.ref p) (.ref aA) (.ref aD) (.ref aM)))) aP=some (.lst (st.au.map nV)):=by rw[aw oP.symm,aw (np X.au.2),aw AP.symm,aw (nt X.au.2)];exact X.au.2
 have z3:(upd (upd (upd (upd H t (.tup [.int u,.ref aP])) aA (.dK (putK (aZ ((st.aH.map (·.1)).zip ws)) (kf (n:Int)) (.ref t)))) p (.lst [])) m (.dK (mdF (.int st.aT) (.bl st.closed) (.ref p) (.ref aA) (.ref aD) (.ref aM)))) p=some (.lst []):=by rw[aw (np X.ob).symm,ae]
 have z4:(upd (upd (upd (upd H t (.tup [.int u,.ref aP])) aA (.dK (putK (aZ ((st.aH.map (·.1)).zip ws)) (kf (n:Int)) (.ref t)))) p (.lst [])) m (.dK (mdF (.int st.aT) (.bl st.closed) (.ref p) (.ref aA) (.ref aD) (.ref aM)))) t=some (.tup [.int u,.ref aP]):=by rw[aw (nt X.ob).symm,aw ntp.symm,aw (nt X.aH.2).symm,ae]
 have z5:(upd (upd (upd (upd H t (.tup [.int u,.ref aP])) aA (.dK (putK (aZ ((st.aH.map (·.1)).zip ws)) (kf (n:Int)) (.ref t)))) p (.lst [])) m (.dK (mdF (.int st.aT) (.bl st.closed) (.ref p) (.ref aA) (.ref aD) (.ref aM)))) m=some (.dK (mdF (.int st.aT) (.bl st.closed) (.ref p) (.ref aA) (.ref aD) (.ref aM))):=ae
 generalize upd (upd (upd (upd H t (.tup [.int u,.ref aP])) aA (.dK (putK (aZ ((st.aH.map (·.1)).zip ws)) (kf (n:Int)) (.ref t)))) p (.lst [])) m (.dK (mdF (.int st.aT) (.bl st.closed) (.ref p) (.ref aA) (.ref aD) (.ref aM)))=H5 at s z1 z2 z3 z4 z5 ⊢
 exact⟨s,k1,z5,⟨y3,z3⟩,⟨y1,z1⟩,(kU (λ_ _=>rfl) s X.wait).snoc ⟨t,aP,rfl,⟨y4,.inl z4⟩,y2,z2⟩,X.dec.kp rfl s,jn s X.mS,X.lV.kp rfl s,Gs (λ_ _=>rfl) (λ_ _=>rfl) s X.ent⟩
end
theorem Fl {β:Type}{k:Nat}{y:Nat×β}:∀ {xs:List (Nat×β)},at1 k (xs++[y])=(match at1 k xs with | some x=>some x | none=>if y.1=k then some y else none)
 |[]=>by
  unfold at1;rw[als,akz,List.find?_nil]
  by_cases z:y.1=k
  ·rw[decide_eq_true z,if_pos z]
  ·rw[decide_eq_false z,if_neg z]
 |x::xs=>by
  have ih:=Fl (k:=k) (y:=y) (xs:=xs);unfold at1 at ih ⊢;rw[List.cons_append,akz,akz]
  by_cases z:x.1=k
  ·rw[decide_eq_true z]
  ·rw[decide_eq_false z];exact ih
theorem JY {β:Type}{k:Nat}{xs:List (Nat×β)}(h:k∉xs.map (·.1)):at1 k xs=none:=by
 cases e:at1 k xs with
 |none=>rfl
 |some x =>
  obtain⟨h1,h2⟩:=dC e;exact absurd (List.mem_map.mpr ⟨x,h2,h1⟩) h
theorem Cc {β:Type}{k:Nat}{y:Nat×β}{xs:List (Nat×β)}(h:y.1≠k):at1 k (xs++[y])=at1 k xs:=by
 rw[Fl];cases at1 k xs with
 |some x=>rfl
 |none=>exact if_neg h
theorem zd {β:Type}{k:Nat}{z:β}{xs:List (Nat×β)}(h:k∉xs.map (·.1)):at1 k (xs++[(k,z)])=some (k,z):=by
 rw[Fl,JY h];exact if_pos rfl
def abc:Rl->Bool | .made=>true | .au=>true | _=>false
section
variable{i:Nat}{c c':Col}{H H':Hp}{m aP aA aD aM:Addr}{st:Ch}{ds:List Addr}{ws es:List V}
theorem RU {mn:Mn}{row:Str}{k:Nat}(hk:cY st k):hU (st.moved mn row) k=hU st k:=by
 have h2:=hk.2;have e1:(st.moved mn row).mo k=st.mo k:=BY rfl hk;have e2:gv (st.moved mn row) k=gv st k:=by
  unfold gv;cases mn with
  |mat tx =>
   show ((at1 k (st.kept++[(st.made.length+1,([]:List Ed))])).map (·.2)).getD []=_
   rw[Cc (by show st.made.length+1≠k;omega)]
  |_=>rfl
 have e3:B5 (st.moved mn row) k=B5 st k:=by
  unfold B5;cases mn with
  |mat tx =>
   show (at1 k (st.firsts++[(st.made.length+1,tx)])).map (·.2)=_
   rw[Cc (by show st.made.length+1≠k;omega)]
  |_=>rfl
 unfold hU;rw[e1,e2,e3]
theorem RV {mn:Mn}{row:Str}(hk:st.made.length+1∉st.kept.map (·.1))(hf:st.made.length+1∉st.firsts.map (·.1)):hU (st.moved mn row) (st.made.length+1)=(st.made.length+1,mn,[],(match mn with | .mat tx=>some tx | _=>none)):=by
 have e1:(st.moved mn row).mo (st.made.length+1)=mn:=Fc rfl;unfold hU;rw[e1];cases mn with
 |mat tx =>
  have e2:gv (st.moved (.mat tx) row) (st.made.length+1)=[]:=by
   unfold gv;show ((at1 (st.made.length+1) (st.kept++[(st.made.length+1,([]:List Ed))])).map (·.2)).getD []=_
   rw[zd hk];rfl
  have e3:B5 (st.moved (.mat tx) row) (st.made.length+1)=some tx:=by
   unfold B5;show (at1 (st.made.length+1) (st.firsts++[(st.made.length+1,tx)])).map (·.2)=_
   rw[zd hf];rfl
  rw[e2,e3]
 |_ =>
  unfold gv B5;show (_,_,((at1 (st.made.length+1) st.kept).map (·.2)).getD [],(at1 (st.made.length+1) st.firsts).map (·.2))=_
  rw[JY hk,JY hf];rfl
theorem MdX.moved (X:MdX i c H m st aP aA aD aM ds ws es){mn:Mn}{row:Str}{t k p:Addr}(hk:st.made.length+1∉st.kept.map (·.1))(hf:st.made.length+1∉st.firsts.map (·.1))(ht:MnT c H mn t)(nk:H k=none)(np:H p=none)(nkp:p≠k) :
  ∃c',Step (Wr i abc) c c' H (upd (upd (upd (upd H k (.lst [])) p (.lst [.ref t,.ref t,.ref k])) aM (.lst (es++[.ref p]))) aP (.lst (st.au.map nV++[nV (st.made.length+1)]))) /\
  MdX i c' (upd (upd (upd (upd H k (.lst [])) p (.lst [.ref t,.ref t,.ref k])) aM (.lst (es++[.ref p]))) aP (.lst (st.au.map nV++[nV (st.made.length+1)]))) m (st.moved mn row) aP aA aD aM ds ws (es++[.ref p]):=by
 have ak:∀ {a:Addr} {v:HO},H a=some v->a≠k:=λe=>aI e nk
 have ap:∀ {a:Addr} {v:HO},H a=some v->a≠p:=λe=>aI e np
 have MP:aM≠aP:=d5 X.lV.1 X.au.1 (λz=>nomatch z)
 have hp2:(upd H k (.lst [])) p=none:=(aw nkp).trans np;have x1:ay (ay c k (some (i,.gO (st.made.length+1)))) p (some (i,.dA (st.made.length+1))) aM=some (i,.made):=by rw[av (ap X.lV.2),av (ak X.lV.2)];exact X.lV.1
 have x2:ay (ay c k (some (i,.gO (st.made.length+1)))) p (some (i,.dA (st.made.length+1))) aP=some (i,.au):=by rw[av (ap X.au.2),av (ak X.au.2)];exact X.au.1
 have x3:ay (ay c k (some (i,.gO (st.made.length+1)))) p (some (i,.dA (st.made.length+1))) p=some (i,.dA (st.made.length+1)):=aW;have x4:ay (ay c k (some (i,.gO (st.made.length+1)))) p (some (i,.dA (st.made.length+1))) k=some (i,.gO (st.made.length+1)):=by rw[av nkp.symm,aW]
 refine⟨ay (ay c k (some (i,.gO (st.made.length+1)))) p (some (i,.dA (st.made.length+1))),?_⟩;have s:Step (Wr i abc) c (ay (ay c k (some (i,.gO (st.made.length+1)))) p (some (i,.dA (st.made.length+1)))) H (upd (upd (upd (upd H k (.lst [])) p (.lst [.ref t,.ref t,.ref k])) aM (.lst (es++[.ref p]))) aP (.lst (st.au.map nV++[nV (st.made.length+1)]))) :=
  (((Step.new Wr.nn nk).trans (Step.new Wr.nn hp2)).trans (Step.upd Wr.nn ⟨.made,x1,rfl⟩)).trans (Step.upd Wr.nn ⟨.au,x2,rfl⟩)
 generalize ay (ay c k (some (i,.gO (st.made.length+1)))) p (some (i,.dA (st.made.length+1)))=c3 at s x1 x2 x3 x4 ⊢;have z1:(upd (upd (upd (upd H k (.lst [])) p (.lst [.ref t,.ref t,.ref k])) aM (.lst (es++[.ref p]))) aP (.lst (st.au.map nV++[nV (st.made.length+1)]))) aM=some (.lst (es++[.ref p])):=by rw[aw MP,ae]
 have z2:(upd (upd (upd (upd H k (.lst [])) p (.lst [.ref t,.ref t,.ref k])) aM (.lst (es++[.ref p]))) aP (.lst (st.au.map nV++[nV (st.made.length+1)]))) aP=some (.lst ((st.au++[st.made.length+1]).map nV)):=by rw[ae,kx];rfl
 have z3:(upd (upd (upd (upd H k (.lst [])) p (.lst [.ref t,.ref t,.ref k])) aM (.lst (es++[.ref p]))) aP (.lst (st.au.map nV++[nV (st.made.length+1)]))) p=some (.lst [.ref t,.ref t,.ref k]):=by rw[aw (ap X.au.2).symm,aw (ap X.lV.2).symm,ae]
 have z4:(upd (upd (upd (upd H k (.lst [])) p (.lst [.ref t,.ref t,.ref k])) aM (.lst (es++[.ref p]))) aP (.lst (st.au.map nV++[nV (st.made.length+1)]))) k=some (.lst []):=by rw[aw (ak X.au.2).symm,aw (ak X.lV.2).symm,aw nkp.symm,ae]
 generalize upd (upd (upd (upd H k (.lst [])) p (.lst [.ref t,.ref t,.ref k])) aM (.lst (es++[.ref p]))) aP (.lst (st.au.map nV++[nV (st.made.length+1)]))=H5 at s z1 z2 z3 z4 ⊢;have kk:=mQ rfl s X.co X.ob;refine⟨s,kk.1,kk.2,⟨x2,z2⟩,X.aH.kp rfl s,kU (λ_ _=>rfl) s X.wait,X.dec.kp rfl s,jn s X.mS,⟨x1,z1⟩,?_⟩
 rw[Pp (st:=st) (st':=st.moved mn row) (by show (st.made++[mn]).length=_;rw[me];rfl) λj hj=>RU hj,RV hk hf]
 refine(Gs (λ_ _=>rfl) (λ_ _=>rfl) s X.ent).snoc ⟨p,t,t,k,[],rfl,⟨x3,z3⟩,ht.step s,λtx e=>?_,⟨x4,z4⟩,.nil⟩
 cases mn with
 |mat ty =>
  have e':some ty=some tx:=e;cases e';exact ht.step s
 |_=>cases e
theorem MdX.waitOf (X:MdX i c H m st aP aA aD aM ds ws es){n:Nat}{x:Nat×Int×List Nat}(hx:at1 n st.aH=some x):∃t p,gW (aZ ((st.aH.map (·.1)).zip ws)) (kf (n:Int))=some (.ref t)/\TupAt c H t [.int x.2.1,.ref p]/\LstAt i c H (.fA n) p (x.2.2.map nV):=by
 obtain⟨v,h1,t,p,rfl,h2,h3⟩:=X.wait.val hx;rw[(dC hx).1]at h3;exact⟨t,p,h1,h2,h3⟩
theorem MdX.rA (X:MdX i c H m st aP aA aD aM ds ws es){n:Nat}{p:Addr}{pl:List Nat}(hl:LstAt i c H (.fA n) p (pl.map nV)) :
  ∃c' ws',Step (Wr i (LQ n)) c c' H (upd (upd H aA (.dK (iG (aZ ((st.aH.map (·.1)).zip ws)) (kf (n:Int))))) m (.dK (mdF (.int st.aT) (.bl st.closed) (.ref p) (.ref aA) (.ref aD) (.ref aM)))) /\
  MdX i c' (upd (upd H aA (.dK (iG (aZ ((st.aH.map (·.1)).zip ws)) (kf (n:Int))))) m (.dK (mdF (.int st.aT) (.bl st.closed) (.ref p) (.ref aA) (.ref aD) (.ref aM)))) m (st.rA n pl) p aA aD aM ds ws' es:=by
 have oA:m≠aA:=d5 X.co X.aH.1 (λz=>nomatch z)
 have op:m≠p:=d5 X.co hl.1 (λz=>nomatch z)
 have Ap:aA≠p:=d5 X.aH.1 hl.1 (λz=>nomatch z)
 obtain⟨ws',e1,e2⟩:=X.wait.drop (n:=n);refine⟨ay c p (some (i,.au)),ws',?_⟩;have s:Step (Wr i (LQ n)) c (ay c p (some (i,.au))) H (upd (upd H aA (.dK (iG (aZ ((st.aH.map (·.1)).zip ws)) (kf (n:Int))))) m (.dK (mdF (.int st.aT) (.bl st.closed) (.ref p) (.ref aA) (.ref aD) (.ref aM)))) :=
  ((Step.upd Wr.nn ⟨.aH,X.aH.1,rfl⟩).trans (Step.upd Wr.nn ⟨.ob,X.co,rfl⟩)).trans (Step.role Wr.nn ⟨.fA n,hl.1,decide_eq_true rfl⟩)
 refine⟨s,by rw[av op];exact X.co,ae,⟨aW,by rw[aw op.symm,aw Ap.symm];exact hl.2⟩,⟨by rw[av Ap];exact X.aH.1,by rw[aw oA.symm,ae,e1];rfl⟩,kU (λx hx=>decide_eq_false (of_decide_eq_true (List.mem_filter.mp hx).2)) s e2,X.dec.kp rfl s,jn s X.mS,X.lV.kp rfl s,Gs (λ_ _=>rfl) (λ_ _=>rfl) s X.ent⟩
end
def Wl (i:Nat):Sp:=λvs H Q _=>∃(m t:Addr) (c:Col) (st:Ch) (mn:Mn) (N:Nat),vs=[.ref m,.ref t]/\jt i c H m st/\MnT c H mn t/\Inv N st/\N<=900/\za (st.au.map st.mo) mn/\MOk N mn /\
 ∀c' H',Step (d8 i) c c' H H'->jt i c' H' m (st.carry mn)->Q .non H'
theorem in2:∀k,k < 8->(if false=true then !inV (V.str (nm k)) [V.str (ar "put off"),V.str (ar "lay")] else inV (V.str (nm k)) [V.str (ar "put off"),V.str (ar "lay")])=decide (k=3\/k=5):=by trivial
section
variable{P:sr}{w:World}{K:bo}{mg:Str->Option Value}{base:Heap}{A:Adr}
set_option maxHeartbeats 4000000 in
theorem MC (T:Txt w.params K mg A){i:Nat}:a7 P w K mg base CX0 2 A.JF A.xZ ["_law_m","_law_motion"] (Wl i):=by
 refine T.Bp.ok jI (λvs H Q E h=>?_) (λcdv A' outer s H vs Q E hr h=>?_)
 ·obtain⟨m,t,c,st,mn,N,rfl,_⟩:=h;rfl
 ·obtain⟨m,t,c,st,mn,N,rfl,hm,hmt,I,hN,wZ,CI,q⟩:=h;obtain⟨aP,aA,aD,aM,ds,ws,es,X⟩:=hm.ex;have hu1:=hr.u1;have jh:=hr.units;have sz:gr=16777216:=by decide
  refine⟨_,(ai (a9 (az bt (aS aU (pv 1) ah (λ_ _=>rfl)) ao (aJ _))
 (ai (a4 (i:=2) jI.nd rfl (wt rfl) (aS bA (a8 hu1 (pv 0) ao (λ_ _=>rfl)) (bc oo (aS bA (a8 hu1 (pv 0) ao (λ_ _=>rfl)) ah (λ_ _=>rfl)) ah) (λ_ _=>rfl)))
 (ai (AD (bp (aa ao (aa (aX (yx T) hr rfl T.wD T.sW.kp T.wC .nil a5 (aa (aS aU (aS bA (pv 2) ah (λ_ _=>rfl)) ah (λ_ _=>rfl)) (aa (aS aU (pv 1) ah (λ_ _=>rfl)) af))) af))) (IV (pv 2) ah set_list))
 (aj (bJ (gw rf aj4 aj5 dn (aS bA (pv 2) ah (λ_ _=>rfl)) (aa (aS aU (pv 1) ah (λ_ _=>rfl)) af))))))
 aC)
 (ai (a9 (az bt (aS aU (pv 1) ah (λ_ _=>rfl)) ao (aJ _))
 (ai (a4 (i:=3) jI.nd rfl (wt rfl) (aS bA (a8 hu1 (pv 0) ao (λ_ _=>rfl)) (bc oo (aS bA (a8 hu1 (pv 0) ao (λ_ _=>rfl)) (mr iy ah) (λ_ _=>rfl)) ah) (λ_ _=>rfl)))
 (ai (AD (aS aU (aS bA (pv 3) ah (λ_ _=>rfl)) ah (λ_ _=>rfl)) (Nx rfl (sx (iW (i:=4) jI.nd rfl (wt rfl)) (sx (iW (i:=5) jI.nd rfl (wt rfl)) (sx (iW (i:=6) jI.nd rfl (wt rfl)) Lg)))))
 (aj (AD (bp (aa ao (aa (bp (aa (pv 4) (aa (pv 5) (aa (gw alf PySem.F.slot_str_join PySem.F.type_str_join Ee ao (aa (aX (yx T) hr rfl T.wD T.sW.kp T.wC .nil a5 (aa (aX (vo T) hr rfl T.ur T.pU.kp T.uq .nil a5 (aa (pv 6) af)) (aa (aS aU (pv 1) ah (λ_ _=>rfl)) af))) af)) af)))) af))) (IV (pv 3) ah set_list)))))
 aC)
 (ai (a9 (az bt (aS aU (pv 1) ah (λ_ _=>rfl)) ao (aJ _))
 (aj (fJ hu1 (pv 0) ao kK rfl))
 aC)
 (ai (a9 (az bt (aS aU (pv 1) ah (λ_ _=>rfl)) ao (aJ _))
 (aj (fJ hu1 (pv 0) ao (bc eh (a8 hu1 (pv 0) ao (λ_ _=>rfl)) ah) rfl))
 aC)
 (aj (a9 (az xG (aS aU (pv 1) ah (λ_ _=>rfl)) (bp (aa ao (aa ao af))) rfl)
 (ai (a4 (i:=7) jI.nd rfl (wt rfl) (aS aU (bc QT (pv 1) (bp (aa (a8 hu1 (pv 0) ao (λ_ _=>rfl)) af))) ah (λ_ _=>rfl)))
 (ai (fJ hu1 (a8 hu1 (pv 0) ao (λ_ _=>rfl)) (aS bA (a8 hu1 (pv 0) ao (λ_ _=>rfl)) ah (λ_ _=>rfl)) (bp (aa (pv 7) (aa (a8 hu1 (pv 0) ao (λ_ _=>rfl)) af))) rfl)
 (aj (fJ hu1 (pv 0) ao (bQ af) rfl))))
 aC)))))),?_⟩
  try dsimp only[bG]
  refine aQ λGq gq=>?_
  have Wm:=hmt;obtain⟨ct,v,hvt,hvv⟩:=hmt;have ht:SqT K H t (rowOf mn.k v):=SqT.of hvt;have lM:=I.lm;have kc:∀ {v0 v1 v2 v3 v4 v5:V},(mdF v0 v1 v2 v3 v4 v5).length < gr:=by intros;show 6 < gr;decide
  refine gq ?_;cases mn with
  |mat tx =>
   refine ixv rfl ht rfl ⟨rfl,tsf (cg 0 (by decide)) (ixv rfl ht rfl ⟨rfl,tsf (cn 0 (by decide)) (ixv rfl ht rfl ⟨rfl,tsf (jo 0 (by decide)) (ixv rfl ht rfl ⟨rfl,tsf (mX 0 (by decide)) (ixv rfl ht rfl ⟨(sl 2),λu hu=>⟨u,_,rfl,.inr (SqT.of ae),rfl,rfl,tsf (in2 0 (by decide)) ?_⟩⟩)⟩)⟩)⟩)⟩
   exact q c _ (Step.same aV (aB hu)) (X.same (aB hu)).at
  |pnt z =>
   refine ixv rfl ht rfl ⟨rfl,tsf (cg 7 (by decide)) (ixv rfl ht rfl ⟨rfl,tsf (cn 7 (by decide)) (ixv rfl ht rfl ⟨rfl,tsf (jo 7 (by decide)) (ixv rfl ht rfl ⟨rfl,tsf (mX 7 (by decide)) (ixv rfl ht rfl ⟨(sl 2),λu hu=>⟨u,_,rfl,.inr (SqT.of ae),rfl,rfl,tsf (in2 7 (by decide)) ?_⟩⟩)⟩)⟩)⟩)⟩
   exact q c _ (Step.same aV (aB hu)) (X.same (aB hu)).at
  |cls =>
   refine ixv rfl ht rfl ⟨rfl,tsf (cg 4 (by decide)) (ixv rfl ht rfl ⟨rfl,tsf (cn 4 (by decide)) (ixv rfl ht rfl ⟨rfl,tst (jo 4 (by decide)) ⟨_,rfl,m,_,rfl,mx.k (k:=tu (ar "closed")) X.ob kc,?_⟩⟩)⟩)⟩
   rw[B3];refine aQ λGq gq=>?_
   obtain⟨s1,X1⟩:=X.attr st.aT true;have ht1:=SqT.of (K:=K) (Wm.step s1.gP).2.choose_spec.1;have ahV:=Wm.step s1.gP;obtain⟨_,v1,hv1,_⟩:=ahV;have ht1:SqT K (upd H m (.dK (mdF (.int st.aT) (.bl true) (.ref aP) (.ref aA) (.ref aD) (.ref aM)))) t (rowOf 4 v1):=SqT.of hv1;refine gq ?_;generalize upd H m (.dK (mdF (.int st.aT) (.bl true) (.ref aP) (.ref aA) (.ref aD) (.ref aM)))=H1 at s1 X1 ht1 ⊢;refine ixv rfl ht1 rfl ⟨rfl,tsf (mX 4 (by decide)) (ixv rfl ht1 rfl ⟨(sl 2),λu hu=>⟨u,_,rfl,.inr (SqT.of ae),rfl,rfl,tsf (in2 4 (by decide)) ?_⟩⟩)⟩
   exact q c _ (s1.gP.trans (Step.same aV (aB hu))) (X1.same (aB hu)).at
  |rst =>
   refine ixv rfl ht rfl ⟨rfl,tsf (cg 6 (by decide)) (ixv rfl ht rfl ⟨rfl,tsf (cn 6 (by decide)) (ixv rfl ht rfl ⟨rfl,tsf (jo 6 (by decide)) (ixv rfl ht rfl ⟨rfl,tst (mX 6 (by decide)) (dgv rfl X.gs ⟨_,_,rfl,rfl,_,rfl,m,_,rfl,mx.k (k:=tu (ar "sitting")) X.ob kc,?_⟩)⟩)⟩)⟩)⟩
   rw[Gr];refine aQ λGq gq=>?_
   obtain⟨s1,X1⟩:=X.attr (st.aT+1) st.closed;obtain⟨_,v1,hv1,_⟩:=Wm.step s1.gP;have ht1:SqT K (upd H m (.dK (mdF (.int (st.aT+1)) (.bl st.closed) (.ref aP) (.ref aA) (.ref aD) (.ref aM)))) t (rowOf 6 v1):=SqT.of hv1;refine gq ?_;dsimp only;generalize upd H m (.dK (mdF (.int (st.aT+1)) (.bl st.closed) (.ref aP) (.ref aA) (.ref aD) (.ref aM)))=H1 at s1 X1 ht1 ⊢;refine ixv rfl ht1 rfl ⟨(sl 2),λu hu=>⟨u,_,rfl,.inr (SqT.of ae),rfl,rfl,tsf (in2 6 (by decide)) ?_⟩⟩
   exact q c _ (s1.gP.trans (Step.same aV (aB hu))) (X1.same (aB hu)).at
  |chg e =>
   refine aQ λGq gq=>?_
   obtain⟨tx,h1,hf⟩:=wZ;obtain⟨k,e1,e2⟩:=O7 h1;have hn:k∈st.au:=by rw[e1];exact fe
   have hno:=I.bP k hn;have htx:=I.vj hno;rw[e2]at htx;have ahN:tx.length<=12+N:=htx.1;obtain⟨x,hx,hxl⟩:=I.keptAt hno (by rw[e2];rfl)
   have e3:st.carry (.chg e)=st.Mw k tx e:=by unfold Ch.carry;rw[e1];dsimp only;rw[e2]
   rw[e3]at q;have O9:EdB (12+N) e:=CI;obtain⟨te,rfl,hte⟩:=hvv;have h0:atI (st.au.map nV) 0=some (nV k):=by rw[e1];rfl
   have h11:=hno.1;obtain⟨w,ev,p,t1,t2,kk,ts,rfl,z1,z2,z3,z4,z5⟩:=X.ent.get (oe hno);have ea:atI es ((k:Int) - 1)=some (.ref p):=by
    rw[show (k:Int) - 1=((k - 1:Nat):Int) by omega]
    exact dI ev
   have z1':LstAt i c H (.dA k) p [.ref t1,.ref t2,.ref kk]:=z1;have z4':LstAt i c H (.gO k) kk (ts.map V.ref):=z4;have z2':MnT c H (.mat tx) t1:=by
    have:(hU st k).2.1=.mat tx:=e2;rw[this]at z2;exact z2
   obtain⟨_,v1,hv1,L,rfl,hL⟩:=z2';refine gq ?_;refine ixv rfl ht rfl ⟨rfl,tst (cg 1 (by decide)) ?_⟩
   refine dgv rfl X.gm (dgv rfl X.gp ⟨aP,_,_,_,rfl,rfl,SqL.of X.au.2,h0,_,_,rfl,rfl,aM,_,_,_,rfl,rfl,SqL.of X.lV.2,ea,?_⟩);refine ixv rfl (SqL.of z1'.2) rfl ⟨t1,_,_,_,rfl,rfl,SqT.of hv1,rfl,ixv rfl ht rfl ⟨L,te,tx,e,rfl,SqL.of hL.2,by omega,hte.sq,O9.ok (by omega),hf,λpl H1 s1 npl hpl=>⟨(sl 2),λtn htn=>?_⟩⟩⟩
   have s2:=s1.new (o:=.tup [V.str (ar "matter"),.ref pl]) htn;have ntn:H tn=none:=same_none s1 htn;have ntp:pl≠tn:=aI hpl htn;have X2:=X.cl s2;have st2:Step (d8 i) c (bS c H) H (upd H1 tn (.tup [V.str (ar "matter"),.ref pl])):=Step.cl aV s2;have hmn:MnT (bS c H) (upd H1 tn (.tup [V.str (ar "matter"),.ref pl])) (.mat (bE tx e)) tn:=⟨bT ntn,.ref pl,ae,pl,rfl,bT npl,(aw ntp).trans hpl⟩;have w1:=z1'.keep (W:=λ_=>False) id (Step.cl id s2)
   have w4:=z4'.keep (W:=λ_=>False) id (Step.cl id s2)
   have Wn:=hte.step st2;have hv2:=dc st2 ct hvt;generalize bS c H=c2 at X2 st2 hmn w1 w4 Wn hv2;generalize upd H1 tn (.tup [V.str (ar "matter"),.ref pl])=H2 at X2 st2 hmn w1 w4 Wn hv2 ⊢;refine⟨_,rfl,p,_,0,0,rfl,rfl,w1.2,rfl,?_⟩;rw[show [V.ref t1,V.ref t2,V.ref kk].set 0 (V.ref tn)=[V.ref tn,V.ref t2,V.ref kk] from rfl]
   obtain⟨s3,X3⟩:=X2.Pr hno ev w1 hmn;have w1b:LstAt i c2 (upd H2 p (.lst [.ref tn,.ref t2,.ref kk])) (.dA k) p [.ref tn,.ref t2,.ref kk]:=⟨w1.1,ae⟩;have w4b:=w4.kp (p:=Wk k) rfl s3;have abd:=Wn.step s3.gP;have hv3:=dc s3 hv2.1 hv2.2;have hkl:ts.length<=1000:=by
    have h1:=z5.len;have h2:(hU st k).2.2.1=x.2:=by show gv st k=x.2;unfold gv;rw[hx];rfl
    rw[h2]at h1;omega
   have ev3:es[k - 1]?=some (.ref p):=ev;generalize upd H2 p (.lst [.ref tn,.ref t2,.ref kk])=H3 at s3 X3 w1b w4b abd hv3 ⊢;refine ixv rfl (SqL.of w1b.2) rfl ⟨.inl ⟨rfl,_,SqL.of w4b.2⟩,ixv rfl (SqT.of hv3.2) rfl ⟨kk,_,_,rfl,rfl,w4b.2,by rw[ba];omega,?_⟩⟩
   obtain⟨s4,X4⟩:=X3.E9 (n:=k) (e:=e) (x:=x) ⟨hno.1,by show k<=(st.made.set _ _).length;rw[ak4];exact hno.2⟩ hx ev3 w1b w4b abd
   have hv4:=dc s4 hv3.1 hv3.2;have fin:=((st2.trans s3.gP).trans s4.gP);generalize upd H3 kk (.lst (ts.map V.ref++[.ref te]))=H4 at s4 X4 hv4 fin ⊢;have ht4:SqT K H4 t (rowOf 1 (.ref te)):=SqT.of hv4.2;refine ixv rfl ht4 rfl ⟨rfl,tsf (cn 1 (by decide)) (ixv rfl ht4 rfl ⟨rfl,tsf (jo 1 (by decide)) (ixv rfl ht4 rfl ⟨rfl,tsf (mX 1 (by decide)) (ixv rfl ht4 rfl ⟨(sl 2),λu hu=>⟨u,_,rfl,.inr (SqT.of ae),rfl,rfl,tsf (in2 1 (by decide)) ?_⟩⟩)⟩)⟩)⟩
   exact q c2 _ (fin.trans (Step.same aV (aB hu))) (X4.same (aB hu)).at
  |mnd f =>
   refine aQ λGq gq=>?_
   obtain⟨tx,e,h1,hk,hf⟩:=wZ;obtain⟨a,b,e1,e2,e3⟩:=RE h1;have hb:b∈st.au:=by rw[e1];exact ky _ fe
   have hno:=I.bP b hb;have he:=I.vj hno;rw[e3]at he;have he':EdB (12+N) e:=he;obtain⟨w1,w2⟩:=he'.words;have e4:st.carry (.mnd f)=st.Mx b e (bE (R.bj e.th) f):=by unfold Ch.carry;rw[e1];show (match st.mo b with | .chg e=>_ | _=>st)=_;rw[e3];rfl
   rw[e4]at q;obtain⟨hf1,w0,hw0,hw1⟩:=CI;have l1:=p7 (R.bj e.th) f;have l2:=R.DA (vm w1 (by rw[hw0];exact hw1):∀w∈bE (R.bj e.th) f,R.oG w)
   have heo:qP e:=he'.ok (by omega)
   obtain⟨te,rfl,hte⟩:=hvv;have h0:atI (st.au.map nV) (-1)=some (nV b):=by rw[e1];exact ic [nV a] (nV b)
   have h11:=hno.1;obtain⟨w,ev,p,t1,t2,kk,ts,rfl,z1,z2,z3,z4,z5⟩:=X.ent.get (oe hno);have ea:atI es ((b:Int) - 1)=some (.ref p):=by
    rw[show (b:Int) - 1=((b - 1:Nat):Int) by omega]
    exact dI ev
   have z1':LstAt i c H (.dA b) p [.ref t1,.ref t2,.ref kk]:=z1;have z2':MnT c H (.chg e) t1:=by
    have:(hU st b).2.1=.chg e:=e3;rw[this]at z2;exact z2
   obtain⟨_,v1,hv1,tc,rfl,htc⟩:=z2';have er:dH e=[V.str (kn e.k),.int e.at_,.str e.th]:=by
    obtain⟨k,a,th⟩:=e;have h3:=heo.k3;dsimp only at h3 hk ⊢;rcases h3 with rfl | rfl | rfl
    ·rfl
    ·exact absurd rfl hk
    ·rfl
   have ahW:SqT K H tc [V.str (kn e.k),.int e.at_,.str e.th]:=by rw[<-er];exact htc.sq
   refine gq ?_;refine ixv rfl ht rfl ⟨rfl,tsf (cg 2 (by decide)) (ixv rfl ht rfl ⟨rfl,tst (cn 2 (by decide)) ?_⟩)⟩
   refine⟨_,rfl,m,_,rfl,X.gm,_,rfl,m,_,rfl,X.gp,_,rfl,aP,_,_,_,rfl,rfl,SqL.of X.au.2,h0,_,_,rfl,rfl,aM,_,_,_,rfl,rfl,SqL.of X.lV.2,ea,?_⟩;refine⟨_,rfl,p,_,_,_,rfl,rfl,SqL.of z1'.2,rfl,t1,_,_,_,rfl,rfl,SqT.of hv1,rfl,tc,[V.str (kn e.k),.int e.at_,.str e.th],rfl,ahW,rfl,?_⟩;refine⟨_,_,rfl,_,_,rfl,_,_,rfl,rfl,?_⟩;refine⟨_,rfl,_,rfl,rfl,_,rfl,e.th,rfl,?_,λp1 hp1=>?_⟩
   ·have:=heo.th.len;omega
   have s1:=aB (o:=.lst ((R.bj e.th).map V.str)) hp1;have hb1:(R.bl1:Str).length=1:=by trivial
   refine ixv rfl (bR s1 ht) rfl ⟨p1,te,R.bj e.th,f,rfl,SqL.of ae,by omega,bR s1 hte.sq,hf1.ok (by omega),hf,λpl H1 s2 npl hpl=>?_⟩
   have s12:=s1.trans s2;refine⟨R.bl1,pl,bE (R.bj e.th) f,rfl,rfl,SqL.of hpl,by rw[hb1];omega,(sl 3),λt3 ht3=>⟨(sl 2),λtn htn=>?_⟩⟩
   have s3:=s12.new (o:=.tup [V.str (kn e.k),.int e.at_,.str (si R.bl1 (bE (R.bj e.th) f))]) ht3;have s4:=s3.new (o:=.tup [V.str (ar "change"),.ref t3]) htn;have nt3:H t3=none:=same_none s12 ht3;have ntn:H tn=none:=same_none s3 htn;have n3n:t3≠tn:=aI ae htn;have er2:dH ⟨e.k,e.at_,si R.bl1 (bE (R.bj e.th) f)⟩=[V.str (kn e.k),.int e.at_,.str (si R.bl1 (bE (R.bj e.th) f))]:=by
    obtain⟨k,a,th⟩:=e;have h3:=heo.k3;dsimp only at h3 hk ⊢;rcases h3 with rfl | rfl | rfl
    ·rfl
    ·exact absurd rfl hk
    ·rfl
   have X2:=X.cl s4;have st2:Step (d8 i) c (bS c H) H _:=Step.cl aV s4;have hmn:MnT (bS c H) (upd (upd H1 t3 (.tup [V.str (kn e.k),.int e.at_,.str (si R.bl1 (bE (R.bj e.th) f))])) tn (.tup [V.str (ar "change"),.ref t3])) (.chg ⟨e.k,e.at_,si R.bl1 (bE (R.bj e.th) f)⟩) tn :=
    ⟨bT ntn,.ref t3,ae,t3,rfl,bT nt3,.inl (by rw[aw n3n,ae,er2])⟩
   have w1:=z1'.keep (W:=λ_=>False) id (Step.cl id s4)
   have hv2:=dc st2 ct hvt;generalize bS c H=c2 at X2 st2 hmn w1 hv2;generalize upd (upd H1 t3 (.tup [V.str (kn e.k),.int e.at_,.str (si R.bl1 (bE (R.bj e.th) f))])) tn (.tup [V.str (ar "change"),.ref t3])=H2 at X2 st2 hmn w1 hv2 ⊢;refine⟨_,rfl,p,_,0,0,rfl,rfl,w1.2,rfl,?_⟩;rw[show [V.ref t1,V.ref t2,V.ref kk].set 0 (V.ref tn)=[V.ref tn,V.ref t2,V.ref kk] from rfl]
   obtain⟨s5,X3⟩:=X2.Pr hno ev w1 hmn;have hv3:=dc s5 hv2.1 hv2.2;have fin:=st2.trans s5.gP;generalize upd H2 p (.lst [.ref tn,.ref t2,.ref kk])=H3 at s5 X3 hv3 fin ⊢;have ht3:SqT K H3 t (rowOf 2 (.ref te)):=SqT.of hv3.2;refine ixv rfl ht3 rfl ⟨rfl,tsf (jo 2 (by decide)) (ixv rfl ht3 rfl ⟨rfl,tsf (mX 2 (by decide)) (ixv rfl ht3 rfl ⟨(sl 2),λu hu=>⟨u,_,rfl,.inr (SqT.of ae),rfl,rfl,tsf (in2 2 (by decide)) ?_⟩⟩)⟩)⟩
   exact q c2 _ (fin.trans (Step.same aV (aB hu))) (X3.same (aB hu)).at
  |off u =>
   refine aQ λGq gq=>?_
   obtain⟨⟨tx,r,h1⟩,_⟩:=wZ;obtain⟨k,r',e1,_⟩:=Gk h1;have e3:st.carry (.off u)=st.lU k u:=by unfold Ch.carry;rw[e1]
   rw[e3]at q;have hv':v=.int u:=hvv;subst hv';have hla:=I.la;have hkn:=I.Fd (n:=k) (by rw[e1];exact fe)
   have h0:atI (st.au.map nV) 0=some (nV k):=by rw[e1];exact dI (j:=0) rfl
   refine gq ?_;refine ixv rfl ht rfl ⟨rfl,tsf (cg 3 (by decide)) (ixv rfl ht rfl ⟨rfl,tsf (cn 3 (by decide)) (ixv rfl ht rfl ⟨rfl,tsf (jo 3 (by decide)) (ixv rfl ht rfl ⟨rfl,tsf (mX 3 (by decide)) (ixv rfl ht rfl ⟨(sl 2),λu1 hu1=>⟨u1,_,rfl,.inr (SqT.of ae),rfl,rfl,tst (in2 3 (by decide)) ?_⟩⟩)⟩)⟩)⟩)⟩
   have s1:=aB (o:=.tup [V.str (ar "put off"),V.str (ar "lay")]) hu1;refine⟨_,rfl,dgv rfl (.inl ⟨_,tu (ar "sitting"),.inl (s1 _ _ X.ob),rfl,oa.symm⟩) ⟨(sl 1),λt2 ht2=>?_⟩⟩
   have s2:=s1.new (o:=.tup [V.int st.aT]) ht2;refine⟨t,t2,_,_,rfl,rfl,bR s2 ht,SqT.of ae,akq _ _,(sl 3),λz=>absurd z (akq _ _),λ_ t3 ht3=>?_⟩
   have s3:=s2.new (o:=.tup (rowOf 3 (.int u)++[V.int st.aT])) ht3;refine⟨t3,_,_,_,rfl,rfl,SqT.of ae,rfl,?_⟩;have X3:=X.same s3;refine⟨_,rfl,dgv rfl X3.gp ⟨(sl 2),λt4 ht4=>?_⟩⟩
   have oA:m≠aA:=d5 X.co X.aH.1 (λz=>nomatch z)
   have s4:=aB (o:=.tup [V.int u,.ref aP]) ht4;refine dgv rfl (.inl ⟨_,tu (ar "aside"),.inl (s4 _ _ X3.ob),rfl,yu.symm⟩) (dgv rfl (.inl ⟨_,tu (ar "pile"),.inl (s4 _ _ X3.ob),rfl,tN.symm⟩) ⟨aP,_,_,_,rfl,rfl,SqL.of (s4 _ _ X3.au.2),h0,aA,_,rfl,mx.k (k:=kf (k:Int)) (s4 _ _ X3.aH.2) ?_,?_⟩)
   ·unfold aZ;rw[ba,ak5,ba];omega
   refine⟨(sl 0),λp5 hp5=>?_⟩
   refine aQ λGq gq=>?_
   have npA:p5≠aA:=λz=>by rw[z,ae]at hp5;cases hp5
   have npt:p5≠t4:=λz=>by rw[aw npA,z,ae]at hp5;cases hp5
   have hp1:=hp5;rw[aw npA,aw npt]at hp1;obtain⟨c',s6,X6⟩:=X3.lU (u:=u) ht4 hp1 npt hkn;refine gq ?_;refine⟨_,rfl,m,_,rfl,mx.k (k:=tu (ar "pile")) ((aw (aI X3.ob hp1)).trans ((aw oA).trans (s4 _ _ X3.ob))) kc,?_⟩;rw[B4];exact q c' _ ((Step.same aV s3).trans s6.gP) X6.at
  |lay =>
   refine aQ λGq gq=>?_
   obtain⟨⟨tx,r,h1⟩,_⟩:=wZ;obtain⟨k,r',e1,_⟩:=Gk h1;have e3:st.carry .lay=st.lU k st.aT:=by unfold Ch.carry;rw[e1]
   rw[e3]at q;have hla:=I.la;have hkn:=I.Fd (n:=k) (by rw[e1];exact fe)
   have h0:atI (st.au.map nV) 0=some (nV k):=by rw[e1];exact dI (j:=0) rfl
   refine gq ?_;refine ixv rfl ht rfl ⟨rfl,tsf (cg 5 (by decide)) (ixv rfl ht rfl ⟨rfl,tsf (cn 5 (by decide)) (ixv rfl ht rfl ⟨rfl,tsf (jo 5 (by decide)) (ixv rfl ht rfl ⟨rfl,tsf (mX 5 (by decide)) (ixv rfl ht rfl ⟨(sl 2),λu1 hu1=>⟨u1,_,rfl,.inr (SqT.of ae),rfl,rfl,tst (in2 5 (by decide)) ?_⟩⟩)⟩)⟩)⟩)⟩
   have s1:=aB (o:=.tup [V.str (ar "put off"),V.str (ar "lay")]) hu1;refine⟨_,rfl,dgv rfl (.inl ⟨_,tu (ar "sitting"),.inl (s1 _ _ X.ob),rfl,oa.symm⟩) ⟨(sl 1),λt2 ht2=>?_⟩⟩
   have s2:=s1.new (o:=.tup [V.int st.aT]) ht2;refine⟨t,t2,_,_,rfl,rfl,bR s2 ht,SqT.of ae,akq _ _,(sl 2),λz=>absurd z (akq _ _),λ_ t3 ht3=>?_⟩
   have s3:=s2.new (o:=.tup (rowOf 5 v++[V.int st.aT])) ht3;refine⟨t3,_,_,_,rfl,rfl,SqT.of ae,rfl,?_⟩;have X3:=X.same s3;refine⟨_,rfl,dgv rfl X3.gp ⟨(sl 2),λt4 ht4=>?_⟩⟩
   have oA:m≠aA:=d5 X.co X.aH.1 (λz=>nomatch z)
   have s4:=aB (o:=.tup [V.int st.aT,.ref aP]) ht4;refine dgv rfl (.inl ⟨_,tu (ar "aside"),.inl (s4 _ _ X3.ob),rfl,yu.symm⟩) (dgv rfl (.inl ⟨_,tu (ar "pile"),.inl (s4 _ _ X3.ob),rfl,tN.symm⟩) ⟨aP,_,_,_,rfl,rfl,SqL.of (s4 _ _ X3.au.2),h0,aA,_,rfl,mx.k (k:=kf (k:Int)) (s4 _ _ X3.aH.2) ?_,?_⟩)
   ·unfold aZ;rw[ba,ak5,ba];omega
   refine⟨(sl 0),λp5 hp5=>?_⟩
   refine aQ λGq gq=>?_
   have npA:p5≠aA:=λz=>by rw[z,ae]at hp5;cases hp5
   have npt:p5≠t4:=λz=>by rw[aw npA,z,ae]at hp5;cases hp5
   have hp1:=hp5;rw[aw npA,aw npt]at hp1;obtain⟨c',s6,X6⟩:=X3.lU (u:=st.aT) ht4 hp1 npt hkn;refine gq ?_;refine⟨_,rfl,m,_,rfl,mx.k (k:=tu (ar "pile")) ((aw (aI X3.ob hp1)).trans ((aw oA).trans (s4 _ _ X3.ob))) kc,?_⟩;rw[B4];exact q c' _ ((Step.same aV s3).trans s6.gP) X6.at
end
def yy (c:Col)(H:Hp)(t:Addr)(xs:List V):Prop:=c t=none/\H t=some (.tup xs)
def rD (c:Col)(H:Hp):R.d7->Addr->Prop
 | .mat cs,t=>∃L,yy c H t [.str (ar "matter"),.ref L]/\c L=none/\H L=some (.lst ((cs.map (si R.bl1)).map V.str))
 | .ed m k j ws,t=>∃e,yy c H t [.str (R.kEd m),.ref e]/\TupAt c H e (R.edR k j (si R.bl1 ws))
 | .pt ws,t=>yy c H t [.str (ar "point"),.str (si R.bl1 ws)]
 | .nums kd ns,t=>yy c H t (.str kd::ns.map V.int)
theorem yy.c {i:Nat}{c:Col}{H:Hp}{t:Addr}{xs:List V}(h:yy c H t xs):yo i c H t xs:=⟨by rw[h.1];exact aV,h.2⟩
theorem yy.step {W:Option (Nat×Rl)->Prop}{c c':Col}{H H':Hp}{t:Addr}{xs:List V}(s:Step W c c' H H')(h:yy c H t xs):yy c' H' t xs:=dc s h.1 h.2
theorem rD.step {W:Option (Nat×Rl)->Prop}{c c':Col}{H H':Hp}{t:Addr}(s:Step W c c' H H'):∀ {d:R.d7},rD c H d t->rD c' H' d t
 | .mat _,⟨L,a,b1,b2⟩=>⟨L,a.step s,dc s b1 b2⟩
 | .ed _ _ _ _,⟨e,a,b⟩=>⟨e,a.step s,b.step s⟩
 | .pt _,h=>yy.step s h
 | .nums _ _,h=>yy.step s h
theorem rD.c {i:Nat}{c:Col}{H:Hp}{t:Addr}:∀ {d:R.d7},rD c H d t->rB i c H d t
 | .mat _,⟨L,a,b1,b2⟩=>⟨L,a.c,by rw[b1];exact aV,b2⟩
 | .ed _ _ _ _,⟨e,a,b⟩=>⟨e,a.c,b⟩
 | .pt _,h=>yy.c h
 | .nums _ _,h=>yy.c h
theorem rD.kind {c:Col}{H:Hp}{t:Addr}:∀ {d:R.d7},rD c H d t->∃xs,H t=some (.tup (.str (R.jk d)::xs))
 | .mat _,⟨_,a,_⟩=>⟨_,a.2⟩
 | .ed _ _ _ _,⟨_,a,_⟩=>⟨_,a.2⟩
 | .pt _,h=>⟨_,h.2⟩
 | .nums _ _,h=>⟨_,h.2⟩
def Ch.ended (st:Ch)(pre:List Nat)(n:Nat)(wd:Str):Ch:=(if wd=jy then (st.popped pre n wd).carry (st.mo n) else st.popped pre n wd).opened
def RW (i:Nat):Sp:=λvs H Q _=>∃(m:Addr) (wd:Str) (c:Col) (st:Ch) (N:Nat) (pre:List Nat) (n:Nat),vs=[.ref m,.str wd]/\jt i c H m st/\Inv N st/\N<=800/\st.au=pre++[n]/\ako wd=true /\
 ∀c' H' u,Step (d8 i) c c' H H'->jt i c' H' m (st.ended pre n wd)->c' u=none->H' u=some (.tup [.str (ar "told"),.str wd])->Q (.ref u) H'
theorem jt.rows {i:Nat}{c:Col}{H:Hp}{m:Addr}{st:Ch}{r:List Str}(h:jt i c H m st):jt i c H m { st with rows:=r }:=by
 obtain⟨aP,aA,aD,aM,ds,ws,es,X⟩:=h.ex;exact⟨aP,aA,aD,aM,ds,ws,es,⟨X.co,X.ob,X.au,X.aH,X.wait,X.dec,X.mS,X.lV,X.ent⟩⟩
def rsT:Rs->List V
 | .num n=>[.str (ar "told"),nV n]
 | .txt z=>[.str (ar "told"),.str z]
 | .exc x=>[.str (xcC x).1,.int (xcC x).2]
def Gz (i:Nat)(c:Col)(H:Hp)(m:Addr)(r:Rs×Ch)(Q:VK):Prop:=∀c' H' u,Step (d8 i) c c' H H'->jt i c' H' m r.2->c' u=none->H' u=some (.tup (rsT r.1))->Q (.ref u) H'
def RX (i:Nat):Sp:=λvs H Q _=>∃(m:Addr) (a b:Int) (c:Col) (st:Ch) (N:Nat),vs=[.ref m,.int a,.int b,.int st.cK]/\jt i c H m st/\Inv N st/\N<=800/\(0<=a/\a < 10 ^ 10)/\(0<=b/\b < 10 ^ 10)/\Gz i c H m (kY st a b) Q
def RY (i:Nat):Sp:=λvs H Q _=>∃(m:Addr) (z:Int) (c:Col) (st:Ch) (N:Nat),vs=[.ref m,.int z]/\jt i c H m st/\Inv N st/\N<=800/\-1<=z/\z < 10 ^ 10/\Gz i c H m (stepT st z.toNat) Q
def abe (i:Nat):Sp:=λvs H Q _=>∃(m t:Addr) (c:Col) (st:Ch) (N:Nat) (d:R.d7),vs=[.ref m,.ref t,.int st.cK]/\jt i c H m st/\Inv N st/\N<=800/\uB d/\rD c H d t/\Gz i c H m (fF st d) Q
theorem DT {c:Col}{H:Hp}{u:Addr}{o:HO}{W:Option (Nat×Rl)->Prop}(n:¬W none)(hu:H u=none):Step W c (ay c u none) H (upd H u o)/\ay c u none u=none/\(upd H u o) u=some o:=⟨Step.new n hu,aW,ae⟩
section
variable{P:sr}{w:World}{K:bo}{mg:Str->Option Value}{base:Heap}{A:Adr}
theorem Cd (T:Txt w.params K mg A){i:Nat}:a7 P w K mg base CX0 3 A.EF A.uZ ["_law_m","_law_word_here"] (RW i):=by
 refine T.uu.ok Ba (λvs H Q E h=>?_) (λcdv A' outer s H vs Q E hr h=>?_)
 ·obtain⟨m,wd,c,st,N,pre,n,rfl,_⟩:=h;rfl
 ·obtain⟨m,wd,c,st,N,pre,n,rfl,hm,I,hN,e,hwd,q⟩:=h;obtain⟨aP,aA,aD,aM,ds,ws,es,X⟩:=hm.ex;have hu1:=hr.u1;have jh:=hr.units;have sz:gr=16777216:=by decide
  have kc:∀ {v0 v1 v2 v3 v4 v5:V},(mdF v0 v1 v2 v3 v4 v5).length < gr:=by intros;show 6 < gr;decide
  refine⟨_,(ai (a4 (i:=2) Ba.nd rfl (wt rfl) (NJ rf PySem.F.slot_list_pop PySem.F.type_list_pop NN (a8 hu1 (pv 0) ao (λ_ _=>rfl))))
 (ai (bJ (gw rf aj4 aj5 dn (a8 hu1 (pv 0) ao (λ_ _=>rfl)) (aa (bp (aa (pv 2) (aa (pv 1) af))) af)))
 (ai (a9 (az bt (pv 1) ao (aJ _))
 (aj (bJ (aX (MC (i:=i) T) hr rfl T.F0 T.Bp.kp T.FZ .nil a5 (aa (pv 0) (aa (aX (mY (i:=i) T) (hr.mono (by decide)) rfl T.kF T.i8.kp T.kD .nil a5 (aa (pv 0) (aa (pv 2) af))) af)))))
 aC)
 (ai (a9 (az (xH jh) (a8 hu1 (pv 0) ao (λ_ _=>rfl)) (bQ af) (aJ _))
 (aj (fJ hu1 (pv 0) ao kK rfl))
 aC)
 (aj (aG (bp (aa ao (aa (pv 1) af))))))))),?_⟩
  try dsimp only[bG]
  have hy:(st.au.map nV)[(st.au.map nV).length - 1]?=some (nV n):=by rw[e];simp
  have hdr:(st.au.map nV).dropLast=pre.map nV:=by rw[e,kx];simp
  have oP:m≠aP:=d5 X.co X.au.1 (λz=>nomatch z)
  have DP:aD≠aP:=d5 X.dec.1 X.au.1 (λz=>nomatch z)
  have ld:=I.ld;refine dgv rfl X.gp ⟨.inl ⟨rfl,_,SqL.of X.au.2⟩,aP,_,_,rfl,rfl,X.au.2,hy,?_⟩;rw[hdr];refine dgv rfl (.inl ⟨_,tu (ar "decided"),.inl ((aw oP).trans X.ob),rfl,zb.symm⟩) ⟨.inl ⟨rfl,_,SqL.of ((aw DP).trans X.dec.2)⟩,_,rfl,_,rfl,(sl 2),λt ht=>?_⟩
  obtain⟨s1,X1⟩:=X.pop (n:=n) (wd:=wd) ht;have ntD:aD≠t:=λz=>by rw[<-z,aw DP,X.dec.2]at ht;cases ht
  refine⟨aD,_,_,rfl,rfl,(aw ntD).trans ((aw DP).trans X.dec.2),by rw[ba,<-X.mS.len];omega,?_⟩
  have st1:=s1.gP;generalize ay c t none=c1 at X1 st1;dsimp only[dD];generalize upd (upd (upd H aP (.lst (pre.map nV))) t (.tup [nV n,.str wd])) aD (.lst (ds.map V.ref++[.ref t]))=H1 at X1 st1 ⊢;clear s1 ht hy hdr;obtain⟨I1,wZ⟩:=I.pop e wd hwd;have hn:n∈st.au:=by rw[e];simp
  have hno:=I.bP n hn;have CI:=(I.vj hno).mono (akY N);refine d6 (λσ' H'=>σ'=[some (.ref m),some (.str wd),some (nV n)]/\∃c',Step (d8 i) c c' H H'/\jt i c' H' m (if wd=jy then (st.popped pre n wd).carry (st.mo n) else st.popped pre n wd)) ?r (λN' nN=>?f)
  case f =>
   refine⟨_,rfl,rfl,_,rfl,?_⟩
   by_cases hk:wd=jy
   ·refine qX (decide_eq_true (by rw[hk])) ⟨_,rfl,_,rfl,_,rfl,m,n,c1,_,rfl,X1.at,hno,λtt htt=>?_⟩
    refine⟨m,tt,c1,st.popped pre n wd,st.mo n,N+1,rfl,X1.at,htt,I1,by omega,wZ,CI,λc2 H2 s2 h2=>?_⟩
    refine nN _ _ ⟨rfl,c2,st1.trans s2,?_⟩;rw[if_pos hk];exact h2
   ·refine qY (decide_eq_false (λz=>hk (by injection z))) (nN _ _ ⟨rfl,c1,st1,?_⟩)
    rw[if_neg hk];exact X1.at
  case r =>
   rintro σ2 H2 ⟨rfl,c2,s2,h2⟩;unfold Ch.ended at q;generalize (if wd=jy then (st.popped pre n wd).carry (st.mo n) else st.popped pre n wd)=st2 at h2 q
   refine aQ λGq gq=>?_
   obtain⟨aP2,aA2,aD2,aM2,ds2,ws2,es2,X2⟩:=h2.ex;refine gq ?_;refine d6 (λσ' H'=>σ'=[some (.ref m),some (.str wd),some (nV n)]/\∃c',Step (d8 i) c c' H H'/\jt i c' H' m st2.opened) ?r2 (λN' nN=>?f2)
   case f2 =>
    refine dgv rfl X2.gp ⟨(sl 0),λp hp=>?_⟩
    have s3:=aB (o:=.lst []) hp;have X3:=X2.same s3;refine⟨hJ st2.au,.list [],kG (SqL.of X3.au.2),oJ (SqL.of ae),kJ _,oI,_,rfl,?_⟩;rw[kH];cases ep:st2.au with
    |nil =>
     refine dW ⟨_,rfl,m,_,rfl,mx.k (k:=tu (ar "closed")) X3.ob kc,?_⟩;rw[B3];obtain⟨s4,X4⟩:=X3.attr st2.aT false;refine nN _ _ ⟨rfl,c2,(s2.trans (Step.same aV s3)).trans s4.gP,?_⟩;have e1:st2.opened={ st2 with aT:=st2.aT,closed:=false }:=by unfold Ch.opened;rw[ep,if_pos rfl]
     rw[e1];exact X4.at
    |cons x r =>
     refine bZ (nN _ _ ⟨rfl,c2,s2.trans (Step.same aV s3),?_⟩);have e1:st2.opened=st2:=by unfold Ch.opened;rw[ep,if_neg (akq _ _)];cases st2;cases ep;rfl
     rw[e1];exact X3.at
   case r2 =>
    rintro σ3 H3 ⟨rfl,c3,s3,h3⟩;refine⟨_,rfl,(sl 2),λu hu=>?_⟩
    refine aQ λGq gq=>?_
    obtain⟨a1,a2,a3⟩:=DT (c:=c3) (o:=.tup [V.str (ar "told"),.str wd]) aV hu;refine gq ?_;exact q _ _ u (s3.trans a1) (h3.free (W:=λ_=>False) (λ_=>id) (DT id hu).1) a2 a3
end
theorem RZ (k:Nat)(a b:Int):mO (nd k) a b=(decide (a > b) && (!decide (k=4) || decide (a≥2 * b))):=by
 unfold mO nd
 by_cases h:a<=b
 ·rw[if_pos h,decide_eq_false (show ¬a > b by omega),Bool.false_and]
 ·rw[if_neg h,decide_eq_true (show a > b by omega),Bool.true_and]
  by_cases h4:k=4
  ·rw[if_pos h4,decide_eq_true h4,show decide (ar "two thirds"=Ge)=false by trivial]
   rfl
  ·rw[if_neg h4,decide_eq_false h4,show decide (ar "more"=Ge)=true by trivial]
   rfl
theorem LZ (b:Bool):(jq b=jy)↔b=true:=by
 cases b with
 |true=>exact⟨λ_=>rfl,λ_=>rfl⟩
 |false=>exact⟨λz=>absurd z (by trivial),λz=>nomatch z⟩
theorem Pt {st:Ch}{pre:List Nat}{n:Nat}{b:Bool}{z:Str}:(if b=true then (st.popped pre n (jq b)).carry (st.mo n) else st.popped pre n (jq b)).vi z={ st.ended pre n (jq b) with rows:=(if b=true then (st.popped pre n (jq b)).carry (st.mo n) else st.popped pre n (jq b)).rows++[z] }:=by
 unfold Ch.vi Ch.ended;cases b with
 |true=>rw[if_pos rfl,if_pos ((LZ true).mpr rfl)]
 |false=>rw[if_neg ma,if_neg (λy=>absurd ((LZ false).mp y) ma)]
section
variable{P:sr}{w:World}{K:bo}{mg:Str->Option Value}{base:Heap}{A:Adr}
theorem JZ (T:Txt w.params K mg A){i:Nat}:a7 P w K mg base CX0 4 A.EG A.u0 ["_law_m","_law_ayes","_law_noes","_law_seats_here"] (RX i):=by
 refine T.ye.ok uT (λvs H Q E h=>?_) (λcdv A' outer s H vs Q E hr h=>?_)
 ·obtain⟨m,a,b,c,st,N,rfl,_⟩:=h;rfl
 ·obtain⟨m,a,b,c,st,N,rfl,hm,I,hN,ha,hb,q⟩:=h;obtain⟨aP,aA,aD,aM,ds,ws,es,X⟩:=hm.ex;have hu1:=hr.u1;have jh:=hr.units;refine⟨_,(ai (a9 (az (xH jh) (a8 hu1 (pv 0) ao (λ_ _=>rfl)) (bQ af) (aJ _))
 (aj (aG (bp (aa ao (aa ah af)))))
 aC)
 (ai (a9 (az Fv (bc eh (pv 1) (pv 2)) (pv 3) (aJ _))
 (aj (aG (bp (aa ao (aa ah af)))))
 aC)
 (ai (a4 (i:=4) uT.nd rfl (wt rfl) (nP Fv (pv 1) (pv 2) (aJ _)))
 (ai (a9 (az bt (aS aU (aX (mY (i:=i) T) (hr.mono (by decide)) rfl T.kF T.i8.kp T.kD .nil a5 (aa (pv 0) (aa (aS bA (a8 hu1 (pv 0) ao (λ_ _=>rfl)) (mr iy ah) (λ_ _=>rfl)) af))) ah (λ_ _=>rfl)) ao (aJ _))
 (aj (a4 (i:=4) uT.nd rfl (wt rfl) (Nv (pv 4) (IU (nP S9 (pv 1) (bc xD ah (pv 2)) (aJ _))))))
 aC)
 (aj (aG (aX (Cd (i:=i) T) hr rfl T.yd T.uu.kp T.yc .nil a5 (aa (pv 0) (aa (aS bA (bQ (aa ao (aa ao af))) (cE CV (by rfl) T.ON NQ (aa (pv 4) af)) (λ_ _=>rfl)) af))))))))),?_⟩
  try dsimp only[bG]
  unfold kY at q;refine dgv rfl X.gp ⟨(sl 0),λp hp=>?_⟩
  have s1:=aB (o:=.lst []) hp;have X1:=X.same s1;refine⟨hJ st.au,.list [],kG (SqL.of X1.au.2),oJ (SqL.of ae),kJ _,oI,_,rfl,?_⟩;rw[kH];generalize upd H p (.lst [])=H1 at s1 X1 ⊢;have say:∀(x:Xc) (st':Ch),st'=st->Gz i c H m (.exc x,st') Q->(xcC x).2=0->∀u,H1 u=none->Q (.ref u) (upd H1 u (.tup [.str (xcC x).1,.int 0])):=λx st' est qq h0 u hu=>by
   subst est;have a1:Step (d8 i) c (ay c u none) H (upd H1 u (.tup [.str (xcC x).1,.int 0])):=(Step.same aV s1).trans (Step.new aV hu);refine qq (ay c u none) _ u a1 (X1.free (W:=λ_=>False) (λ_=>id) (Step.new id hu)).at aW ?_
   show (upd H1 u (.tup [.str (xcC x).1,.int 0])) u=some (.tup [.str (xcC x).1,.int (xcC x).2]);rw[h0];exact ae
  rcases akb st.au with e | ⟨pre,n,e⟩
  ·rw[e]at q ⊢;exact dW ⟨(sl 2),λu hu=>say .nothing st rfl q rfl u hu⟩
  ·rw[akc]at e;have gl:st.au.getLast?=some n:=by rw[e];exact akC
   have ed:st.au.dropLast=pre:=by rw[e];exact ak0
   rw[gl]at q;dsimp only at q;rw[ed]at q;refine qY (by rw[e];simp) ?_
   refine⟨_,rfl,_,rfl,_,_,rfl,rfl,_,rfl,_,_,rfl,rfl,_,rfl,fG (λz=>?_) (λz=>?_)⟩
   ·have z':a+b > st.cK:=of_decide_eq_true z;rw[if_pos z']at q;exact⟨(sl 2),λu hu=>say .tooMany st rfl q rfl u hu⟩
   ·have z':¬a+b > st.cK:=λy=>z (decide_eq_true y)
    rw[if_neg z']at q;have hn:=I.bP n (by rw[e];simp)
    have h0:atI (st.au.map nV) (-1)=some (nV n):=by rw[e,kx];exact ic _ _
    refine⟨_,rfl,_,rfl,_,_,rfl,rfl,?_⟩;dsimp only[dD];refine d6 (λσ' H'=>σ'=[some (.ref m),some (.int a),some (.int b),some (.int st.cK),some (.bl (mO (nd (st.mo n).k) a b))]/\H'=H1) ?r (λN' nN=>?f)
    case f =>
     refine⟨_,rfl,_,rfl,m,_,rfl,X1.gp,_,rfl,aP,_,_,_,rfl,rfl,SqL.of X1.au.2,h0,m,n,c,st,rfl,X1.at,hn,λt ht=>?_⟩
     obtain⟨v,hv⟩:=ht.kind;refine⟨t,_,_,_,rfl,rfl,SqT.of hv,dS,rfl,_,rfl,?_⟩;rw[jo _ (st.mo n).k8];have ke:=RZ (st.mo n).k a b
     by_cases h4:(st.mo n).k=4
     ·rw[decide_eq_true h4]at ke ⊢;refine dW ⟨_,rfl,_,rfl,?_⟩
      by_cases hab:a > b
      ·rw[decide_eq_true hab]at ke ⊢;refine dW ⟨_,rfl,_,rfl,_,_,rfl,rfl,.inl ⟨by decide,by decide⟩,_,_,rfl,rfl,nN _ _ ⟨?_,rfl⟩⟩
       rw[ke];rfl
      ·rw[decide_eq_false hab]at ke ⊢;refine bZ (nN _ _ ⟨?_,rfl⟩);rw[ke];rfl
     ·rw[decide_eq_false h4]at ke ⊢;refine bZ (nN _ _ ⟨?_,rfl⟩);rw[ke,Bool.not_false,Bool.true_or,Bool.and_true];rfl
    case r =>
     rintro σ2 H2 ⟨rfl,rfl⟩;generalize mO (nd (st.mo n).k) a b=kb at q;refine⟨_,rfl,(sl 2),λl hl=>?_⟩
     have s2:=aB (o:=.lst [V.str (ar "lost"),.str (ar "kept")]) hl;have hw:atI [V.str (ar "lost"),.str (ar "kept")] (if kb=true then 1 else 0)=some (.str (jq kb)):=by cases kb <;> rfl
     refine⟨_,rfl,.inr ⟨kb,rfl,l,_,_,_,rfl,rfl,SqL.of ae,hw,m,jq kb,c,st,N,pre,n,rfl,(X1.same s2).at,I,hN,e,Az kb,λc' H' u s3 h3 cu hu=>?_⟩⟩
     refine q c' H' u ((Step.same aV (s1.trans s2)).trans s3) ?_ cu hu;show jt i c' H' m ((if kb=true then (st.popped pre n (jq kb)).carry (st.mo n) else st.popped pre n (jq kb)).vi _)
     rw[Pt];exact h3.rows
theorem J0 (T:Txt w.params K mg A){i:Nat}:a7 P w K mg base CX0 3 A.EH A.u3 ["_law_m","_law_number"] (RY i):=by
 refine T.yf.ok uU (λvs H Q E h=>?_) (λcdv A' outer s H vs Q E hr h=>?_)
 ·obtain⟨m,z,c,st,N,rfl,_⟩:=h;rfl
 ·obtain⟨m,z,c,st,N,rfl,hm,I,hN,hz0,hz1,q⟩:=h;obtain⟨aP,aA,aD,aM,ds,ws,es,X⟩:=hm.ex;have hu1:=hr.u1;have jh:=hr.units;have kc:∀ {v0 v1 v2 v3 v4 v5:V},(mdF v0 v1 v2 v3 v4 v5).length < gr:=by intros;show 6 < gr;decide
  refine⟨_,(ai (a9 (az (mw jh) (a8 hu1 (pv 0) ao (λ_ _=>rfl)) (bQ af) (aJ _))
 (aj (aG (bp (aa ao (aa (aX (B8 (i:=i) T) hr rfl T.Aw T.wG.kp T.Av .nil a5 (aa (pv 0) af)) af)))))
 aC)
 (ai (a9 (D3 (ue hu1 (pv 1) (a8 hu1 (pv 0) ao (λ_ _=>rfl))))
 (aj (aG (bp (aa ao (aa ah af)))))
 aC)
 (ai (AD (a8 hu1 (a8 hu1 (pv 0) ao (λ_ _=>rfl)) (pv 1) (λ_ _=>rfl)) (Nx rfl (sx (iW (i:=2) uU.nd rfl (wt rfl)) (sx (iW (i:=3) uU.nd rfl (wt rfl)) Lg))))
 (ai (a9 (az sy (a8 hu1 (pv 0) ao (λ_ _=>rfl)) (pv 2) (aJ _))
 (aj (aG (bp (aa ao (aa (pv 2) af)))))
 aC)
 (ai (bJ (FU (a8 hu1 (pv 0) ao (λ_ _=>rfl)) (pv 1) ⟨rfl,rfl,rfl,rfl⟩))
 (ai (fJ hu1 (pv 0) ao (pv 3) rfl)
 (aj (aG (bp (aa ao (aa (pv 1) af))))))))))),?_⟩
  try dsimp only[bG]
  unfold stepT at q;refine dgv rfl X.gp ⟨(sl 0),λp hp=>?_⟩
  have s1:=aB (o:=.lst []) hp;have X1:=X.same s1;refine⟨hJ st.au,.list [],kG (SqL.of X1.au.2),oJ (SqL.of ae),kJ _,oI,_,rfl,?_⟩;rw[kH];generalize upd H p (.lst [])=H1 at s1 X1 ⊢;cases e:st.au with
  |cons k0 r0 =>
   rw[if_neg (by rw[e];exact akq _ _)]at q
   refine dW ⟨_,rfl,m,c,st,rfl,X1.at,I.bP,λH2 s2=>⟨(sl 2),λu hu=>?_⟩⟩
   have a1:Step (d8 i) c (ay c u none) H _:=(Step.same aV (s1.trans s2)).trans (Step.new (o:=.tup [V.str (ar "bar"),.int (oH st.closed (st.au.map st.mo))]) aV hu);exact q (ay c u none) _ u a1 ((X1.same s2).free (W:=λ_=>False) (λ_=>id) (Step.new id hu)).at aW ae
  |nil =>
   rw[if_pos e]at q;refine bZ ?_;have say:∀(x:Xc),Gz i c H m (.exc x,st) Q->(xcC x).2=0->∀u,H1 u=none->Q (.ref u) (upd H1 u (.tup [.str (xcC x).1,.int 0])):=λx qq h0 u hu=>by
    have a1:Step (d8 i) c (ay c u none) H (upd H1 u (.tup [.str (xcC x).1,.int 0])):=(Step.same aV s1).trans (Step.new aV hu);refine qq (ay c u none) _ u a1 (X1.free (W:=λ_=>False) (λ_=>id) (Step.new id hu)).at aW ?_
    show (upd H1 u (.tup [.str (xcC x).1,.int 0])) u=some (.tup [.str (xcC x).1,.int (xcC x).2]);rw[h0];exact ae
   by_cases hz:z=-1
   ·subst hz;rw[show ((-1:Int).toNat)=0 from rfl,I.no0]at q
    refine⟨_,rfl,dgv rfl X1.ga ⟨aA,_,rfl,.inl ⟨_,kf (-1),.inl X1.aH.2,rfl,rfl⟩,_,rfl,?_⟩⟩;rw[yt];exact dW ⟨(sl 2),λu hu=>say .uw q rfl u hu⟩
   refine aQ λGq gq=>?_
   obtain⟨n,rfl⟩:∃n:Nat,z=(n:Int):=⟨z.toNat,by omega⟩
   rw[Int.toNat_natCast]at q;refine gq ?_;refine⟨_,rfl,dgv rfl X1.ga ⟨aA,_,rfl,.inl ⟨_,kf (n:Int),.inl X1.aH.2,rfl,rfl⟩,_,rfl,?_⟩⟩;cases hx:at1 n st.aH with
   |none =>
    rw[hx]at q;rw[qT (wV hx)];exact dW ⟨(sl 2),λu hu=>say .uw q rfl u hu⟩
   |some x =>
    refine aQ λGq gq=>?_
    rw[hx]at q;dsimp only at q;obtain⟨t,pl,hv,ht,hl⟩:=X1.waitOf hx;refine gq ?_;rw[hv];refine bZ ?_;refine⟨_,rfl,m,_,rfl,X1.ga,_,rfl,aA,_,rfl,.inl ⟨_,kf (n:Int),.inl X1.aH.2,rfl,hv.symm⟩,t,[V.int x.2.1,.ref pl],rfl,ht.sq,rfl,_,_,rfl,_,_,rfl,rfl,?_⟩;refine⟨_,rfl,m,_,rfl,X1.gs,_,rfl,_,_,rfl,rfl,_,rfl,fG (λy=>?_) (λy=>?_)⟩
    ·have y':st.aT < x.2.1:=of_decide_eq_true y;rw[if_pos y']at q;refine⟨_,rfl,(sl 2),λu hu=>?_⟩
     have a1:Step (d8 i) c (ay c u none) H _:=(Step.same aV s1).trans (Step.new (o:=.tup [V.str (ar "not yet"),.int x.2.1]) aV hu);exact q (ay c u none) _ u a1 (X1.free (W:=λ_=>False) (λ_=>id) (Step.new id hu)).at aW ae
    ·have y':¬st.aT < x.2.1:=λz=>y (decide_eq_true z)
     rw[if_neg y']at q;have oA:m≠aA:=d5 X.co X.aH.1 (λz=>nomatch z)
     refine dgv rfl X1.ga ⟨aA,rfl,.inl ⟨_,.inl X1.aH.2⟩,_,rfl,_,kf (n:Int),_,X1.aH.2,rfl,hv,?_⟩;refine⟨_,rfl,_,rfl,m,_,rfl,mx.k (k:=tu (ar "pile")) ((aw oA).trans X1.ob) kc,?_⟩;rw[B4];refine aQ λGq gq=>?_
     obtain⟨c2,ws2,s2,X2⟩:=X1.rA hl;refine gq ?_;generalize upd (upd H1 aA (.dK (iG (aZ ((st.aH.map (·.1)).zip ws)) (kf (n:Int))))) m (.dK (mdF (.int st.aT) (.bl st.closed) (.ref pl) (.ref aA) (.ref aD) (.ref aM)))=H2 at s2 X2 ⊢
     refine⟨_,rfl,(sl 2),λu hu=>?_⟩
     have a1:Step (d8 i) c (ay c2 u none) H _:=((Step.same aV s1).trans s2.gP).trans (Step.new (o:=.tup [V.str (ar "told"),nV n]) aV hu);exact q (ay c2 u none) _ u a1 (X2.free (W:=λ_=>False) (λ_=>id) (Step.new id hu)).at.rows aW ae
end
theorem rD.mnt {c:Col}{H:Hp}{t:Addr}:∀ {d:R.d7},CJ d->rD c H d t->MnT c H (eQ d) t
 | .mat cs,_,⟨L,a,b1,b2⟩=>⟨a.1,.ref L,a.2,L,rfl,b1,b2⟩
 | .ed true k j ws,h,⟨e,a,b⟩=>⟨a.1,.ref e,a.2,e,rfl,by rw[<-Fb h.1];exact b⟩
 | .ed false k j ws,h,⟨e,a,b⟩=>⟨a.1,.ref e,a.2,e,rfl,by rw[<-Fb h.1];exact b⟩
 | .pt ws,_,a=>⟨a.1,.str (si R.bl1 ws),a.2,rfl⟩
 | .nums kd ns,h,a=>by
  rcases qU h.1 with ⟨u,rfl,rfl⟩ | ⟨rfl,rfl⟩ | ⟨rfl,rfl⟩ | ⟨rfl,rfl⟩
  ·rw[eQ,if_pos rfl];exact⟨a.1,.int u,a.2,rfl⟩
  ·rw[eQ,if_neg (by trivial),if_pos rfl]
   exact⟨a.1,.non,a.2,trivial⟩
  ·rw[eQ,if_neg (by trivial),if_neg (by trivial),if_pos rfl]
   exact⟨a.1,.non,a.2,trivial⟩
  ·rw[eQ,if_neg (by trivial),if_neg (by trivial),if_neg (by trivial)]
   exact⟨a.1,.non,a.2,trivial⟩
theorem Pu:∀k,k < 8->decide (V.str (nm k)=V.str (ar "vote"))=false:=by trivial
theorem Pw:∀k,k < 8->decide (V.str (nm k)=V.str (ar "drop"))=false:=by trivial
theorem Px:∀k,k < 8->decide (V.str (nm k)=V.str (ar "take"))=false:=by trivial
theorem J1 {st:Ch}{pre:List Nat}{n:Nat}:st.ended pre n kX=(st.popped pre n kX).opened:=by
 unfold Ch.ended;rw[if_neg (by trivial)]
section
variable{P:sr}{w:World}{K:bo}{mg:Str->Option Value}{base:Heap}{A:Adr}
theorem Py (T:Txt w.params K mg A){i:Nat}:a7 P w K mg base CX0 5 A.Ol A.Bd ["_law_m","_law_deed_here","_law_seats_here"] (abe i):=by
 refine T.EO.ok FX (λvs H Q E h=>?_) (λcdv A' outer s H vs Q E hr h=>?_)
 ·obtain⟨m,t,c,st,N,d,rfl,_⟩:=h;rfl
 ·obtain⟨m,t,c,st,N,d,rfl,hm,I,hN,hd,hz,q⟩:=h;obtain⟨aP,aA,aD,aM,ds,ws,es,X⟩:=hm.ex;have hu1:=hr.u1;have jh:=hr.units;have lim:gr=16777216:=by decide
  refine⟨_,(ai (a9 (az bt (aS aU (pv 1) ah (λ_ _=>rfl)) ao (aJ _))
 (aj (aG (aX (JZ (i:=i) T) hr rfl T.Dm T.ye.kp T.Dl .nil a5 (aa (pv 0) (aa (aS aU (pv 1) ah (λ_ _=>rfl)) (aa (aS aU (pv 1) ah (λ_ _=>rfl)) (aa (pv 2) af)))))))
 aC)
 (ai (a9 (az bt (aS aU (pv 1) ah (λ_ _=>rfl)) ao (aJ _))
 (aj (aG (aX (J0 (i:=i) T) (hr.mono (by decide)) rfl T.Dp T.yf.kp T.Dn .nil a5 (aa (pv 0) (aa (aS aU (pv 1) ah (λ_ _=>rfl)) af)))))
 aC)
 (ai (a9 (az bt (aS aU (pv 1) ah (λ_ _=>rfl)) ao (aJ _))
 (ai (a9 (az (xH jh) (a8 hu1 (pv 0) ao (λ_ _=>rfl)) (bQ af) (aJ _))
 (aj (aG (bp (aa ao (aa ah af)))))
 aC)
 (aj (aG (aX (Cd (i:=i) T) (hr.mono (by decide)) rfl T.yd T.uu.kp T.yc .nil a5 (aa (pv 0) (aa ao af))))))
 aC)
 (ai (a4 (i:=3) FX.nd rfl (wt rfl) (aX (JX (i:=i) T) (hr.mono (by decide)) rfl T.Dk T.yb.kp T.Dj .nil a5 (aa (pv 0) (aa (pv 1) af))))
 (ai (a9 (az Ll (pv 3) ix (aJ _))
 (aj (aG (pv 3)))
 aC)
 (ai (bJ (gw rf aj4 aj5 dn (a8 hu1 (pv 0) ao (λ_ _=>rfl)) (aa (bQ (aa (pv 1) (aa (pv 1) (aa (bQ af) af)))) af)))
 (ai (bJ (gw rf aj4 aj5 dn (a8 hu1 (pv 0) ao (λ_ _=>rfl)) (aa (cD cM (by rfl) T.n5 jC (aa (a8 hu1 (pv 0) ao (λ_ _=>rfl)) af)) af)))
 (aj (aG (bp (aa ao (aa (cD cM (by rfl) T.n5 jC (aa (a8 hu1 (pv 0) ao (λ_ _=>rfl)) af)) af)))))))))))),?_⟩
  try dsimp only[bG]
  cases hd with
  | @Fh a b ha hb =>
   rw[jW]at q;have ht:H t=some (.tup [.str (ar "vote"),.int a,.int b]):=hz.2;refine ixv rfl (SqT.of ht) rfl ⟨rfl,tst (decide_eq_true rfl) ?_⟩;exact⟨_,rfl,ixv rfl (SqT.of ht) rfl (ixv rfl (SqT.of ht) rfl ⟨_,rfl,m,a,b,c,st,N,rfl,hm,I,hN,ha,hb,q⟩)⟩
  |drop =>
   rw[jX]at q;have ht:H t=some (.tup [.str (ar "drop")]):=hz.2;refine ixv rfl (SqT.of ht) rfl ⟨rfl,tsf (by trivial) ?_⟩
   refine ixv rfl (SqT.of ht) rfl ⟨rfl,tsf (by trivial) ?_⟩
   refine ixv rfl (SqT.of ht) rfl ⟨rfl,tst (decide_eq_true rfl) ?_⟩;unfold n8 at q;refine dgv rfl X.gp ⟨(sl 0),λp hp=>?_⟩
   have s1:=aB (o:=.lst []) hp;have X1:=X.same s1;refine⟨hJ st.au,.list [],kG (SqL.of X1.au.2),oJ (SqL.of ae),kJ _,oI,_,rfl,?_⟩;rw[kH];generalize upd H p (.lst [])=H1 at s1 X1 ⊢;rcases akb st.au with e | ⟨pre,n,e⟩
   ·rw[e]at q ⊢;refine dW ⟨(sl 2),λu hu=>?_⟩
    have a1:Step (d8 i) c (ay c u none) H (upd H1 u (.tup [.str (ar "nothing"),.int 0])):=(Step.same aV s1).trans (Step.new aV hu);exact q (ay c u none) _ u a1 (X1.free (W:=λ_=>False) (λ_=>id) (Step.new id hu)).at aW ae
   ·rw[akc]at e;have gl:st.au.getLast?=some n:=by rw[e];exact akC
    have ed:st.au.dropLast=pre:=by rw[e];exact ak0
    rw[gl]at q;dsimp only at q;rw[ed]at q;refine qY (by rw[e];simp) ?_
    refine⟨_,rfl,m,kX,c,st,N,pre,n,rfl,X1.at,I,hN,e,(by trivial),λc' H' u s3 h3 cu hu=>?_⟩
    refine q c' H' u ((Step.same aV s1).trans s3) ?_ cu hu;rw[J1]at h3;exact h3.rows
  | @take z h0 h1 =>
   rw[jY]at q;have ht:H t=some (.tup [.str (ar "take"),.int z]):=hz.2;refine ixv rfl (SqT.of ht) rfl ⟨rfl,tsf (by trivial) ?_⟩
   refine ixv rfl (SqT.of ht) rfl ⟨rfl,tst (decide_eq_true rfl) ?_⟩;exact⟨_,rfl,ixv rfl (SqT.of ht) rfl ⟨m,z,c,st,N,rfl,hm,I,hN,h0,h1,q⟩⟩
  |move hd =>
   rw[jZ hd]at q;have hmn:=hz.mnt hd;obtain⟨v,ht⟩:=hmn.kind;unfold lL at q;refine ixv rfl (SqT.of ht) dS ⟨rfl,tsf (Pu _ (eQ d).k8) ?_⟩;refine ixv rfl (SqT.of ht) dS ⟨rfl,tsf (Px _ (eQ d).k8) ?_⟩;refine ixv rfl (SqT.of ht) dS ⟨rfl,tsf (Pw _ (eQ d).k8) ?_⟩;refine⟨_,rfl,_,rfl,m,t,c,st,N,d,rfl,hm,I,hN,hd,hz.c,λRL H1 s1=>?_,λx hx u H1 s1 nu hu=>?_⟩
   case refine_2 =>
    rw[hx]at q;exact⟨_,rfl,rfl,tst rfl ⟨_,rfl,q (bS c H) H1 u (Step.cl aV s1) (X.cl s1).at (bT nu) hu⟩⟩
   rw[RL]at q;dsimp only at q;refine⟨_,rfl,rfl,tsf rfl ?_⟩;have X1:=X.same s1;have ahX:MnT c H1 (eQ d) t:=hmn.step (W:=λ_=>False) (Step.same id s1)
   have lm:=I.lm;have el:es.length=st.made.length:=by rw[<-X1.ent.len,p8]
   have lp:=I.pil.JU;rw[ba]at lp;have nf:st.made.length+1∉st.uA:=λz=>by
    have:=(List.mem_filter.mp z).1;rw[ala]at this;omega
   have MP:aM≠aP:=d5 X.lV.1 X.au.1 (λz=>nomatch z)
   have oM:m≠aM:=d5 X.co X.lV.1 (λz=>nomatch z)
   refine dgv rfl X1.gm ⟨.inl ⟨rfl,_,SqL.of X1.lV.2⟩,_,rfl,_,rfl,(sl 0),λk hk=>⟨(sl 3),λp hp=>?_⟩⟩
   have npk:p≠k:=λz=>by rw[z,ae]at hp;cases hp
   have hp1:H1 p=none:=by rw[aw npk]at hp;exact hp
   have s2:=(aB (o:=.lst []) hk).new (o:=.lst [.ref t,.ref t,.ref k]) hp;have X2:=X1.same s2;refine⟨aM,es,.ref p,rfl,rfl,X2.lV.2,by omega,?_⟩
   refine aQ λGq gq=>?_
   obtain⟨c',s3,X3⟩:=X1.moved (row:=R.tD d) (by rw[I.kk];exact nf) (by rw[I.ff];exact nf) ahX hk hp1 npk
   refine gq ?_;generalize upd (upd H1 k (.lst [])) p (.lst [.ref t,.ref t,.ref k])=H2 at s2 X2 s3 X3 ⊢;have eln:(((es++[V.ref p]).length:Nat):Int)=((st.made.length+1:Nat):Int):=by rw[me,el];rfl
   refine dgv rfl (.inl ⟨_,tu (ar "pile"),.inl ((aw oM).trans X2.ob),rfl,tN.symm⟩) ⟨.inl ⟨rfl,_,SqL.of ((aw MP.symm).trans X2.au.2)⟩,dgv rfl (.inl ⟨_,tu (ar "motions"),.inl ((aw oM).trans X2.ob),rfl,zc.symm⟩) ⟨aM,_,rfl,.inl (SqL.of ae),?_⟩⟩;refine⟨aP,st.au.map nV,nV (st.made.length+1),rfl,by rw[eln];rfl,(aw MP.symm).trans X2.au.2,by rw[ba];omega,?_⟩
   generalize upd (upd H2 aM (.lst (es++[.ref p]))) aP (.lst (st.au.map nV++[nV (st.made.length+1)]))=H3 at s3 X3 ⊢;refine dgv rfl X3.gm ⟨aM,_,rfl,.inl (SqL.of X3.lV.2),(sl 2),λu hu=>?_⟩
   rw[eln];have a1:Step (d8 i) c (ay c' u none) H (upd H3 u (.tup [V.str (ar "told"),nV (st.made.length+1)])):=((Step.same aV s1).trans s3.gP).trans (Step.new aV hu);exact q (ay c' u none) _ u a1 (X3.free (W:=λ_=>False) (λ_=>id) (Step.new id hu)).at aW ae
theorem Pz (T:Txt w.params K mg A):a7 P w K mg base CX0 1 A.Oi A.Bb [] RQ:=by
 refine T.EN.ok Og (λvs H Q E h=>?_) (λcdv A' outer s H vs Q E hr h=>?_)
 ·obtain⟨rfl,_⟩:=h;rfl
 ·obtain⟨rfl,q⟩:=h;refine⟨_,(aj (aG (Rb (pq ao ah (pq ao kK (pq ao (bQ af) (pq ao kO (pq ao (bQ af) (pq ao (bQ af) Ra)))))) rfl rfl (by decide) (by decide)))),?_⟩
  try dsimp only[bG]
  refineλm h0=>⟨(sl 0),λaP h1=>λaA h2=>⟨(sl 0),λaD h3=>⟨(sl 0),λaM h4=>?_⟩⟩⟩
  have s1:=aB (o:=.dK []) h0;have s2:=aB (o:=.lst []) h1;have s3:=aB (o:=.dK []) h2;have s4:=aB (o:=.lst []) h3;have s5:=aB (o:=.lst []) h4;have n1:=same_none s1 h1;have n2:=same_none (s1.trans s2) h2;have n3:=same_none ((s1.trans s2).trans s3) h3;have n4:=same_none (((s1.trans s2).trans s3).trans s4) h4;have m1:m≠aP:=aI ae h1;have m2:m≠aA:=aI (s2 _ _ ae) h2;have m3:m≠aD:=aI ((s2.trans s3) _ _ ae) h3;have m4:m≠aM:=aI (((s2.trans s3).trans s4) _ _ ae) h4;have p2:aP≠aA:=aI ae h2;have p3:aP≠aD:=aI (s3 _ _ ae) h3;have p4:aP≠aM:=aI ((s3.trans s4) _ _ ae) h4;have q3:aA≠aD:=aI ae h3;have q4:aA≠aM:=aI (s4 _ _ ae) h4;have r4:aD≠aM:=aI ae h4;refine⟨(((s2.trans s3).trans s4).trans s5) _ _ ae,mdF (.int 1) (.bl false) (.ref aP) (.ref aA) (.ref aD) (.ref aM),rfl,(by show 6<=15;decide),?_⟩
  rw[Wj];refine q m _ λi c n=>⟨ay (ay (ay (ay (ay c m (some (i,.ob))) aP (some (i,.au))) aA (some (i,.aH))) aD (some (i,.decided))) aM (some (i,.made)),⟨id,?_,?_,?_⟩,aP,aA,aD,aM,[],[],[],?_⟩
  ·exactλa v e _=>(((((s1.trans s2).trans s3).trans s4).trans s5).own h0) a v e
  ·exactλa v e=>⟨v,(((((s1.trans s2).trans s3).trans s4).trans s5).own h0) a v e⟩
  ·intro a v e _;rw[av (aI e n4),av (aI e n3),av (aI e n2),av (aI e n1),av (aI e h0)]
  ·refine⟨?_,ae,⟨?_,?_⟩,⟨?_,?_⟩,.nil,⟨?_,?_⟩,.nil,⟨?_,?_⟩,.nil⟩
   ·rw[av m4,av m3,av m2,av m1,aW]
   ·rw[av p4,av p3,av p2,aW]
   ·rw[aw m1.symm,aw p4,aw p3,aw p2,ae];rfl
   ·rw[av q4,av q3,aW]
   ·rw[aw m2.symm,aw q4,aw q3,ae];rfl
   ·rw[av r4,aW]
   ·rw[aw m3.symm,aw r4,ae];rfl
   ·rw[aW]
   ·rw[aw m4.symm,ae]
end
def PB:Sp:=λvs H Q _=>∃(c n:Int),vs=[.int c,.int n]/\1<=n/\n<=1000000000/\∀(a b:Int) (t:Addr) (H':Hp),(0<=a/\a < 10 ^ 10)->(0<=b/\b < 10 ^ 10)->bu H H'->H t=none->H' t=some (.tup [.str (ar "vote"),.int a,.int b])->Q (.ref t) H'
def PD (i:Nat):Sp:=λvs H Q _=>∃(m:Addr) (z:Int) (c:Col) (st:Ch) (N:Nat),vs=[.ref m,.int z]/\jt i c H m st/\Inv N st/\∀(j:Int) (H':Hp),0<=j->j < 20->bu H H'->Q (.int j) H'
def PF (i:Nat):Sp:=λvs H Q _=>∃(m:Addr) (z n:Int) (c:Col) (st:Ch) (N:Nat),vs=[.ref m,.int z,.int n]/\jt i c H m st/\Inv N st/\N<=191/\1<=n/\n<=1000000000 /\
 ∀(d:R.d7) (t:Addr) (H':Hp),uB d->rD (bS c H) H' d t->bu H H'->Q (.ref t) H'
theorem R0 {xs:List Int}{j:Int}(h0:0<=j)(h1:j < xs.length)(hx:∀x∈xs,0<=x/\x < 20):∃x:Int,atI (xs.map V.int) j=some (.int x)/\0<=x/\x < 20:=by
 obtain⟨k,rfl⟩:∃k:Nat,j=(k:Int):=⟨j.toNat,by omega⟩
 have hk:k < xs.length:=by omega
 refine⟨xs[k],?_,hx _ (List.getElem_mem hk)⟩;refine dI ?_;rw[aj7,wa hk];rfl
section
variable{P:sr}{w:World}{K:bo}{mg:Str->Option Value}{base:Heap}{A:Adr}
theorem MD (T:Txt w.params K mg A):a7 P w K mg base CX0 1 A.JG A.x5 ["_law_cell","_law_seats_here"] PB:=by
 refine T.Bq.ok pP (λvs H Q E h=>?_) (λcdv A' outer s H vs Q E hr h=>?_)
 ·obtain⟨c,n,rfl,_⟩:=h;rfl
 ·obtain⟨c,n,rfl,n1,n2,q⟩:=h;refine⟨_,(ai (a4 (i:=2) pP.nd rfl (wt rfl) (bc cJ (pv 0) (bc eh (pv 1) ah)))
 (ai (a4 (i:=3) pP.nd rfl (wt rfl) (bc cJ (bc dR (pv 0) ah) (bc oo (bc eh (pv 1) ah) (pv 2))))
 (ai (a9 (az bt (bc cJ (bc dR (pv 0) ah) ah) ah (aJ _))
 (aj (a4 (i:=3) pP.nd rfl (wt rfl) (bc oo (bc eh (bc dR (pv 2) ah) (bc cJ (bc dR (pv 0) ah) ah)) ah)))
 aC)
 (ai (a9 (az bt (bc cJ (bc dR (pv 0) ah) ah) ah (aJ _))
 (aj (a4 (i:=3) pP.nd rfl (wt rfl) (bc eh (bc oo (pv 1) (pv 2)) (bc cJ (bc dR (pv 0) ah) ah))))
 aC)
 (aj (aG (bp (aa ao (aa (pv 2) (aa (cD (ua rfl) (by rfl) T.F8 Ec (aa ah (aa (pv 3) af))) af)))))))))),?_⟩
  try dsimp only[bG]
  have a0:0<=c % (n+1):=ak6 _ (by omega)
  have a1:c % (n+1) < n+1:=akO _ (by omega)
  refine⟨_,rfl,_,rfl,_,_,rfl,rfl,_,_,rfl,rfl,(by show (0:Int) < n+1;omega),?_⟩
  dsimp only[dD];generalize c % (n+1)=a at a0 a1 ⊢;refine⟨_,rfl,_,_,rfl,rfl,⟨by decide,by decide⟩,_,rfl,_,_,rfl,rfl,_,rfl,_,_,rfl,rfl,_,_,rfl,rfl,(by show (0:Int) < n+1 - a;omega),?_⟩
  dsimp only[dD];have b0:0<=c / 7 % (n+1 - a):=ak6 _ (by omega)
  have b1:c / 7 % (n+1 - a) < n+1 - a:=akO _ (by omega)
  generalize c / 7 % (n+1 - a)=b at b0 b1 ⊢;refine d6 (λσ' H'=>H'=H/\∃b:Int,σ'=[some (.int c),some (.int n),some (.int a),some (.int b)]/\-1<=b/\b < 10000000000) ?r (λN' nN=>?f)
  case f =>
   refine⟨_,rfl,_,_,rfl,rfl,⟨by decide,by decide⟩,_,_,rfl,rfl,(by show (0:Int) < 4;decide),rfl,_,rfl,fG (λ_=>?_) (λ_=>?_)⟩
   ·refine⟨_,rfl,_,_,rfl,rfl,⟨by decide,by decide⟩,_,rfl,_,_,rfl,rfl,⟨by decide,by decide⟩,_,_,rfl,rfl,(by show (0:Int) < 3;decide),_,_,rfl,rfl,_,_,rfl,rfl,nN _ _ ⟨rfl,_,rfl,?_,?_⟩⟩
    ·omega
    ·omega
   ·exact nN _ _ ⟨rfl,b,rfl,by omega,by omega⟩
  case r =>
   rintro σ2 H2 ⟨rfl,b,rfl,c0,c1⟩;refine d6 (λσ' H'=>H'=H2/\∃b:Int,σ'=[some (.int c),some (.int n),some (.int a),some (.int b)]/\-1<=b/\b < 10000000000) ?r (λN' nN=>?f)
   case f =>
    refine⟨_,rfl,_,_,rfl,rfl,⟨by decide,by decide⟩,_,_,rfl,rfl,(by show (0:Int) < 16;decide),rfl,_,rfl,fG (λ_=>?_) (λ_=>?_)⟩
    ·refine⟨_,rfl,_,rfl,_,_,rfl,rfl,_,rfl,_,_,rfl,rfl,⟨by decide,by decide⟩,_,_,rfl,rfl,(by show (0:Int) < 2;decide),_,_,rfl,rfl,nN _ _ ⟨rfl,_,rfl,?_,?_⟩⟩
     ·omega
     ·omega
    ·exact nN _ _ ⟨rfl,b,rfl,by omega,by omega⟩
   case r =>
    rintro σ3 H3 ⟨rfl,b,rfl,c0,c1⟩;refine⟨_,rfl,_,rfl,_,_,rfl,(sl 3),λu hu=>?_⟩
    refine q a (if b > 0 then b else 0) u _ ⟨a0,by omega⟩ ⟨?_,?_⟩ (aB hu) hu ae
    ·split <;> omega
    ·split <;> omega
theorem GA (T:Txt w.params K mg A){i:Nat}:a7 P w K mg base CX0 2 A.Be A.sL ["_law_m","_law_way"] (PD i):=by
 refine T.u7.ok yT (λvs H Q E h=>?_) (λcdv A' outer s H vs Q E hr h=>?_)
 ·obtain⟨m,z,c,st,N,rfl,_⟩:=h;rfl
 ·obtain⟨m,z,c,st,N,rfl,hm,I,q⟩:=h;obtain⟨aP,aA,aD,aM,ds,ws,es,X⟩:=hm.ex;have hu1:=hr.u1;have jh:=hr.units;refine⟨_,(ai (a9 (az (xH jh) (a8 hu1 (pv 0) ao (λ_ _=>rfl)) (bQ af) (aJ _))
 (aj (aG (aS bA (bQ (aa ah (aa ah (aa ah (aa ah (aa ah af)))))) (bc cJ (pv 1) ah) (λ_ _=>rfl))))
 aC)
 (ai (a4 (i:=2) yT.nd rfl (wt rfl) (aX (mY (i:=i) T) hr rfl T.kF T.i8.kp T.kD .nil a5 (aa (pv 0) (aa (aS bA (a8 hu1 (pv 0) ao (λ_ _=>rfl)) (mr iy ah) (λ_ _=>rfl)) af))))
 (ai (a9 (az bt (aS aU (pv 2) ah (λ_ _=>rfl)) ao (aJ _))
 (aj (aG (aS bA (bQ (aa ah (aa ah (aa ah (aa ah (aa ah (aa ah (aa ah af)))))))) (bc cJ (pv 1) ah) (λ_ _=>rfl))))
 aC)
 (ai (a9 (PW.pt (pw_and (az bt (aS aU (pv 2) ah (λ_ _=>rfl)) ao (aJ _)) (pw_and1 (az yO (aS aU (aS aU (pv 2) ah (λ_ _=>rfl)) ah (λ_ _=>rfl)) ao (aJ _)))))
 (aj (aG (aS bA (bQ (aa ah (aa ah (aa ah (aa ah (aa ah af)))))) (bc cJ (pv 1) ah) (λ_ _=>rfl))))
 aC)
 (aj (aG (aS bA (bQ (aa ah (aa ah (aa ah (aa ah (aa ah af)))))) (bc cJ (pv 1) ah) (λ_ _=>rfl)))))))),?_⟩
  try dsimp only[bG]
  have say:∀(xs:List Int) (k:Int) (H1:Hp) (p:Addr),bu H H1->H1 p=none->k=(xs.length:Int)->0 < k->(∀x∈xs,0<=x/\x < 20)->∀R:V->Hp->Prop,(∀x:Int,Q (.int x) (upd H1 p (.lst (xs.map V.int)))->R (.int x) (upd H1 p (.lst (xs.map V.int))))->∃x,atI (xs.map V.int) (z % k)=some x/\R x (upd H1 p (.lst (xs.map V.int))):=by
   intro xs k H1 p s1 hp ek hk hx R hR;obtain⟨x,h1,h2,h3⟩:=R0 (j:=z % k) (ak6 _ (by omega)) (by rw[<-ek];exact akO _ hk) hx
   exact⟨_,h1,hR x (q x _ h2 h3 (s1.new hp))⟩
  refine dgv rfl X.gp ⟨(sl 0),λp hp=>?_⟩
  have s1:=aB (o:=.lst []) hp;have X1:=X.same s1;refine⟨hJ st.au,.list [],kG (SqL.of X1.au.2),oJ (SqL.of ae),kJ _,oI,_,rfl,?_⟩;rw[kH];generalize upd H p (.lst [])=H1 at s1 X1 ⊢;rcases akb st.au with e | ⟨pre,n,e⟩
  ·rw[e];refine dW ⟨(sl 5),λp2 hp2=>?_⟩
   refine aQ λGq gq=>?_
   obtain⟨x,h1,h2⟩:=say [0,1,18,10,0] 5 H1 p2 s1 hp2 rfl (by decide) (by decide) (λv H=>Q v H) (λ_ h=>h)
   refine gq ?_;exact⟨_,rfl,_,_,rfl,rfl,(by show (0:Int) < 5;decide),p2,_,_,_,rfl,rfl,SqL.of ae,h1,h2⟩
  rw[akc]at e;have hn:=I.bP n (by rw[e];simp)
  have h0:atI (st.au.map nV) (-1)=some (nV n):=by rw[e,kx];exact ic _ _
  refine qY (by rw[e];simp) ?_
  refine⟨_,rfl,_,rfl,m,_,rfl,X1.gp,_,rfl,aP,_,_,_,rfl,rfl,SqL.of X1.au.2,h0,m,n,c,st,rfl,X1.at,hn,λt ht=>?_⟩
  refine aQ λGq gq=>?_
  obtain⟨_,v,hv,hvv⟩:=ht;refine gq ?_;refine ixv rfl (SqT.of hv) dS ⟨rfl,_,rfl,fG (λ_=>?_) (λ_=>?_)⟩
  ·refine⟨(sl 7),λp2 hp2=>?_⟩
   refine aQ λGq gq=>?_
   obtain⟨x,h1,h2⟩:=say [2,3,4,12,7,9,8] 7 H1 p2 s1 hp2 rfl (by decide) (by decide) (λv H=>Q v H) (λ_ h=>h)
   refine gq ?_;exact⟨_,rfl,_,_,rfl,rfl,(by show (0:Int) < 7;decide),p2,_,_,_,rfl,rfl,SqL.of ae,h1,h2⟩
  refine ixv rfl (SqT.of hv) dS ⟨rfl,_,rfl,?_⟩;rw[cg _ (st.mo n).k8]
  by_cases h1:(st.mo n).k=1
  case neg =>
   rw[decide_eq_false h1];refine bZ (bZ ⟨(sl 5),λp2 hp2=>?_⟩)
   refine aQ λGq gq=>?_
   obtain⟨x,h1,h2⟩:=say [12,13,12,14,15] 5 H1 p2 s1 hp2 rfl (by decide) (by decide) (λv H=>Q v H) (λ_ h=>h)
   refine gq ?_;exact⟨_,rfl,_,_,rfl,rfl,(by show (0:Int) < 5;decide),p2,_,_,_,rfl,rfl,SqL.of ae,h1,h2⟩
  rw[decide_eq_true h1];refine aQ λGq gq=>?_
  obtain⟨e,emo⟩:∃e,st.mo n=.chg e:=by
   cases hmo:st.mo n with
   |chg e=>exact⟨e,rfl⟩
   |_=>rw[hmo]at h1;simp[Mn.k]at h1
  rw[emo]at hv hvv;obtain⟨tc,rfl,htc⟩:=hvv;refine gq ?_;refine dW (ixv rfl (SqT.of hv) rfl ⟨tc,_,_,_,rfl,rfl,htc.sq,oE e,rfl,_,rfl,fG (λ_=>?_) (λ_=>?_)⟩)
  ·refine⟨(sl 5),λp2 hp2=>?_⟩
   refine aQ λGq gq=>?_
   obtain⟨x,h1,h2⟩:=say [5,6,5,12,14] 5 H1 p2 s1 hp2 rfl (by decide) (by decide) (λv H=>Q v H) (λ_ h=>h)
   refine gq ?_;exact⟨_,rfl,_,_,rfl,rfl,(by show (0:Int) < 5;decide),p2,_,_,_,rfl,rfl,SqL.of ae,h1,h2⟩
  ·refine⟨(sl 5),λp2 hp2=>?_⟩
   refine aQ λGq gq=>?_
   obtain⟨x,h1,h2⟩:=say [12,13,12,14,15] 5 H1 p2 s1 hp2 rfl (by decide) (by decide) (λv H=>Q v H) (λ_ h=>h)
   refine gq ?_;exact⟨_,rfl,_,_,rfl,rfl,(by show (0:Int) < 5;decide),p2,_,_,_,rfl,rfl,SqL.of ae,h1,h2⟩
end
theorem abf {N:Nat}{e:Ed}(h:EdB (12+N) e)(hN:N<=800):e.th.length+2<=gr/\(R.bj e.th).length<=900:=by
 have lim:gr=16777216:=by decide
 have h1:=(h.ok (by omega)).th.len
 have h2:=h.words.2;exact⟨by omega,by omega⟩
theorem GB:∀(as:List (Nat×Int×List Nat)) (ws:List V),as.length=ws.length->(aZ ((as.map (·.1)).zip ws)).map (·.1)=(as.map λx=>(x.1:Int)).map kf:=by
 intro as
 induction as with
 |nil=>intro ws _;cases ws <;> rfl
 |cons a as ih =>
  intro ws h;cases ws with
  |nil=>cases h
  |cons w ws =>
   rw[km,cZ,km,ih ws (by simpa using h)]
   rfl
section
variable{P:sr}{w:World}{K:bo}{mg:Str->Option Value}{base:Heap}{A:Adr}
theorem ME (T:Txt w.params K mg A){i:Nat}:a7 P w K mg base CX0 3 A.JH A.x6 ["_law_m","_law_cell","_law_seats_here"] (PF i):=by
 have vp:a7 P w K mg base CX0 2 A.wo A.nS ["_law_cell"] B6:=Gu T;refine T.Bt.ok fh (λvs H Q E h=>?_) (λcdv A' outer s H vs Q E hr h=>?_)
 ·obtain⟨m,z,n,c,st,N,rfl,_⟩:=h;rfl
 ·obtain⟨m,z,n,c,st,N,rfl,hm,I,hN,n1,n2,q⟩:=h;obtain⟨aP,aA,aD,aM,ds,ws,es,X⟩:=hm.ex;have hu1:=hr.u1;have jh:=hr.units;have tO:Room 2 _:=hr;refine⟨_,(ai (a4 (i:=3) fh.nd rfl (wt rfl) (bc cJ (pv 1) ah))
 (ai (a4 (i:=4) fh.nd rfl (Or.inr rfl) (bc dR (pv 1) ah))
 (ai (a9 (az Fv (bc cJ (pv 4) ah) ah (aJ _))
 (aj (a4 (i:=3) fh.nd rfl (wt rfl) (aX (GA (i:=i) T) hr rfl T.Bs T.u7.kp T.Br .nil a5 (aa (pv 0) (aa (pv 3) af)))))
 aC)
 (ai (a4 (i:=4) fh.nd rfl (Or.inr rfl) (bc dR (pv 4) ah))
 (ai (a4 (i:=5) fh.nd rfl (wt rfl) ah)
 (ai (a4 (i:=6) fh.nd rfl (wt rfl) ao)
 (ai (a9 (az (mw jh) (a8 hu1 (pv 0) ao (λ_ _=>rfl)) (bQ af) (aJ _))
 (ai (a4 (i:=7) fh.nd rfl (wt rfl) (aX (mY (i:=i) T) (hr.mono (by decide)) rfl T.kF T.i8.kp T.kD .nil a5 (aa (pv 0) (aa (aS bA (a8 hu1 (pv 0) ao (λ_ _=>rfl)) ah (λ_ _=>rfl)) af))))
 (ai (a4 (i:=8) fh.nd rfl (wt rfl) (aX (mY (i:=i) T) (hr.mono (by decide)) rfl T.kF T.i8.kp T.kD .nil a5 (aa (pv 0) (aa (aS bA (a8 hu1 (pv 0) ao (λ_ _=>rfl)) (mr iy ah) (λ_ _=>rfl)) af))))
 (ai (a9 (az bt (aS aU (pv 7) ah (λ_ _=>rfl)) ao (aJ _))
 (aj (a4 (i:=5) fh.nd rfl (wt rfl) (cD cM (by rfl) T.n5 jC (aa (aS aU (pv 7) ah (λ_ _=>rfl)) af))))
 aC)
 (aj (a9 (PW.pt (pw_and (az bt (aS aU (pv 8) ah (λ_ _=>rfl)) ao (aJ _)) (pw_and1 (az yO (aS aU (aS aU (pv 8) ah (λ_ _=>rfl)) ah (λ_ _=>rfl)) ao (aJ _)))))
 (aj (a4 (i:=6) fh.nd rfl (wt rfl) (aS aU (aS aU (pv 8) ah (λ_ _=>rfl)) ah (λ_ _=>rfl))))
 aC)))))
 aC)
 (ai (a9 (az sy (pv 3) ah (aJ _))
 (aj (aG (bp (aa ao (aa (An (scope:=wk) FY rfl (xB rfl T.Ax (aa (bc cJ (pv 4) ah) af)) (λ_ _ _ _ _=>(aX vp tO rfl T.qN T.mH.kp T.qM .nil a5 (aa (bc eh (bc dR (pv 5) ah) (bc xD ah (pv 0))) af)))) af)))))
 aC)
 (ai (a9 (az sy (pv 3) ah (aJ _))
 (aj (aG (bp (aa ao (aa (aX (DR T) (hr.mono (by decide)) rfl T.Bm T.wz.kp T.Bl .nil a5 (aa (pv 4) (aa (pv 5) (aa (aX vp tO rfl T.qN T.mH.kp T.qM .nil a5 (aa (bc dR (pv 4) ah) af)) af)))) af)))))
 aC)
 (ai (a9 (az sy (pv 3) ah (aJ _))
 (aj (aG (bp (aa ao (aa (aX (DR T) (hr.mono (by decide)) rfl T.Bm T.wz.kp T.Bl .nil a5 (aa (pv 4) (aa (cD cM (by rfl) T.n5 jC (aa (aX (vo T) (hr.mono (by decide)) rfl T.ur T.pU.kp T.uq .nil a5 (aa (pv 6) af)) af)) (aa (aX (DQ T) (hr.mono (by decide)) rfl T.Bk T.wy.kp T.Bj .nil a5 (aa (bc dR (pv 4) ah) af)) af)))) af)))))
 aC)
 (ai (a9 (az bt (pv 3) ah (aJ _))
 (aj (aG (bp (aa ao (aa (cD (ua rfl) (by rfl) T.F8 Ec (aa ah (aa (bc oo (bc eh (a8 hu1 (pv 0) ao (λ_ _=>rfl)) (bc cJ (pv 4) ah)) ah) af))) af)))))
 aC)
 (ai (a9 (az sy (pv 3) ah (aJ _))
 (aj (aG (aS bA (bQ (aa (bp (aa ao af)) (aa (bp (aa ao af)) (aa (bp (aa ao af)) af)))) (bc oo (pv 3) ah) (λ_ _=>rfl))))
 aC)
 (ai (a9 (az bt (pv 3) ah (aJ _))
 (aj (aG (bp (aa ao (aa (aX vp tO rfl T.qN T.mH.kp T.qM .nil a5 (aa (pv 4) af)) af)))))
 aC)
 (ai (a9 (az sy (pv 3) ah (aJ _))
 (aj (aG (bp (aa ao (aa (bc eh ah (bc cJ (pv 4) (pv 2))) (aa ah af))))))
 aC)
 (ai (a9 (az sy (pv 3) ah (aJ _))
 (aj (aG (aX (MD T) (hr.mono (by decide)) rfl T.F3 T.Bq.kp T.F2 .nil a5 (aa (pv 4) (aa (pv 2) af)))))
 aC)
 (ai (a9 (az bt (pv 3) ah (aJ _))
 (aj (aG (bp (aa ao af))))
 aC)
 (ai (a9 (PW.pt (pw_and (az (Rf hu1) (a8 hu1 (pv 0) ao (λ_ _=>rfl)) kO (aJ _)) (pw_and1 (az Fv (bc cJ (pv 4) ah) ah (aJ _)))))
 (aj (aG (bp (aa ao (aa (aS bA (cD (wc hr.hd) (by rfl) T.Bv Dc (aa (a8 hu1 (pv 0) ao (λ_ _=>rfl)) af)) (bc cJ (bc dR (pv 4) ah) (cD C9 (by rfl) T.n5 jC (aa (a8 hu1 (pv 0) ao (λ_ _=>rfl)) af))) (λ_ _=>rfl)) af)))))
 aC)
 (aj (aG (bp (aa ao (aa (bc oo (bc cJ (bc dR (pv 4) ah) (bc eh (cD cM (by rfl) T.n5 jC (aa (a8 hu1 (pv 0) ao (λ_ _=>rfl)) af)) ah)) ah) af)))))))))))))))))))))),?_⟩
  try dsimp only[bG]
  have lim:gr=16777216:=by decide
  have e10:(10:Int) ^ 10=10000000000:=by decide
  refine⟨_,rfl,_,_,rfl,rfl,(by show (0:Int) < 20;decide),_,rfl,_,_,rfl,rfl,⟨by decide,by decide⟩,?_⟩
  dsimp only[dD];have y0:0<=z % 20:=ak6 _ (by decide)
  have y1:z % 20 < 20:=akO _ (by decide)
  generalize z % 20=y at y0 y1 ⊢;generalize z / 20=x;refine d6 (λσ' H'=>∃y:Int,σ'=[some (.ref m),some (.int z),some (.int n),some (.int y),some (.int x),none,none,none,none]/\0<=y/\y < 20/\bu H H') ?r1 (λN' nN=>?f1)
  case f1 =>
   refine⟨_,rfl,_,_,rfl,rfl,(by show (0:Int) < 3;decide),_,_,rfl,rfl,_,rfl,fG (λ_=>?_) (λ_=>?_)⟩
   ·exact⟨_,rfl,_,rfl,m,y,c,st,N,rfl,hm,I,λj H1 j0 j1 s1=>nN _ _ ⟨j,rfl,j0,j1,s1⟩⟩
   ·exact nN _ _ ⟨y,rfl,y0,y1,λ_ _ h=>h⟩
  case r1 =>
  clear y0 y1;rintro σ1 H1 ⟨y,rfl,y0,y1,s1⟩;refine⟨_,rfl,_,_,rfl,rfl,⟨by decide,by decide⟩,?_⟩
  dsimp only[dD];generalize x / 3=x;refine d6 (λσ' H'=>σ'=[some (.ref m),some (.int z),some (.int n),some (.int y),some (.int x),some (.int 1),none,none,none]/\H'=H1) ?ra (λN' nN=>nN _ _ ⟨rfl,rfl⟩)
  case ra =>
  rintro σa Ha ⟨rfl,rfl⟩;refine d6 (λσ' H'=>σ'=[some (.ref m),some (.int z),some (.int n),some (.int y),some (.int x),some (.int 1),some (.str (ar "")),none,none]/\H'=Ha) ?rb (λN' nN=>nN _ _ ⟨rfl,rfl⟩)
  case rb =>
  rintro σb H1 ⟨rfl,rfl⟩;refine d6 (λσ' H'=>∃(k:Int) (cl:Str) (v7 v8:Option V),σ'=[some (.ref m),some (.int z),some (.int n),some (.int y),some (.int x),some (.int k),some (.str cl),v7,v8]/\0<=k/\k<=900/\cl.length+2<=gr/\(R.bj cl).length<=900/\bu H H') ?r2 (λN' nN=>?f2)
  case f2 =>
   have X1:=X.same s1;refine dgv rfl X1.gp ⟨(sl 0),λp hp=>?_⟩
   have s2:=s1.new (o:=.lst []) hp;have X2:=X.same s2;refine⟨hJ st.au,.list [],kG (SqL.of X2.au.2),oJ (SqL.of ae),kJ _,oI,_,rfl,?_⟩;rw[kH];generalize upd H1 p (.lst [])=H2 at s2 X2 ⊢;rcases akb st.au with e | ⟨pre,t,e⟩
   ·rw[e];exact bZ (nN _ _ ⟨1,_,_,_,rfl,by decide,by decide,by trivial,by trivial,s2⟩)
   refine aQ λGq gq=>?_
   rw[akc]at e;obtain⟨b,r,eb⟩:∃b r,st.au=b::r:=by
    cases hp:st.au with
    |nil=>rw[hp]at e;simp at e
    |cons b r=>exact⟨b,r,rfl⟩
   have hb:=I.bP b (by rw[eb];simp)
   have ht:=I.bP t (by rw[e];simp)
   have hA0:atI (st.au.map nV) 0=some (nV b):=by rw[eb];exact dI (j:=0) rfl
   have hA1:atI (st.au.map nV) (-1)=some (nV t):=by rw[e,kx];exact ic _ _
   refine gq ?_;refine qX (by rw[eb];rfl) ?_
   refine⟨_,rfl,dgv rfl X2.gp ⟨aP,_,_,_,rfl,rfl,SqL.of X2.au.2,hA0,m,b,c,st,rfl,X2.at,hb,λtb htb=>?_⟩⟩
   refine⟨_,rfl,_,rfl,m,_,rfl,X2.gp,_,rfl,aP,_,_,_,rfl,rfl,SqL.of X2.au.2,hA1,m,t,c,st,rfl,X2.at,ht,λtt htt=>?_⟩
   refine aQ λGq gq=>?_
   obtain⟨_,vb,hvb,abg⟩:=htb;obtain⟨_,vt,hvt,abh⟩:=htt;refine gq ?_;dsimp only[dD];refine d6 (λσ' H'=>∃(k:Int),σ'=[some (.ref m),some (.int z),some (.int n),some (.int y),some (.int x),some (.int k),some (.str (ar "")),some (.ref tb),some (.ref tt)]/\0<=k/\k<=900/\H'=H2) ?r3 (λN2 nN2=>?f3)
   case f3 =>
    refine ixv rfl (SqT.of hvb) dS ⟨rfl,_,rfl,?_⟩;rw[BV _ (st.mo b).k8]
    by_cases h0:(st.mo b).k=0
    case neg =>
     rw[decide_eq_false h0];exact bZ (nN2 _ _ ⟨1,rfl,by decide,by decide,rfl⟩)
    rw[decide_eq_true h0];refine aQ λGq gq=>?_
    have hmo:=I.vj hb;obtain⟨tx,etx⟩:∃tx,st.mo b=.mat tx:=by
     cases hmo:st.mo b with
     |mat tx=>exact⟨tx,rfl⟩
     |_=>rw[hmo]at h0;simp[Mn.k]at h0
    rw[etx]at hvb abg hmo;obtain⟨L,rfl,hL⟩:=abg;have hl:tx.length<=12+N:=hmo.1;refine gq ?_;refine dW (ixv rfl (SqT.of hvb) rfl ⟨L,_,rfl,.inl (SqL.of hL.2),nN2 _ _ ⟨_,rfl,?_,?_,rfl⟩⟩)
    ·omega
    ·rw[ba];omega
   case r3 =>
   rintro σ3 H3 ⟨k,rfl,k0,k1,rfl⟩;refine ixv rfl (SqT.of hvt) dS ⟨rfl,_,rfl,?_⟩;rw[cg _ (st.mo t).k8]
   by_cases h1:(st.mo t).k=1
   case neg =>
    rw[decide_eq_false h1];exact bZ (bZ (nN _ _ ⟨k,_,_,_,rfl,k0,k1,by trivial,by trivial,s2⟩))
   rw[decide_eq_true h1];refine aQ λGq gq=>?_
   have hmo:=I.vj ht;obtain⟨e,emo⟩:∃e,st.mo t=.chg e:=by
    cases hmo:st.mo t with
    |chg e=>exact⟨e,rfl⟩
    |_=>rw[hmo]at h1;simp[Mn.k]at h1
   rw[emo]at hvt abh hmo;have ahY:EdB (12+N) e:=hmo;obtain⟨tc,rfl,htc⟩:=abh;refine gq ?_;refine dW (ixv rfl (SqT.of hvt) rfl ⟨tc,_,_,_,rfl,rfl,htc.sq,oE e,rfl,_,rfl,?_⟩);rw[E8]
   by_cases hk1:e.k=1
   ·rw[decide_eq_true hk1];exact bZ (nN _ _ ⟨k,_,_,_,rfl,k0,k1,by trivial,by trivial,s2⟩)
   ·rw[decide_eq_false hk1];obtain⟨z1,z2⟩:=abf ahY (by omega)
    exact dW (ixv rfl (SqT.of hvt) rfl ⟨tc,_,_,_,rfl,rfl,htc.sq,vd hk1,nN _ _ ⟨k,_,_,_,rfl,k0,k1,z1,z2,s2⟩⟩)
  case r2 =>
  clear s1;rintro σ2 H2 ⟨k,cl,v7,v8,rfl,k0,k1,c1,c2,s2⟩;have X2:=X.same s2;have tup:∀(d:R.d7) (H3:Hp) (t:Addr) (xs:List V),uB d->bu H H3->H3 t=none->(rD (bS c H) (upd H3 t (.tup xs)) d t)->Q (.ref t) (upd H3 t (.tup xs)):=λd H3 t xs o s3 ht dz=>q d t _ o dz (s3.new ht)
  have num:∀(kd:Str) (ns:List Int) (H3:Hp) (t:Addr),uB (.nums kd ns)->bu H H3->H3 t=none->Q (.ref t) (upd H3 t (.tup (.str kd::ns.map V.int))):=λkd ns H3 t o s3 ht=>tup _ H3 t _ o s3 ht ⟨bT (same_none s3 ht),ae⟩
  refine⟨_,rfl,_,_,rfl,rfl,_,rfl,fG (λ_=>?_) (λg1=>?_)⟩
  ·refine⟨_,rfl,_,_,rfl,rfl,(by show (0:Int) < 5;decide),_,rfl,by omega,by omega,λW hW=>?_⟩
   dsimp only;generalize hm:(x % 5).toNat=mm;have m6:mm<=5:=by omega
   refine Jp (lo:=0) (n:=mm) (λi ys H3=>∃cs:List (List Str),ys=(cs.map (si R.bl1)).map V.str/\cs.length=i/\(∀x∈cs,R.BM 12 x)/\bu H2 H3/\H3 W=some (.lst ys))
    ⟨[],rfl,rfl,(λx hx=>nomatch hx),aB hW,ae⟩ (by omega) ?_ ?_ ?_
   ·rintro i ys H3 hi ⟨cs,rfl,hl,hg,s3,h3⟩;exact⟨h3,by rw[ba,ba];exact hl⟩
   ·rintro i ys H3 hi ⟨cs,rfl,hl,hg,s3,h3⟩;refine⟨_,rfl,_,_,rfl,rfl,⟨by decide,by decide⟩,_,rfl,_,_,rfl,rfl,.inl ⟨by decide,by decide⟩,_,_,rfl,rfl,_,rfl,λus H4 hus s4=>?_⟩
    refine ie.mk hi (s4 _ _ h3) ⟨cs++[us],by simp,by simp[hl],λe he=>?_,(s3.trans s4).own hW,ae⟩
    rcases List.mem_append.mp he with he | he
    ·exact hg e he
    ·rw[List.mem_singleton.mp he];exact hus
   ·rintro ys H3 ⟨cs,rfl,hl,hg,s3,h3⟩;refine⟨(sl 2),λt ht=>?_⟩
    have nW:W≠t:=aI h3 ht;refine tup (.mat cs) H3 t _ (.move ⟨by omega,hg⟩) (s2.trans s3) ht ⟨W,⟨bT (same_none (s2.trans s3) ht),ae⟩,bT (same_none s2 hW),(aw nW).trans h3⟩
  refine⟨_,rfl,_,_,rfl,rfl,_,rfl,fG (λ_=>?_) (λg2=>?_)⟩
  ·refine⟨_,rfl,_,rfl,_,rfl,_,_,rfl,rfl,⟨by decide,by decide⟩,_,rfl,λus H3 hus s3=>?_⟩
   refine⟨_,k,_,rfl,k0,k1,λkk j e H4 hk j0 j1 s4 ne he=>⟨(sl 2),λt ht=>?_⟩⟩
   have s24:=s2.trans (s3.trans s4);have net:e≠t:=aI he ht;exact tup (.ed false kk j us) H4 t _ (.move ⟨hk,⟨by omega,by omega⟩,hus,λz=>nomatch z⟩) s24 ht ⟨e,⟨bT (same_none s24 ht),ae⟩,bT (same_none (s2.trans s3) ne),.inl ((aw net).trans he)⟩
  refine⟨_,rfl,_,_,rfl,rfl,_,rfl,fG (λ_=>?_) (λg3=>?_)⟩
  ·refine⟨_,rfl,_,rfl,cl,rfl,c1,λp hp=>⟨p,_,rfl,.inl (SqL.of ae),_,rfl,_,_,rfl,rfl,⟨by decide,by decide⟩,_,rfl,λu hu=>?_⟩⟩
   have s3:=s2.new (o:=.lst ((R.bj cl).map V.str)) hp;refine⟨_,_,_,rfl,by omega,by rw[ba];omega,λkk j e H4 hk j0 j1 s4 ne he=>⟨(sl 2),λt ht=>?_⟩⟩
   have s24:=s3.trans s4;have net:e≠t:=aI he ht;have ju:si R.bl1 [u]=u:=by rfl
   refine tup (.ed true kk j [u]) H4 t _ (.move ⟨hk,⟨by omega,by omega⟩,⟨(by show 1<=12;decide),λz hz=>by rw[List.mem_singleton.mp hz];exact hu⟩,λ_=>rfl⟩) s24 ht ⟨e,⟨bT (same_none s24 ht),ae⟩,bT (same_none s3 ne),.inl ((aw net).trans ?_)⟩
   rw[ju];exact he
  refine⟨_,rfl,rfl,_,rfl,fG (λ_=>?_) (λg4=>?_)⟩
  ·refine dgv rfl X2.gs ⟨_,rfl,_,_,rfl,rfl,(by show (0:Int) < 4;decide),_,_,rfl,rfl,_,_,rfl,rfl,_,_,rfl,(sl 2),λt ht=>?_⟩
   have hs:=I.sit;have x0:0<=x % 4:=ak6 _ (by decide)
   have x1:x % 4 < 4:=akO _ (by decide)
   refine num (ar "put off") [if st.aT+x % 4 - 1 > 1 then st.aT+x % 4 - 1 else 1] H2 t (.move ⟨by unfold n9;simp,λi hi=>?_⟩) s2 ht
   rw[List.mem_singleton.mp hi,e10];split <;> omega
  refine⟨_,rfl,_,_,rfl,rfl,_,rfl,fG (λg5=>?_) (λg5=>?_)⟩
  ·have y8:8<=y:=by
    have a1:¬y < 7:=λz=>g3 (decide_eq_true z)
    have a2:¬y=7:=λz=>g4 (decide_eq_true (by rw[z]))
    omega
   have y11:y < 11:=of_decide_eq_true g5;refine⟨(sl 1),λt1 h1=>⟨(sl 1),λt2 h2=>⟨(sl 1),λt3 h3=>⟨(sl 3),λp hp=>?_⟩⟩⟩⟩
   have s3:=s2.new (o:=.tup [V.str (ar "close")]) h1;have s4:=s3.new (o:=.tup [V.str (ar "lay")]) h2;have s5:=s4.new (o:=.tup [V.str (ar "rest")]) h3;have s6:=s5.new (o:=.lst [V.ref t1,.ref t2,.ref t3]) hp;have w2:=aB (o:=.tup [V.str (ar "lay")]) h2;have w3:=aB (o:=.tup [V.str (ar "rest")]) h3;have w4:=aB (o:=.lst [V.ref t1,.ref t2,.ref t3]) hp;have pick:y - 8=0\/y - 8=1\/y - 8=2:=by omega
   refine⟨_,rfl,_,_,rfl,rfl,?_⟩;dsimp only;have mk:∀kd,(kd,0)∈n9->uB (.nums kd []):=λkd h=>.move ⟨h,λi hi=>nomatch hi⟩
   rcases pick with e | e | e <;> rw[e]
   ·refine⟨p,_,_,_,rfl,rfl,SqL.of ae,rfl,q (.nums (ar "close") []) t1 _ (mk _ (by unfold n9;simp)) ⟨bT (same_none s2 h1),?_⟩ s6⟩
    exact((w2.trans w3).trans w4) _ _ ae
   ·refine⟨p,_,_,_,rfl,rfl,SqL.of ae,rfl,q (.nums (ar "lay") []) t2 _ (mk _ (by unfold n9;simp)) ⟨bT (same_none s3 h2),?_⟩ s6⟩
    exact(w3.trans w4) _ _ ae
   ·refine⟨p,_,_,_,rfl,rfl,SqL.of ae,rfl,q (.nums (ar "rest") []) t3 _ (mk _ (by unfold n9;simp)) ⟨bT (same_none s4 h3),?_⟩ s6⟩
    exact w4 _ _ ae
  refine⟨_,rfl,rfl,_,rfl,fG (λ_=>?_) (λ_=>?_)⟩
  ·refine⟨_,rfl,_,rfl,λus H3 hus s3=>⟨(sl 2),λt ht=>?_⟩⟩
   exact tup (.pt us) H3 t _ (.move hus) (s2.trans s3) ht ⟨bT (same_none (s2.trans s3) ht),ae⟩
  refine⟨_,rfl,_,_,rfl,rfl,_,rfl,fG (λ_=>?_) (λ_=>?_)⟩
  ·refine⟨_,rfl,_,rfl,_,_,rfl,rfl,(by show (0:Int) < n;omega),_,_,rfl,rfl,(sl 3),λt ht=>?_⟩
   have x0:0<=x % n:=ak6 _ (by omega)
   have x1:x % n < n:=akO _ (by omega)
   exact num (ar "vote") [1+x % n,0] H2 t (.Fh ⟨by omega,by omega⟩ ⟨by decide,by decide⟩) s2 ht
  refine⟨_,rfl,_,_,rfl,rfl,_,rfl,fG (λ_=>?_) (λ_=>?_)⟩
  ·refine⟨_,rfl,_,rfl,_,_,rfl,n1,n2,λa b t H3 ha hb s3 nt ht=>?_⟩
   exact q (.nums (ar "vote") [a,b]) t H3 (.Fh ha hb) ⟨bT (same_none s2 nt),ht⟩ (s2.trans s3)
  refine⟨_,rfl,rfl,_,rfl,fG (λ_=>?_) (λ_=>?_)⟩
  ·exact⟨(sl 1),λt ht=>num (ar "drop") [] H2 t .drop s2 ht⟩
  have lm:=I.lm;have al:=I.Gn;have el:es.length=st.made.length:=by rw[<-X2.ent.len,p8]
  refine dgv rfl X2.ga (λp hp=>?_)
  have s3:=s2.new (o:=.dK []) hp;have X3:=X.same s3;refine⟨aA,p,_,rfl,rfl,X3.aH.2,ae,_,rfl,?_⟩;generalize upd H2 p (.dK [])=H3 at s3 X3 ⊢;have lst:∀(t:Addr),H3 t=none->Q (.ref t) (upd H3 t (.tup [V.str (ar "take"),.int (x / 4 % ((es.length:Int)+3) - 1)])):=λt ht=>by
   have x0:0<=x / 4 % ((es.length:Int)+3):=ak6 _ (by omega)
   have x1:x / 4 % ((es.length:Int)+3) < (es.length:Int)+3:=akO _ (by omega)
   exact num (ar "take") [x / 4 % ((es.length:Int)+3) - 1] H3 t (.take (by omega) (by omega)) s3 ht
  have wl:=X3.wait.len;have Tw:=GB st.aH ws wl;have hlen:(aZ ((st.aH.map (·.1)).zip ws)).length=st.aH.length:=by
   have:=congrArg akT Tw;rw[ba,ba,ba]at this;exact this
  cases ea:(aZ ((st.aH.map (·.1)).zip ws)).isEmpty with
  |true =>
   refine bZ (bZ ?_);exact⟨_,rfl,_,_,rfl,rfl,⟨by decide,by decide⟩,dgv rfl X3.gm ⟨aM,_,rfl,.inl (SqL.of X3.lV.2),_,_,rfl,rfl,_,_,rfl,rfl,(by show (0:Int) < (es.length:Int)+3;omega),_,_,rfl,rfl,(sl 2),lst⟩⟩
  |false =>
   refine dW ?_;refine⟨_,rfl,_,_,rfl,rfl,(by show (0:Int) < 4;decide),_,_,rfl,rfl,_,rfl,fG (λ_=>?_) (λ_=>?_)⟩
   ·have a1:0 < st.aH.length:=by
     rw[<-hlen];cases h:aZ ((st.aH.map (·.1)).zip ws) with
     |nil=>rw[h]at ea;cases ea
     |cons _ _=>exact Nat.succ_pos _
    refine dgv rfl X3.ga ⟨aA,_,_,rfl,X3.aH.2,Tw,by rw[ba];omega,λl ns pm so hl=>?_⟩
    have nl:ns.length=st.aH.length:=by rw[pm.length_eq,ba]
    have s4:=s3.new (o:=.lst (ns.map V.int)) hl;have X4:=X.same s4;have hB:SqL K (upd H3 l (.lst (ns.map V.int))) l (ns.map V.int):=SqL.of ae;generalize upd H3 l (.lst (ns.map V.int))=H4 at s4 X4 hB ⊢;refine aQ λGq gq=>?_
    have x0:0<=x / 4 % (st.aH.length:Int):=ak6 _ (by omega)
    have x1:x / 4 % (st.aH.length:Int) < (st.aH.length:Int):=akO _ (by omega)
    obtain⟨j,ej⟩:∃j:Nat,x / 4 % (st.aH.length:Int)=(j:Int):=⟨(x / 4 % (st.aH.length:Int)).toNat,by omega⟩
    have hj:j < ns.length:=by omega
    have Pb:ns[j]∈st.aH.map λx=>(x.1:Int):=pm.mem_iff.mp (List.getElem_mem hj)
    obtain⟨y0,hy0,e0⟩:=List.mem_map.mp Pb;obtain⟨yr,er⟩:=(I.asd y0 hy0).2.1;have hno:=I.tM hy0 y0.1 (by rw[er];exact fe)
    have e0':((y0.1:Nat):Int)=ns[j]:=e0;have at1:atI (ns.map V.int) (x / 4 % (st.aH.length:Int))=some (.int ns[j]):=by
     rw[ej];exact dI (by rw[aj7,wa hj];rfl)
    refine gq ?_;refine⟨_,rfl,_,_,rfl,rfl,⟨by decide,by decide⟩,dgv rfl X4.ga ⟨aA,_,rfl,X4.aH.2,_,_,rfl,rfl,(by rw[hlen];show (0:Int) < _;omega),?_⟩⟩
    rw[hlen];refine⟨l,_,_,_,rfl,rfl,hB,at1,(sl 2),λt ht=>?_⟩
    have h1:=hno.1;have h2:=hno.2;exact num (ar "take") [ns[j]] H4 t (.take (by omega) (by omega)) s4 ht
   ·exact⟨_,rfl,_,_,rfl,rfl,⟨by decide,by decide⟩,dgv rfl X3.gm ⟨aM,_,rfl,.inl (SqL.of X3.lV.2),_,_,rfl,rfl,_,_,rfl,rfl,(by show (0:Int) < (es.length:Int)+3;omega),_,_,rfl,rfl,(sl 2),lst⟩⟩
end
theorem eP.free {A:Adr}{i:Nat}{W:Option (Nat×Rl)->Prop}{c c':Col}{H H':Hp}{o:Addr}{st:Ch}(h:∀r,¬W (some (i,r)))(s:Step W c c' H H')(hc:eP A i c H o st):eP A i c' H' o st:=by
 obtain⟨dx,aM,aP,aA,aD,aF,aE,aR,ms,ds,ws,fs,es,X⟩:=hc.ex;exact(X.free h s).at
def dnT:Rs->List V
 | .num n=>[.bl true,nV n]
 | .txt z=>[.bl true,.str z]
 | .exc _=>[.bl false,.non]
def PH (A:Adr)(i:Nat):Sp:=λvs H Q _=>∃(o t:Addr) (c:Col) (st:Ch) (N:Nat) (d:R.d7),vs=[.ref o,.ref t]/\eP A i c H o st/\Inv N st/\N<=800/\uB d/\rB i c H d t /\
 ∀c' H' u,Step (d8 i) c c' H H'->eP A i c' H' o (fF st d).2->c' u=none->H' u=some (.tup (dnT (fF st d).1))->Q (.ref u) H'
def MF:Sp:=λvs H Q _=>∃c:Int,vs=[.int c]/\∀n:Int,1<=n->n<=1000000000->Q (.int n) H
section
variable{P:sr}{w:World}{K:bo}{mg:Str->Option Value}{base:Heap}{A:Adr}
theorem J2 (T:Txt w.params K mg A):a7 P w K mg base CX0 1 A.EJ A.u4 ["_law_cell"] MF:=by
 refine T.yg.ok Jy (λvs H Q E h=>?_) (λcdv A' outer s H vs Q E hr h=>?_)
 ·obtain⟨c,rfl,_⟩:=h;rfl
 ·obtain⟨c,rfl,q⟩:=h;refine⟨_,(ai (a9 (az bt (bc cJ (pv 0) ah) ah (aJ _))
 (aj (aG (bc eh ah (bc cJ (bc dR (pv 0) ah) ah))))
 aC)
 (aj (aG (bc eh ah (bc cJ (bc dR (pv 0) ah) (bc UW ah ah)))))),?_⟩
  try dsimp only[bG]
  refine⟨_,rfl,_,_,rfl,rfl,(by show (0:Int) < 2;decide),rfl,_,rfl,fG (λ_=>?_) (λ_=>?_)⟩
  ·refine⟨_,rfl,_,_,rfl,rfl,⟨by decide,by decide⟩,_,_,rfl,rfl,(by show (0:Int) < 9;decide),_,_,rfl,rfl,q _ ?_ ?_⟩ <;> omega
  ·have e:(10:Int) ^ (9:Int).toNat=1000000000:=by decide
   refine⟨_,rfl,_,_,rfl,rfl,⟨by decide,by decide⟩,_,_,rfl,rfl,⟨by decide,by decide,by decide⟩,_,_,rfl,rfl,(by rw[e];show (0:Int) < 1000000000;decide),_,_,rfl,rfl,q _ ?_ ?_⟩ <;> rw[e] <;> omega
theorem Xc.mat (T:Txt w.params K mg A){H:Hp}{C:Value}{d:Option Addr}:∀ {x:Xc},x.At A H C d->ake K C (.ref A.bM)=some true
 | .tH _,⟨e,_⟩=>by rw[e];exact T.jql
 | .mW _,⟨e,_⟩=>by rw[e];exact T.jqf
 | .BQ _,⟨e,_⟩=>by rw[e];exact T.jqm
 | .mV,⟨e,_⟩=>by rw[e];exact T.jqc
 | .noChange,⟨e,_⟩=>by rw[e];exact T.jqd
 | .noFit,⟨e,_⟩=>by rw[e];exact T.jqo
 | .nothing,⟨e,_⟩=>by rw[e];exact T.jqg
 | .tooMany,⟨e,_⟩=>by rw[e];exact T.jqh
 | .uw,⟨e,_⟩=>by rw[e];exact T.jqi
 | .BR,⟨e,_⟩=>by rw[e];exact T.jqe
theorem J3 (T:Txt w.params K mg A){i:Nat}:a7 P w K mg base (CXX P w) 8 A.EI A.uj ["_law_chamber","_law_deed_here"] (PH A i):=by
 refine T.Bu.okX xR (λvs H Q E h=>?_) (λcdv A' outer s H vs Q E hr h=>?_)
 ·obtain⟨o,t,c,st,N,d,rfl,_⟩:=h;rfl
 ·obtain⟨o,t,c,st,N,d,rfl,hc,I,hN,hd,hdc,q⟩:=h;obtain⟨dx,aM,aP,aA,aD,aF,aE,aR,ms,ds,ws,fs,es,X⟩:=hc.ex;refine⟨_,(bb (psx (a4 (i:=2) xR.nd rfl (wt rfl) ix))
 (bb (Q5 ⟨rfl,rfl⟩ (bb (gA (az bt (aS aU (pv 1) ah (λ_ _=>rfl)) ao (aJ _))
 (bw (Aq (As (kL (px kK) (kL (pj (px (pv 0)) T.aq T.sY (RG (i:=i) T) (hr.mono (by decide)) T.jc (pax (aa (aS aU (pv 1) ah (λ_ _=>rfl)) (aa (aS aU (pv 1) ah (λ_ _=>rfl)) af)))) Ao)))))
 (uM aC))
 (bb (gA (az bt (aS aU (pv 1) ah (λ_ _=>rfl)) ao (aJ _))
 (bw (Aq (As (kL (px kK) (kL (xK (px (pv 0)) T.aq T.sZ (RH (i:=i) T) (hr.mono (by decide)) T.jd) Ao)))))
 (uM aC))
 (bb (gA (az bt (aS aU (pv 1) ah (λ_ _=>rfl)) ao (aJ _))
 (bw (Aq (As (kL (px kK) (kL (pj (px (pv 0)) T.aq T.tf (RI (i:=i) T) (hr.mono (by decide)) T.je (pax (aa (aS aU (pv 1) ah (λ_ _=>rfl)) af))) Ao)))))
 (uM aC))
 (bw (Aq (As (kL (px kK) (kL (pj (px (pv 0)) T.aq T.sX (RK (i:=i) T) hr T.jb (pax (aa (pv 1) af))) Ao))))))))
 (N7 rfl T.gM (λ_=>(aj (a4 (i:=2) xR.nd rfl (wt rfl) (bp (aa kK (aa ix af)))))) (Q4 ⟨rfl,rfl⟩)))
 (bw (psx (aG (pv 2)))))),?_⟩
  try dsimp only[bG]
  have fin:∀(c1:Col) (H1:Hp) (p:Addr),Step (d8 i) c c1 H H1->eP A i c1 H1 o (fF st d).2->H1 p=none->Q (.ref p) (upd H1 p (.tup (dnT (fF st d).1))):=λc1 H1 p s1 hc1 hp =>
   q (ay c1 p none) _ p (s1.trans (Step.new aV hp)) (hc1.free (W:=λ_=>False) (λ_=>id) (Step.new id hp)) aW ae
  clear q;cases hd with
  | @Fh a b ha hb =>
   rw[jW]at fin;have ht:SqT K H t [.str (ar "vote"),.int a,.int b]:=SqT.of hdc.2;refine ixv rfl ht rfl ⟨rfl,tst (by trivial) ?_⟩
   refine mtv rfl X.ob (cA (by trivial)) (ixv rfl ht rfl (ixv rfl ht rfl ⟨o,a,b,c,st,N,rfl,hc,I,hN,ha,hb,?_⟩))
   generalize kY st a b=rs at fin ⊢;obtain⟨r,st'⟩:=rs;cases r with
   |num n=>exactλc1 H1 s1 hc1=>⟨(sl 2),λp hp=>fin c1 H1 p s1 hc1 hp⟩
   |txt z=>exactλc1 H1 s1 hc1=>⟨(sl 2),λp hp=>fin c1 H1 p s1 hc1 hp⟩
   |exc x=>exactλc1 H1 C e s1 hc1 hat he=>⟨true,Xc.mat T hat,dW ⟨(sl 2),λp hp=>⟨_,rfl,fin c1 H1 p s1 hc1 hp⟩⟩⟩
  |drop =>
   rw[jX]at fin;have ht:SqT K H t [.str (ar "drop")]:=SqT.of hdc.2;refine ixv rfl ht rfl ⟨rfl,tsf (by trivial) (ixv rfl ht rfl ⟨rfl,tst (by trivial) ?_⟩)⟩
   refine mtv rfl X.ob (cA (by trivial)) ⟨o,c,st,N,rfl,hc,I,hN,?_⟩
   generalize n8 st=rs at fin ⊢;obtain⟨r,st'⟩:=rs;cases r with
   |num n=>exactλc1 H1 s1 hc1=>⟨(sl 2),λp hp=>fin c1 H1 p s1 hc1 hp⟩
   |txt z=>exactλc1 H1 s1 hc1=>⟨(sl 2),λp hp=>fin c1 H1 p s1 hc1 hp⟩
   |exc x=>exactλc1 H1 C e s1 hc1 hat he=>⟨true,Xc.mat T hat,dW ⟨(sl 2),λp hp=>⟨_,rfl,fin c1 H1 p s1 hc1 hp⟩⟩⟩
  | @take z h0 h1 =>
   rw[jY]at fin;have ht:SqT K H t [.str (ar "take"),.int z]:=SqT.of hdc.2;refine ixv rfl ht rfl ⟨rfl,tsf (by trivial) (ixv rfl ht rfl ⟨rfl,tsf (by trivial) (ixv rfl ht rfl ⟨rfl,tst (by trivial) ?_⟩)⟩)⟩
   refine mtv rfl X.ob (cA (by trivial)) (ixv rfl ht rfl ⟨o,z,c,st,N,rfl,hc,I,hN,h0,h1,?_⟩)
   generalize stepT st z.toNat=rs at fin ⊢;obtain⟨r,st'⟩:=rs;cases r with
   |num n=>exactλc1 H1 s1 hc1=>⟨(sl 2),λp hp=>fin c1 H1 p s1 hc1 hp⟩
   |txt z=>exactλc1 H1 s1 hc1=>⟨(sl 2),λp hp=>fin c1 H1 p s1 hc1 hp⟩
   |exc x=>exactλc1 H1 C e s1 hc1 hat he=>⟨true,Xc.mat T hat,dW ⟨(sl 2),λp hp=>⟨_,rfl,fin c1 H1 p s1 hc1 hp⟩⟩⟩
  |move hm =>
   refine aQ λGq gq=>?_
   rw[jZ hm]at fin;obtain⟨v,ht,_,_⟩:=w5 hm hdc;have k8:=(eQ d).k8;refine gq ?_;refine ixv rfl (SqT.of ht.2) dS ⟨rfl,tsf (Pu _ k8) (ixv rfl (SqT.of ht.2) dS ⟨rfl,tsf (Pw _ k8) (ixv rfl (SqT.of ht.2) dS ⟨rfl,tsf (Px _ k8) ?_⟩)⟩)⟩;refine mtv rfl X.ob (cA (by trivial)) ⟨_,rfl,o,t,c,st,N,d,rfl,hc,I,hN,hm,hdc,?_⟩
   generalize lL st (eQ d) (R.tD d)=rs at fin ⊢;obtain⟨r,st'⟩:=rs;cases r with
   |num n=>exactλc1 H1 s1 hc1=>⟨(sl 2),λp hp=>fin c1 H1 p s1 hc1 hp⟩
   |txt z=>exactλc1 H1 s1 hc1=>⟨(sl 2),λp hp=>fin c1 H1 p s1 hc1 hp⟩
   |exc x=>exactλc1 H1 C e s1 hc1 hat he=>⟨true,Xc.mat T hat,dW ⟨(sl 2),λp hp=>⟨_,rfl,fin c1 H1 p s1 hc1 hp⟩⟩⟩
theorem MG (T:Txt w.params K mg A){i:Nat}:a7 P w K mg base CX0 8 A.EI A.uj ["_law_chamber","_law_deed_here"] (PH A i) :=
 (J3 T).calm λ_ _ _ _ h=>h
end
mutual
theorem DV.same {K:bo}{H H':Hp}(s:bu H H'):∀(d:PyData) {x:V},DV K H d x->DV K H' d x
 | .none,_,h=>by unfold DV at h ⊢;exact h
 | .bool _,_,h=>by unfold DV at h ⊢;exact h
 | .int _,_,h=>by unfold DV at h ⊢;exact h
 | .str _,_,h=>by unfold DV at h ⊢;exact h
 | .list ds,_,h=>by
  unfold DV at h ⊢;obtain⟨a,xs,e,h1,h2⟩:=h;exact⟨a,xs,e,s.seq h1,DVs.same s ds h2⟩
 | .tuple ds,_,h=>by
  unfold DV at h ⊢;obtain⟨a,xs,e,h1,h2⟩:=h;exact⟨a,xs,e,bR s h1,DVs.same s ds h2⟩
 | .dict _,_,h=>by unfold DV at h;exact h.elim
theorem DVs.same {K:bo}{H H':Hp}(s:bu H H'):∀(ds:List PyData) {xs:List V},DVs K H ds xs->DVs K H' ds xs
 |[],_,h=>by unfold DVs at h ⊢;exact h
 |d::ds,_,h=>by
  unfold DVs at h ⊢;obtain⟨x,r,e,h1,h2⟩:=h;exact⟨x,r,e,DV.same s d h1,DVs.same s ds h2⟩
end
theorem p9 {d:PyData}(h1:d.canLay0=true)(h2:d.depth<=64):ale d=true:=by
 show (d.canLay0 && decide (d.depth<=64))=true;rw[h1,decide_eq_true h2];rfl
theorem DU {α:Type}{f:α->PyData}{k:Nat}(h:∀x,akE (f x)<=k):∀xs:List α,aks (xs.map f)<=k
 |[]=>by simp only[akD,aks];omega
 |x::xs=>by
  have h1:=h x;have h2:=DU h xs;simp only[km,aks];omega
theorem L0 {α:Type}{f:α->PyData}:∀ {xs:List α},(∀x∈xs,(f x).canLay0=true)->aj1 (xs.map f)=true
 |[],_=>by simp only[akD,aj1]
 |x::xs,h=>by
  simp only[km,aj1,h x fe,L0 λy hy=>h y (ky _ hy),akM]
theorem PK:∀k,ako (kn k)=true
 | 0=>by trivial
 | 1=>by trivial
 |_+2=>by show ako (ar "turn")=true;trivial
theorem J4 {e:Ed}(h:ako e.th=true):(edD e).canLay0=true:=by
 have h0:=PK 0;have h1:=PK 1;have h2:=PK 2;unfold edD;split <;> simp only[akm,aj1,h,h0,h1,h2,akM]
theorem J5 (e:Ed):(edD e).depth<=10:=by
 unfold edD;split <;> simp only[akE,aks] <;> omega
theorem PL {tx:List Str}(h:∀x∈tx,ako x=true):(PyData.list (tx.map akS)).canLay0=true:=by
 simp only[akm];exact sC tx h
theorem PM (tx:List Str):(PyData.list (tx.map akS)).depth<=10:=by
 have:=uL tx;simp only[akE];omega
theorem J6 {N:Nat}:∀ {m:Mn},MOk N m->(mnD m).canLay0=true
 | .mat tx,h=>by
  have h0:=y6 0 (by decide)
  have h1:=PL h.2;unfold mnD;simp only[akm,aj1]at h1 ⊢;simp only[h0,h1,akM]
 | .chg e,h=>by
  have h0:=y6 1 (by decide)
  have h1:=J4 (EdB.str h);unfold mnD;simp only[akm,aj1,h0,h1,akM]
 | .mnd e,h=>by
  have h0:=y6 2 (by decide)
  have h1:=J4 (EdB.str h.1);unfold mnD;simp only[akm,aj1,h0,h1,akM]
 | .off u,_=>by
  have h0:=y6 3 (by decide)
  unfold mnD;simp only[akm,aj1,h0,akM]
 | .cls,_=>by
  have h0:=y6 4 (by decide)
  unfold mnD;simp only[akm,aj1,h0,akM]
 | .lay,_=>by
  have h0:=y6 5 (by decide)
  unfold mnD;simp only[akm,aj1,h0,akM]
 | .rst,_=>by
  have h0:=y6 6 (by decide)
  unfold mnD;simp only[akm,aj1,h0,akM]
 | .pnt z,h=>by
  have h0:=y6 7 (by decide)
  have h1:ako z=true:=h;unfold mnD;simp only[akm,aj1,h0,h1,akM]
theorem PN (m:Mn):(mnD m).depth<=64:=by
 cases m with
 |mat tx =>
  have:=PM tx;unfold mnD;simp only[akE,aks]at this ⊢;omega
 |chg e =>
  have:=J5 e;unfold mnD;simp only[akE,aks];omega
 |mnd e =>
  have:=J5 e;unfold mnD;simp only[akE,aks];omega
 |_=>unfold mnD;simp only[akE,aks];omega
def AsC (c:Col)(H:Hp)(x:Nat×Int×List Nat)(v:V):Prop:=∃u l,v=.ref u/\(c u=none/\H u=some (.tup [nV x.1,.int x.2.1,.ref l]))/\c l=none/\H l=some (.lst (x.2.2.map nV))
def DcC (c:Col)(H:Hp)(x:Nat×Str)(v:V):Prop:=∃t,v=.ref t/\TupAt c H t [nV x.1,.str x.2]
structure StX (c:Col)(H:Hp)(st:Ch)(ns:List Int)(u l1 R l2:Addr)(ys ds:List V):Prop where
 cu:c u=none
 hu:H u=some (.tup [.int st.aT,.bl st.closed,.ref l1,.ref R,.ref l2])
 c1:c l1=none
 h1:H l1=some (.lst (st.au.map nV))
 cR:c R=none
 hR:H R=some (.lst ys)
 asd:bD (AsC c H) (ns.map (RM st)) ys
 c2:c l2=none
 h2:H l2=some (.lst ds)
 dec:bD (DcC c H) st.decided ds
def R1 (c:Col)(H:Hp)(st:Ch)(ns:List Int)(u:Addr):Prop:=∃l1 R l2 ys ds,StX c H st ns u l1 R l2 ys ds
theorem AsC.step {W:Option (Nat×Rl)->Prop}{c c':Col}{H H':Hp}{x:Nat×Int×List Nat}{v:V}(s:Step W c c' H H'):AsC c H x v->AsC c' H' x v
 |⟨u,l,e,⟨h1,h2⟩,h3,h4⟩=>⟨u,l,e,dc s h1 h2,dc s h3 h4⟩
theorem DcC.step {W:Option (Nat×Rl)->Prop}{c c':Col}{H H':Hp}{x:Nat×Str}{v:V}(s:Step W c c' H H'):DcC c H x v->DcC c' H' x v
 |⟨t,e,h⟩=>⟨t,e,h.step s⟩
theorem StX.step {W:Option (Nat×Rl)->Prop}{c c':Col}{H H':Hp}{st:Ch}{ns:List Int}{u l1 R l2:Addr}{ys ds:List V}(s:Step W c c' H H')(h:StX c H st ns u l1 R l2 ys ds):StX c' H' st ns u l1 R l2 ys ds :=
 ⟨(dc s h.cu h.hu).1,(dc s h.cu h.hu).2,(dc s h.c1 h.h1).1,(dc s h.c1 h.h1).2,(dc s h.cR h.hR).1,(dc s h.cR h.hR).2,h.asd.imp λ_ _ z=>z.step s,(dc s h.c2 h.h2).1,(dc s h.c2 h.h2).2,h.dec.imp λ_ _ z=>z.step s⟩
theorem R1.step {W:Option (Nat×Rl)->Prop}{c c':Col}{H H':Hp}{st:Ch}{ns:List Int}{u:Addr}(s:Step W c c' H H'):R1 c H st ns u->R1 c' H' st ns u
 |⟨l1,R,l2,ys,ds,h⟩=>⟨l1,R,l2,ys,ds,h.step s⟩
def PQ (A:Adr)(i:Nat):Sp:=λvs H Q _=>∃(o:Addr) (c:Col) (st:Ch),vs=[.ref o]/\eP A i c H o st/\st.aH.length < 64 /\
 ∀(ns:List Int) (u:Addr) (H':Hp),List.Perm ns (st.aH.map λx=>(x.1:Int))->ns.Pairwise (·<=·)->bu H H'->R1 (bS c H) H' st ns u->Q (.ref u) H'
def AsN (H0 H:Hp)(R:Addr)(x:Nat×Int×List Nat)(v:V):Prop:=∃u l,v=.ref u/\(u≠R/\l≠R)/\(H0 u=none/\H0 l=none)/\H u=some (.tup [nV x.1,.int x.2.1,.ref l])/\H l=some (.lst (x.2.2.map nV))
theorem AsN.same {H0 H H':Hp}{R:Addr}{x:Nat×Int×List Nat}{v:V}(s:bu H H'):AsN H0 H R x v->AsN H0 H' R x v
 |⟨u,l,e,h1,h2,h3,h4⟩=>⟨u,l,e,h1,h2,s _ _ h3,s _ _ h4⟩
theorem AsN.upd {H0 H:Hp}{R:Addr}{o:HO}{x:Nat×Int×List Nat}{v:V}:AsN H0 H R x v->AsN H0 (L2.upd H R o) R x v
 |⟨u,l,e,h1,h2,h3,h4⟩=>⟨u,l,e,h1,h2,(aw h1.1).trans h3,(aw h1.2).trans h4⟩
section
variable{P:sr}{w:World}{K:bo}{mg:Str->Option Value}{base:Heap}{A:Adr}
theorem MH (T:Txt w.params K mg A){i:Nat}:a7 P w K mg base CX0 2 A.cC A.jP ["self"] (PQ A i):=by
 refine T.fQ.ok xO (λvs H Q E h=>?_) (λcdv A' outer s H vs Q E hr h=>?_)
 ·obtain⟨o,c,st,rfl,_⟩:=h;rfl
 ·obtain⟨o,c,st,rfl,hc,hal,q⟩:=h;obtain⟨dx,aM,aP,aA,aD,aF,aE,aR,ms,ds,ws,fs,es,X⟩:=hc.ex;have lim:gr=16777216:=by decide
  refine⟨_,(ai (Jo (i:=1) (scope:=lG) uQ rfl rfl (wt rfl) (qz (cD (wc hr.hd) (by rfl) T.Bv Dc (aa (bh (pv 0) rfl) af))) (λ_ _ _ _ _=>(eG (pv 1) T.aq T.kS (CK (i:=i) T) hr T.eK .nil a5 (aa (pv 0) af))))
 (aj (aG (bp (aa (bh (pv 0) rfl) (aa (bh (pv 0) rfl) (aa (cE cB (by rfl) T.i9 gU (aa (bh (pv 0) rfl) af)) (aa (pv 1) (aa (cE cB (by rfl) T.i9 gU (aa (bh (pv 0) rfl) af)) af))))))))),?_⟩
  try dsimp only[bG]
  refine eW rfl X.ob T.aq T.jq4 jT ⟨aA,_,_,rfl,X.aH.2,GB st.aH ws X.wait.len,by rw[ba];exact hal,λl0 ns pm so hl0=>?_⟩
  have nl:ns.length=st.aH.length:=by rw[pm.length_eq,ba]
  have s0:=aB (o:=.lst (ns.map V.int)) hl0;have hB:SqL K (upd H l0 (.lst (ns.map V.int))) l0 (ns.map V.int):=SqL.of ae;generalize upd H l0 (.lst (ns.map V.int))=H1 at s0 hB ⊢;refine⟨l0,rfl,⟨_,hB⟩,λR hR=>?_⟩
  have hR0:=same_none s0 hR;refine xJ (K:=K) (a:=l0) (xs:=ns.map V.int) (λj ys H2=>bu H1 H2/\H2 R=some (.lst ys)/\bD (AsN H H2 R) ((ns.take j).map (RM st)) ys) ⟨aB hR,ae,.nil⟩ (by rw[ba];omega) ?_ ?_ ?_
  ·rintro j ys H2 hj ⟨s2,hR2,ha⟩;refine⟨s2.seq hB,hR2,?_⟩;rw[<-ha.len,ba,akF];rw[ba]at hj;omega
  ·rintro j y ys H2 hy ⟨s2,hR2,ha⟩;refine aQ λGq gq=>?_
   obtain⟨n,hn1,rfl⟩:∃n,ns[j]?=some n/\V.int n=y:=by
    rw[aj7]at hy;cases ht:ns[j]? with
    |none=>rw[ht]at hy;cases hy
    |some t=>rw[ht]at hy;exact⟨t,rfl,ajZ hy⟩
   have Pb:n∈st.aH.map λx=>(x.1:Int):=pm.mem_iff.mp (akl hn1)
   obtain⟨x0,hx0,e0⟩:=List.mem_map.mp Pb;obtain⟨x,hx⟩:∃x,at1 x0.1 st.aH=some x:=by
    cases z:at1 x0.1 st.aH with
    |some x=>exact⟨x,rfl⟩
    |none=>exact absurd (alp hx0) (wV z)
   have e0':((x0.1:Nat):Int)=n:=e0;subst e0';have s02:=s0.trans s2;have X2:=X.same s02;have ea:RM st ((x0.1:Nat):Int)=x:=by unfold RM;rw[Int.toNat_natCast,hx];rfl
   refine gq ?_;refine mtv rfl X2.ob (cA (by trivial)) ⟨_,rfl,o,x0.1,c,st,x,rfl,X2.at,hx,λl u H3 hl hu s3 h1 h2=>?_⟩
   have hR3:=s3 _ _ hR2;refine ie.mk (List.getElem?_eq_some_iff.mp hy).1 hR3 ⟨(s2.trans s3).own hR,ae,?_⟩;rw[List.take_succ,hn1,kx];refine bD.snoc (ha.imp λ_ _ z=>(z.same s3).upd) ?_
   rw[ea];refine AsN.upd ⟨u,l,rfl,⟨(λz=>by rw[z,hR2]at hu;cases hu),(λz=>by rw[z,hR2]at hl;cases hl)⟩,⟨same_none s02 hu,same_none s02 hl⟩,?_,h1⟩
   rw[(dC hx).1];exact h2
  ·rintro ys H2 ⟨s2,hR2,ha⟩;rw[ba,alq]at ha;have s02:=s0.trans s2;have X2:=X.same s02;refine eW rfl X2.ob T.aq T.jq1 iT (eW rfl X2.ob T.aq T.jq5 qS (eW rfl X2.ob T.aq T.jq0 fB ⟨aP,_,rfl,.inl (SqL.of X2.au.2),λl1 hl1=>?_⟩))
   have s3:=aB (o:=.lst (st.au.map nV)) hl1;have X3:=X2.same s3;have s03:=s02.trans s3;refine⟨_,rfl,eW rfl X3.ob T.aq T.jqj y7 ⟨aD,_,rfl,.inl (SqL.of X3.dec.2),λl2 hl2=>⟨(sl 5),λu hu=>?_⟩⟩⟩
   have s4:=aB (o:=.lst (ds.map V.ref)) hl2;have s5:=aB (o:=.tup [V.int st.aT,.bl st.closed,.ref l1,.ref R,.ref l2]) hu;have s45:=s4.trans s5;have s05:=s03.trans s45;have X5:=X3.same s45;refine q ns u _ pm so s05 ⟨l1,R,l2,ys,ds.map V.ref,bT (same_none (s03.trans s4) hu),ae,bT (same_none s02 hl1),s45 _ _ ae,bT hR0,(s3.trans s45) _ _ hR2,?_,bT (same_none s03 hl2),s5 _ _ ae,?_⟩
   ·refine ha.imp λx v z=>?_
    refine aQ λGq gq=>?_
    obtain⟨u',l',e,_,⟨z1,z2⟩,z3,z4⟩:=z.same (s3.trans s45);refine gq ?_;exact⟨u',l',e,⟨bT z1,z3⟩,bT z2,z4⟩
   ·refine bD.mapR (X5.mS.imp λx t h=>⟨t,rfl,?_,h.2⟩)
    unfold bS;split
    ·exact h.1
    ·rfl
end
def plE:List Str->List Ed->Option (List Str)
 |tx,[]=>some tx
 |tx,e::es=>if d9 tx.length e=true then plE (bE tx e) es else none
theorem GC:∀ {es:List Ed} {tx t:List Str} {e:Ed},plE tx es=some t->d9 t.length e=true->plE tx (es++[e])=some (bE t e)
 |[],tx,t,e,h,hf=>by
  cases h;show (if d9 tx.length e=true then some (bE tx e) else none)=_
  rw[if_pos hf]
 |f::es,tx,t,e,h,hf=>by
  have h':(if d9 tx.length f=true then plE (bE tx f) es else none)=some t:=h
  show (if d9 tx.length f=true then plE (bE tx f) (es++[e]) else none)=_
  split at h'
  ·rw[if_pos (by assumption)];exact GC h' hf
  ·cases h'
structure TxI (st:Ch):Prop where
 txt:∀x∈st.firsts,∀y∈st.kept,x.1=y.1->∃tx,st.mo x.1=.mat tx/\plE x.2 y.2=some tx
 fok:∀x∈st.firsts,x.2.length<=12/\∀z∈x.2,ako z=true
 kok:∀y∈st.kept,∀e∈y.2,EdB 900 e
def topC (st:Ch):Option Ed:=match st.au.getLast? with
 |some n=>(match st.mo n with
  | .chg e=>some e
  |_=>none)
 |none=>none
theorem L1 {st:Ch}{n:Nat}{e:Ed}(h:st.au.getLast?=some n)(h2:st.mo n=.chg e):topC st=some e:=by
 unfold topC;rw[h];dsimp only;rw[h2]
theorem Fm {st:Ch}{n:Nat}(h:st.au.getLast?=some n)(h2:(st.mo n).k≠1):topC st=none:=by
 unfold topC;rw[h];dsimp only;split
 ·rename_i e he;rw[he]at h2;exact absurd rfl h2
 ·rfl
inductive Ef (st:Ch)(d:R.d7)(r:Rs)(st':Ch):Prop
 |nC:st'.firsts=st.firsts->st'.kept=st.kept->(∀n tx,cY st n->st.mo n=.mat tx->st'.mo n=.mat tx)->(∀cs n,d=.mat cs->r≠.num n)->(r=.txt jy->topC st=none)->Ef st d r st'
 |new (cs:List (List Str)) (row:Str):d=.mat cs->r=.num (st.made.length+1)->st'=st.moved (.mat (cs.map (si R.bl1))) row->Ef st d r st'
 |lay (n:Nat) (tx:List Str) (e:Ed):R.jk d=ar "vote"->topC st=some e->r=.txt jy->st.au.head?=some n->st.mo n=.mat tx->d9 tx.length e=true->EdB 900 e->st'.firsts=st.firsts->st'.kept=p6 n e st.kept->st'.mo n=.mat (bE tx e)->(∀k t,cY st k->k≠n->st.mo k=.mat t->st'.mo k=.mat t)->Ef st d r st'
theorem Ef.no {st:Ch}{d:R.d7}(x:Xc):Ef st d (.exc x) st:=.nC rfl rfl (λ_ _ _ h=>h) (λ_ _ _ z=>nomatch z) (λz=>nomatch z)
theorem R3 {N:Nat}{st:Ch}(I:Inv N st)(hN:N<=800)(a b:Int):Ef st (.nums (ar "vote") [a,b]) (kY st a b).1 (kY st a b).2:=by
 unfold kY;split
 ·exact .no _
 ·rename_i n h;split
  ·exact .no _
  ·obtain⟨pre,e⟩:=mi h;have ed:st.au.dropLast=pre:=by rw[e];exact ak0
   rw[ed];have hn:n∈st.au:=by rw[e];simp
   have pn:∀k∈pre,cY st k:=λk hk=>I.bP k (by rw[e];exact akA _ hk)
   generalize mO (My.nd (st.mo n).k) a b=kp;obtain⟨_,ht⟩:=I.pop e (jq kp) (Az _);have hmo:=I.vj (I.bP n hn);have same:∀ {st':Ch},st'.firsts=st.firsts->st'.kept=st.kept->st'.made=st.made->(st.mo n).k≠1->Ef st (.nums (ar "vote") [a,b]) (.txt (jq kp)) st':=λh1 h2 h3 h4 =>
    .nC h1 h2 (λk tx _ hk=>by rw[RC h3];exact hk) (λ_ _ z=>nomatch z) λ_=>Fm h h4
   cases kp with
   |false=>exact .nC rfl rfl (λ_ _ _ h=>h) (λ_ _ z=>nomatch z) λz=>absurd (Rs.txt.inj z) (by trivial)
   |true =>
    rw[if_pos rfl];cases hm:st.mo n with
    |mat tx=>exact same rfl rfl rfl (by rw[hm];exactλz=>nomatch z)
    |pnt z=>exact same rfl rfl rfl (by rw[hm];exactλz=>nomatch z)
    |rst=>exact same rfl rfl rfl (by rw[hm];exactλz=>nomatch z)
    |cls=>exact same rfl rfl rfl (by rw[hm];exactλz=>nomatch z)
    |off u =>
     rw[hm]at ht;obtain⟨⟨tx,r,h1⟩,_⟩:=ht;obtain⟨k,s,e1,_⟩:=Gk h1;have e3:(st.popped pre n (jq true)).carry (.off u)=(st.popped pre n (jq true)).lU k u:=by unfold Ch.carry Ch.popped;rw[e1]
     rw[e3];exact same rfl rfl rfl (by rw[hm];exactλz=>nomatch z)
    |lay =>
     rw[hm]at ht;obtain⟨⟨tx,r,h1⟩,_⟩:=ht;obtain⟨k,s,e1,_⟩:=Gk h1;have e3:(st.popped pre n (jq true)).carry .lay=(st.popped pre n (jq true)).lU k st.aT:=by unfold Ch.carry Ch.popped;rw[e1]
     rw[e3];exact same rfl rfl rfl (by rw[hm];exactλz=>nomatch z)
    |mnd f =>
     rw[hm]at ht;obtain⟨tx,g,h1,_,_⟩:=ht;obtain⟨x,y,e1,e2,e3⟩:=RE h1;have e4:(st.popped pre n (jq true)).carry (.mnd f)=(st.popped pre n (jq true)).Mx y g (bE (R.bj g.th) f):=by
      unfold Ch.carry Ch.popped;rw[e1];show (match st.mo y with | .chg e=>_ | _=>_)=_
      rw[e3];rfl
     rw[e4];have hy:=pn y (by rw[e1];simp)
     refine .nC rfl rfl (λk t hk hkt=>?_) (λ_ _ z=>nomatch z) λ_=>Fm h (by rw[hm];exactλz=>nomatch z)
     have ne:k≠y:=λz=>by rw[z,e3]at hkt;cases hkt
     exact(mj hy hk.1 ne rfl).trans hkt
    |chg f =>
     rw[hm]at ht hmo;obtain⟨tx,h1,hf⟩:=ht;obtain⟨x,e1,e2⟩:=O7 h1;have hx:=pn x (by rw[e1];simp)
     have e3:(st.popped pre n (jq true)).carry (.chg f)=(st.popped pre n (jq true)).Mw x tx f:=by
      unfold Ch.carry Ch.popped;rw[e1];show (match st.mo x with | .mat tx=>_ | _=>_)=_
      rw[e2]
     rw[e3];exact .lay x tx f rfl (L1 h hm) rfl (by rw[e,e1];rfl) e2 hf (EdB.mono (by omega) hmo) rfl rfl (BX hx rfl) λk t hk ne hkt=>(mj hx hk.1 ne rfl).trans hkt
theorem PR {N:Nat}{st:Ch}(I:Inv N st)(hN:N<=800){d:R.d7}(h:uB d):Ef st d (fF st d).1 (fF st d).2:=by
 cases h with
 |Fh=>rw[jW];exact R3 I hN _ _
 |drop =>
  rw[jX];unfold n8;split
  ·exact .no _
  ·exact .nC rfl rfl (λ_ _ _ h=>h) (λ_ _ z=>nomatch z) λz=>absurd (Rs.txt.inj z) (by trivial)
 |take =>
  rw[jY];unfold stepT;split
  ·split
   ·exact .no _
   ·split
    ·exact .no _
    ·exact .nC rfl rfl (λ_ _ _ h=>h) (λ_ _ z=>nomatch z) λz=>nomatch z
  ·exact .no _
 |move h =>
  rw[jZ h];unfold lL;split
  ·exact .no _
  ·have old:∀(m:Mn) (row:Str) (n:Nat) (tx:List Str),cY st n->st.mo n=.mat tx->(st.moved m row).mo n=.mat tx:=λm row n tx hn e=>(BY rfl hn).trans e
   cases d with
   |mat cs=>exact .new cs _ rfl rfl rfl
   |ed m k j ws =>
    cases m with
    |true=>exact .nC rfl rfl (old _ _) (λ_ _ z=>nomatch z) λz=>nomatch z
    |false=>exact .nC rfl rfl (old _ _) (λ_ _ z=>nomatch z) λz=>nomatch z
   |pt ws=>exact .nC rfl rfl (old _ _) (λ_ _ z=>nomatch z) λz=>nomatch z
   |nums kd ns=>rcases qU h.1 with ⟨u,rfl,rfl⟩ | ⟨rfl,rfl⟩ | ⟨rfl,rfl⟩ | ⟨rfl,rfl⟩ <;> exact .nC rfl rfl (old _ _) (λ_ _ z=>nomatch z) λz=>nomatch z
theorem w6 {st:Ch}{n:Nat}(h:n∈st.uA):cY st n:=by
 have:=List.mem_range'_1.mp (List.mem_filter.mp h).1;exact⟨this.1,by omega⟩
theorem Inv.PU {N:Nat}{st:Ch}(I:Inv N st){x:Nat×List Str}(h:x∈st.firsts):cY st x.1:=w6 (by rw[<-I.ff];exact alp h)
theorem Inv.ahZ {N:Nat}{st:Ch}(I:Inv N st){x:Nat×List Ed}(h:x∈st.kept):cY st x.1:=w6 (by rw[<-I.kk];exact alp h)
theorem TxI.ef {N:Nat}{st st':Ch}(I:Inv N st)(h:TxI st){d:R.d7}(hd:uB d){r:Rs}(f:Ef st d r st'):TxI st':=by
 cases f with
 |nC e1 e2 e3 _ _ =>
  refine⟨?_,by rw[e1];exact h.fok,by rw[e2];exact h.kok⟩
  rw[e1,e2];intro x hx y hy e;obtain⟨tx,a,b⟩:=h.txt x hx y hy e;exact⟨tx,e3 _ _ (I.PU hx) a,b⟩
 |new cs row ed _ e =>
  subst e;have mv:CJ d:=by
   subst ed;cases hd with
   |move h=>exact h
  have hm:=Fg (N:=0) mv;subst ed;have lt:∀ {n:Nat},cY st n->n≠st.made.length+1:=λh z=>by have:=h.2;omega
  refine⟨?_,?_,?_⟩
  ·intro x hx y hy e;rcases List.mem_append.mp (show x∈st.firsts++[(st.made.length+1,cs.map (si R.bl1))] from hx) with hx | hx
   ·rcases List.mem_append.mp (show y∈st.kept++[(st.made.length+1,([]:List Ed))] from hy) with hy | hy
    ·obtain⟨tx,a,b⟩:=h.txt x hx y hy e;exact⟨tx,(BY rfl (I.PU hx)).trans a,b⟩
    ·rw[aka]at hy;exact absurd (e.trans (by rw[hy])) (lt (I.PU hx))
   ·rw[aka]at hx;rcases List.mem_append.mp (show y∈st.kept++[(st.made.length+1,([]:List Ed))] from hy) with hy | hy
    ·exact absurd (e.symm.trans (by rw[hx])) (lt (I.ahZ hy))
    ·rw[aka]at hy;rw[hx,hy];exact⟨_,Fc rfl,rfl⟩
  ·intro x hx;rcases List.mem_append.mp (show x∈st.firsts++[(st.made.length+1,cs.map (si R.bl1))] from hx) with hx | hx
   ·exact h.fok x hx
   ·rw[aka]at hx;rw[hx];exact hm
  ·intro y hy;rcases List.mem_append.mp (show y∈st.kept++[(st.made.length+1,([]:List Ed))] from hy) with hy | hy
   ·exact h.kok y hy
   ·rw[aka]at hy;rw[hy];exactλe he=>nomatch he
 |lay n tx e _ _ _ _ e1 hf he e2 e3 e4 e5 =>
  refine⟨?_,by rw[e2];exact h.fok,?_⟩
  ·rw[e2,e3];intro x hx y hy exy;obtain⟨y0,hy0,rfl⟩:=List.mem_map.mp hy
   by_cases z:y0.1=n
   ·rw[if_pos z]at exy ⊢;have exn:x.1=n:=exy.trans z;obtain⟨t,a,b⟩:=h.txt x hx y0 hy0 exy;rw[exn,e1]at a;cases a;exact⟨_,by rw[exn];exact e4,GC b hf⟩
   ·rw[if_neg z]at exy ⊢;obtain⟨t,a,b⟩:=h.txt x hx y0 hy0 exy;exact⟨t,e5 _ _ (I.PU hx) (by rw[exy];exact z) a,b⟩
  ·rw[e3];intro y hy f hfm;obtain⟨y0,hy0,rfl⟩:=List.mem_map.mp hy
   by_cases z:y0.1=n
   ·rw[if_pos z]at hfm;rcases List.mem_append.mp hfm with g | g
    ·exact h.kok y0 hy0 f g
    ·rw[aka]at g;rw[g];exact he
   ·rw[if_neg z]at hfm;exact h.kok y0 hy0 f hfm
def Ce (pl:List Nat)(co:Option Ed)(n:Nat):Option Ed:=if pl.head?=some n then co else none
def KbR (pl:List Nat)(co:Option Ed)(kb kl:List (Nat×List Ed)):Prop:=bD (λa b=>a.1=b.1/\b.2=a.2++(Ce pl co a.1).toList) kb kl
theorem Fn (pl:List Nat):∀kl:List (Nat×List Ed),KbR pl none kl kl
 |[]=>.nil
 |x::kl=>.cons ⟨rfl,by unfold Ce;split <;> exact(akP _).symm⟩ (Fn pl kl)
theorem PV {pl:List Nat}{n:Nat}(h:pl.head?=some n)(e:Ed):∀kl:List (Nat×List Ed),KbR pl (some e) kl (p6 n e kl)
 |[]=>.nil
 |x::kl=>.cons (by
   unfold Ce;rw[h];dsimp only
   by_cases z:x.1=n
   ·rw[if_pos z,if_pos (by rw[z])];exact⟨rfl,rfl⟩
   ·rw[if_neg z,if_neg (λq=>z (ajZ q).symm)];exact⟨rfl,(akP _).symm⟩) (PV h e kl)
theorem bD.Wo {α β:Type}{R:α->β->Prop}:∀ {as:List α} {bs:List β} {i:Nat} {b:β},bD R as bs->bs[i]?=some b->∃a,as[i]?=some a/\R a b
 |_,_,_,_,.nil,h=>by simp at h
 |_,_,0,_,.cons h t,e=>by
  rw[aj8]at e;cases e;exact⟨_,aj8,h⟩
 |_,_,i+1,_,.cons h t,e=>by
  rw[akn]at e;obtain⟨a,e1,e2⟩:=t.Wo e;exact⟨a,by rw[akn];exact e1,e2⟩
def MI (A:Adr)(i:Nat):Sp:=λvs H Q _=>∃(o:Addr) (n:Nat) (c:Col) (st:Ch),vs=[.ref o,nV n]/\eP A i c H o st/\cY st n/\∀u H',bu H H'->MnT (bS c H) H' (st.mo n) u->Q (.ref u) H'
section
variable{P:sr}{w:World}{K:bo}{mg:Str->Option Value}{base:Heap}{A:Adr}
theorem vq (T:Txt w.params K mg A){i:Nat}:a7 P w K mg base (CXX P w) 3 A.cc A.i6 ["self","number"] (MI A i):=by
 have JS:∀k,k < 8->a7 P w K mg base CX0 2 (A.ft k) (A.ftd k) ["self"] (E6 A K k):=Gi T;refine T.fq.okX we (λvs H Q E h=>?_) (λcdv A' outer s H vs Q E hr h=>?_)
 ·obtain⟨o,n,c,st,rfl,_⟩:=h;rfl
 ·obtain⟨o,n,c,st,rfl,hc,hn,q⟩:=h;obtain⟨dx,aM,aP,aA,aD,aF,aE,aR,ms,ds,ws,fs,es,X⟩:=hc.ex;have hu1:=hr.u1;have hgd:=hr.gd;refine⟨_,(bb (gA (D3 (ue hu1 (pv 1) (bh (pv 0) rfl)))
 (bw (iF T.tj rfl rfl T.va (aa (AN (kM (uO (pv 1) uN))) af)))
 (uM aC))
 (bw (psx (aG (lW (n:=8) (Cf:=A.C) (a8 hu1 (bh (pv 0) rfl) (pv 1) (λ_ _=>rfl)) T.cl T.JN JS hr T.JO a5))))),?_⟩
  try dsimp only[bG]
  refine⟨_,rfl,eW rfl X.ob T.aq T.jq2 il ⟨aM,_,rfl,.inl ⟨_,kf (n:Int),.inl X.made.2,rfl,rfl⟩,_,rfl,?_⟩⟩;refine aQ λGq gq=>?_
  obtain⟨mo,hv,hmo⟩:=X.RB hn;refine gq ?_;rw[hv];refine bZ ?_;refine aQ λGq gq=>?_
  obtain⟨_,dm,v,hm,hvv⟩:=hmo;refine gq ?_;refine⟨_,rfl,o,A.ax,dx,_,.ref aM,rfl,X.ob,T.aq,T.jq2,il,_,rfl,aM,_,rfl,.inl ⟨_,kf (n:Int),.inl X.made.2,rfl,hv.symm⟩,(st.mo n).k,(st.mo n).k8,mo,dm,_,rfl,hm,LD _ v,?_⟩;generalize st.mo n=m at hm hvv q
  by_cases h0:m.k=0
  ·obtain⟨tx,rfl⟩:∃tx,m=.mat tx:=by cases m <;> first | exact⟨_,rfl⟩ | exact absurd h0 (by simp[Mn.k])
   refine aQ λGq gq=>?_
   obtain⟨p,rfl,hp⟩:=hvv;refine gq ?_;refine .inl ⟨rfl,mo,dm,p,tx.map V.str,rfl,hm,SqL.of hp.2,λp2 u hp2 hu npu=>?_⟩
   have nu:(upd H p2 (.lst (tx.map V.str))) u=none:=(aw (akp npu)).trans hu;exact q u _ ((aB hp2).new nu) ⟨bT hu,.ref p2,ae,p2,rfl,bT hp2,(aw npu).trans ae⟩
  ·refine .inr ⟨by omega,mo,dm,v,rfl,hm,λu hu=>?_⟩
   have su:=aB (o:=.tup (rowOf m.k v)) hu;exact q u _ su ⟨bT hu,v,ae,hvv.step (Step.cl (W:=λ_=>False) id su)⟩
end
def PX (A:Adr)(i:Nat):Sp:=λvs H Q _=>∃(o:Addr) (n:Nat) (c:Col) (st:Ch) (x:Nat×List Str),vs=[.ref o,nV n]/\eP A i c H o st/\at1 n st.firsts=some x/\Q .non H
def PY (A:Adr)(i:Nat):Sp:=λvs H Q _=>∃(o:Addr) (n:Nat) (c:Col) (st:Ch) (x:Nat×List Str),vs=[.ref o,nV n]/\eP A i c H o st/\at1 n st.firsts=some x/\∀l,H l=none->Q (.ref l) (upd H l (.lst (x.2.map V.str)))
def R4 (A:Adr)(i:Nat):Sp:=λvs H Q _=>∃(o:Addr) (n:Nat) (c:Col) (st:Ch) (x:Nat×List Str) (y:Nat×List Ed),vs=[.ref o,nV n]/\eP A i c H o st/\at1 n st.firsts=some x/\at1 n st.kept=some y /\
 ∀l ts,H l=none->bD (λe t=>TupAt c H t (dH e)) y.2 ts->Q (.ref l) (upd H l (.lst (ts.map V.ref)))
def R5 (K:bo):Sp:=λvs H Q _=>∃(p q:Addr) (tx r:List Str) (es:List Ed) (ts:List Addr),vs=[.ref p,.ref q]/\SqL K H p (tx.map V.str)/\SqL K H q (ts.map V.ref)/\bD (λe t=>SqT K H t (dH e)) es ts/\plE tx es=some r/\(∀e∈es,qP e)/\tx.length+es.length<=1000 /\
 ∀l H',bu H H'->H l=none->H' l=some (.lst (r.map V.str))->Q (.ref l) H'
section
variable{P:sr}{w:World}{K:bo}{mg:Str->Option Value}{base:Heap}{A:Adr}
theorem og (T:Txt w.params K mg A){i:Nat}:a7 P w K mg base (CXX P w) 1 A.br A.ei ["self","number"] (PX A i):=by
 refine T.cy.okX nD (λvs H Q E h=>?_) (λcdv A' outer s H vs Q E hr h=>?_)
 ·obtain⟨o,n,c,st,x,rfl,_⟩:=h;rfl
 ·obtain⟨o,n,c,st,x,rfl,hc,hx,q⟩:=h;obtain⟨dx,aM,aP,aA,aD,aF,aE,aR,ms,ds,ws,fs,es,X⟩:=hc.ex;have hu1:=hr.u1;have hgd:=hr.gd;refine⟨_,(bw (gA (D3 (ue hu1 (pv 1) (bh (pv 0) rfl)))
 (bw (iF T.tj rfl rfl T.va (aa (AN (kM (uO (pv 1) uN))) af)))
 (uM aC))),?_⟩
  try dsimp only[bG]
  refine aQ λGq gq=>?_
  obtain⟨v,hv,p,rfl,hl⟩:=X.first.val hx;refine gq ?_;refine⟨_,rfl,eW rfl X.ob T.aq T.jq3 lE ⟨aF,_,rfl,.inl ⟨_,kf (n:Int),.inl X.firsts.2,rfl,rfl⟩,_,rfl,?_⟩⟩;rw[hv];exact bZ q
theorem uH (T:Txt w.params K mg A){i:Nat}:a7 P w K mg base (CXX P w) 2 A.bH A.gj ["self","number"] (PY A i):=by
 refine T.dE.okX rN (λvs H Q E h=>?_) (λcdv A' outer s H vs Q E hr h=>?_)
 ·obtain⟨o,n,c,st,x,rfl,_⟩:=h;rfl
 ·obtain⟨o,n,c,st,x,rfl,hc,hx,q⟩:=h;obtain⟨dx,aM,aP,aA,aD,aF,aE,aR,ms,ds,ws,fs,es,X⟩:=hc.ex;have hu1:=hr.u1;refine⟨_,(bb (iY (pj (px (pv 0)) T.aq T.eN (og (i:=i) T) hr T.cz (pax (aa (pv 1) af))))
 (bw (psx (aG (cE cB (by rfl) T.i9 gU (aa (a8 hu1 (bh (pv 0) rfl) (pv 1) (λ_ _=>rfl)) af)))))),?_⟩
  try dsimp only[bG]
  refine aQ λGq gq=>?_
  obtain⟨v,hv,p,rfl,hl⟩:=X.first.val hx;refine gq ?_;refine mtv rfl X.ob (cA (by trivial)) ⟨_,rfl,o,n,c,st,x,rfl,hc,hx,?_⟩
  exact⟨_,rfl,o,A.ax,dx,_,.ref aF,rfl,X.ob,T.aq,T.jq3,lE,_,rfl,aF,_,rfl,.inl ⟨_,kf (n:Int),.inl X.firsts.2,rfl,hv.symm⟩,p,_,rfl,.inl (SqL.of hl.2),λl hl0=>q l hl0⟩
theorem rE (T:Txt w.params K mg A){i:Nat}:a7 P w K mg base (CXX P w) 2 A.bB A.fj ["self","number"] (R4 A i):=by
 refine T.cU.okX pw (λvs H Q E h=>?_) (λcdv A' outer s H vs Q E hr h=>?_)
 ·obtain⟨o,n,c,st,x,y,rfl,_⟩:=h;rfl
 ·obtain⟨o,n,c,st,x,y,rfl,hc,hx,hy,q⟩:=h;obtain⟨dx,aM,aP,aA,aD,aF,aE,aR,ms,ds,ws,fs,es,X⟩:=hc.ex;have hu1:=hr.u1;refine⟨_,(bb (iY (pj (px (pv 0)) T.aq T.eN (og (i:=i) T) hr T.cz (pax (aa (pv 1) af))))
 (bw (psx (aG (cE cB (by rfl) T.i9 gU (aa (a8 hu1 (bh (pv 0) rfl) (pv 1) (λ_ _=>rfl)) af)))))),?_⟩
  try dsimp only[bG]
  refine aQ λGq gq=>?_
  obtain⟨v,hv,p,ts,rfl,hl,ht⟩:=X.kept.val hy;refine gq ?_;refine mtv rfl X.ob (cA (by trivial)) ⟨_,rfl,o,n,c,st,x,rfl,hc,hx,?_⟩
  exact⟨_,rfl,o,A.ax,dx,_,.ref aE,rfl,X.ob,T.aq,T.jq6,mT,_,rfl,aE,_,rfl,.inl ⟨_,kf (n:Int),.inl X.jx.2,rfl,hv.symm⟩,p,_,rfl,.inl (SqL.of hl.2),λl hl0=>q l ts hl0 ht⟩
theorem J7 (T:Txt w.params K mg A):a7 P w K mg base CX0 2 A.EK A.u5 ["_law_first","_law_edits"] (R5 K):=by
 refine T.yh.ok qE (λvs H Q E h=>?_) (λcdv A' outer s H vs Q E hr h=>?_)
 ·obtain⟨p,q,tx,r,es,ts,rfl,_⟩:=h;rfl
 ·obtain⟨p,q,tx,r,es,ts,rfl,hp,hq,ha,hpl,hok,hle,k⟩:=h;refine⟨_,(ai (a4 (i:=2) qE.nd rfl (wt rfl) (cE cB (by rfl) T.i9 gU (aa (pv 0) af)))
 (ai (xC alv rfl (qz (pv 1)) (iW (i:=3) qE.nd rfl (wt rfl))
 (ai (a9 (sv (oj (aX (yw T) hr rfl T.wB T.sV.kp T.wA .nil a5 (aa (pv 2) (aa (pv 3) af)))))
 (aj (aG ix))
 aC)
 (aj (a4 (i:=2) qE.nd rfl (wt rfl) (aX (yx T) hr rfl T.wD T.sW.kp T.wC .nil a5 (aa (pv 2) (aa (pv 3) af)))))))
 (aj (aG (pv 2))))),?_⟩
  try dsimp only[bG]
  have sz:gr=16777216:=by decide
  refine⟨_,rfl,p,_,rfl,.inl hp,λl hl=>?_⟩
  have hlen:=ha.len
  try dsimp only[dD]
  refine⟨_,rfl,q,rfl,⟨_,(aB hl).seq hq⟩,?_⟩;refine vM (K:=K) (a:=q) (xs:=ts.map V.ref) (λi σ' H'=>bu H H'/\∃l' v3 t,σ'=[some (.ref p),some (.ref q),some (.ref l'),v3]/\H l'=none/\H' l'=some (.lst (t.map V.str))/\plE t (es.drop i)=some r/\t.length<=tx.length+i)
   ⟨aB hl,l,_,tx,rfl,hl,ae,hpl,kq _⟩ (λi σ' H' _ ⟨s,_⟩=>s.seq hq) ?_ ?_
  ·rintro i y σ' H' hi ⟨s1,l',v3,t,rfl,hl',ht,hpt,hlt⟩;refine aQ λGq gq=>?_
   obtain⟨a,hi1,rfl⟩:∃a,ts[i]?=some a/\V.ref a=y:=by
    rw[aj7]at hi;cases hz:ts[i]? with
    |none=>rw[hz]at hi;cases hi
    |some t=>rw[hz]at hi;exact⟨t,rfl,ajZ hi⟩
   obtain⟨e,he1,he2⟩:=ha.Wo hi1;have ah0:=(List.getElem?_eq_some_iff.mp he1).1;rw[List.drop_eq_getElem_cons ah0,(List.getElem?_eq_some_iff.mp he1).2]at hpt;have Wq:(if d9 t.length e=true then plE (bE t e) (es.drop (i+1)) else none)=some r:=hpt
   have ok:=hok e (akl he1);have hte:=bR s1 he2;refine gq ?_;split at Wq
   ·rename_i hf
    try dsimp only[dD]
    refine⟨_,rfl,_,rfl,l',a,_,e,rfl,SqL.of ht,hte,ok,?_⟩;rw[ba,hf];refine⟨true,rfl,bZ ?_⟩;refine⟨_,rfl,_,rfl,l',a,t,e,rfl,SqL.of ht,by omega,hte,ok,hf,λp2 H2 s2 hp2 hp3=>?_⟩
    have:=p7 t e;exact⟨s1.trans s2,p2,_,_,rfl,same_none s1 hp2,hp3,Wq,by omega⟩
   ·cases Wq
  ·rintro σ' H' ⟨s1,l',v3,t,rfl,hl',ht,hpt,_⟩;rw[ba,<-hlen,List.drop_length]at hpt;cases hpt;exact⟨_,rfl,k l' H' s1 hl' ht⟩
end
def GD (es:List Ed):PyData:=.list (es.map edD)
theorem yz {K:bo}{c:Col}{H:Hp}{p:Addr}{es:List Ed}{ts:List Addr}(h:SqL K H p (ts.map V.ref))(ha:bD (λe t=>TupAt c H t (dH e)) es ts):DV K H (GD es) (.ref p):=by
 unfold GD DV;exact⟨p,_,rfl,h,bD.dvs (R:=λe v=>∃t,v=.ref t/\TupAt c H t (dH e)) (λe v ⟨t,ev,ht⟩=>by rw[ev];exact OT e ht.sq) (bD.mapR (ha.imp λe t z=>⟨t,rfl,z⟩))⟩
theorem AA {es:List Ed}(h:∀e∈es,EdB 900 e):(GD es).canLay0=true:=by
 unfold GD;simp only[akm];exact L0 λe he=>J4 (h e he).str
theorem yA {es:List Ed}(h:∀e∈es,EdB 900 e):ale (GD es)=true:=p9 (AA h) (by
 have:=DU J5 es;unfold GD;simp only[akE];omega)
theorem GF {K:bo}{H:Hp}{u p:Addr}{tx:List Str}(h:SqT K H u [.str (nm 0),.ref p])(hp:SqL K H p (tx.map V.str)):DV K H (mnD (.mat tx)) (.ref u):=by
 unfold mnD DV;refine⟨u,_,rfl,h,?_⟩;unfold DVs;refine⟨_,_,rfl,by unfold DV;rfl,?_⟩
 unfold DVs;exact⟨_,_,rfl,vV hp,by unfold DVs;rfl⟩
theorem TupAt.abi {c:Col}{H:Hp}{t a:Addr}{xs vs ws:List V}(h:TupAt c H t xs)(ha:H a=some (.lst vs)):TupAt c (upd H a (.lst ws)) t xs:=by
 obtain⟨n,h⟩:=h;have ne:t≠a:=λz=>by
  rw[z]at h;rcases h with h | ⟨o,h⟩ <;> rw[ha]at h <;> cases h
 rcases h with h | ⟨o,h⟩
 ·exact⟨n,.inl ((aw ne).trans h)⟩
 ·exact⟨n,.inr ⟨o,(aw ne).trans h⟩⟩
def w8 (c:Col)(H:Hp):Option Ed->V->Prop
 |none,v=>v=.non
 |some e,v=>∃t,v=.ref t/\TupAt c H t (dH e)
theorem w8.step {W:Option (Nat×Rl)->Prop}{c c':Col}{H H':Hp}(s:Step W c c' H H'):∀ {m:Option Ed} {v:V},w8 c H m v->w8 c' H' m v
 |none,_,h=>h
 |some _,_,⟨t,e,h⟩=>⟨t,e,h.step s⟩
def KL (c:Col)(H:Hp)(es:List Ed)(p:Addr):Prop:=∃ts:List Addr,(c p=none/\H p=some (.lst (ts.map V.ref)))/\bD (λe t=>TupAt c H t (dH e)) es ts
theorem KL.step {W:Option (Nat×Rl)->Prop}{c c':Col}{H H':Hp}(s:Step W c c' H H'){es:List Ed}{p:Addr}:KL c H es p->KL c' H' es p
 |⟨ts,⟨h1,h2⟩,h3⟩=>⟨ts,dc s h1 h2,h3.imp λ_ _ z=>z.step s⟩
def ah1 (A:Adr)(i:Nat):Sp:=λvs H Q _=>∃(o p q:Addr) (n:Nat) (v4:V) (c:Col) (st:Ch) (N:Nat) (x:Nat×List Str) (y:Nat×List Ed) (es0:List Ed) (m:Option Ed),vs=[.ref o,nV n,.ref p,.ref q,v4]/\eP A i c H o st/\Inv N st/\N<=800/\TxI st/\at1 n st.firsts=some x/\at1 n st.kept=some y /\
 DC c H p x.2/\KL c H es0 q/\w8 c H m v4/\y.2=es0++m.toList /\
 ∀l H',bu H H'->H l=none->KL (bS c H) H' y.2 l->Q (.ref l) H'
section
variable{P:sr}{w:World}{K:bo}{mg:Str->Option Value}{base:Heap}{A:Adr}
theorem yB (T:Txt w.params K mg A){i:Nat}:a7 P w K mg base CX0 4 A.oy A.jO ["_law_chamber","_law_number","_law_first","_law_before","_law_change"] (ah1 A i):=by
 refine T.lD.ok g8 (λvs H Q E h=>?_) (λcdv A' outer s H vs Q E hr h=>?_)
 ·obtain⟨o,p,q,n,v4,c,st,N,x,y,es0,m,rfl,_⟩:=h;rfl
 ·obtain⟨o,p,q,n,v4,c,st,N,x,y,es0,m,rfl,hc,I,hN,txi,hx,hy,hp,⟨ts0,⟨cq,hq⟩,ha0⟩,hm,ey,k⟩:=h;obtain⟨dx,aM,aP,aA,aD,aF,aE,aR,ms,ds,ws,fs,es,X⟩:=hc.ex;have jh:=hr.units;refine⟨_,(ai (a4 (i:=5) g8.nd rfl (wt rfl) (eG (pv 0) T.aq T.gL (uH (i:=i) T) (hr.mono (by decide)) T.dF .nil qC (aa (pv 1) af)))
 (ai (a4 (i:=6) g8.nd rfl (wt rfl) (eG (pv 0) T.aq T.fL (rE (i:=i) T) (hr.mono (by decide)) T.cV .nil qC (aa (pv 1) af)))
 (ai (a9 (PW.pt (pw_or (az (mw jh) (pv 5) (pv 2) (aJ _)) (pw_or1 (az (mw jh) (eG (pv 0) T.aq T.hG (vq (i:=i) T) hr T.dZ .nil qC (aa (pv 1) af)) (bp (aa ao (aa (aX (J7 T) (hr.mono (by decide)) rfl T.Dt T.yh.kp T.Ds .nil a5 (aa (pv 2) (aa (pv 6) af))) af))) (aJ _)))))
 (aj (aG ix))
 aC)
 (ai (a9 (PW.pt (pw_and (az (mw jh) (pv 6) (pv 3) (aJ _)) (pw_and1 (PW.pt (pw_or (az NB (pv 4) ix (aJ _)) (pw_or1 (az (mw jh) (pv 6) (bc vW (pv 3) (bQ (aa (pv 4) af))) (aJ _))))))))
 (aj (aG ix))
 aC)
 (ai (bJ (gw rf aj4 aj5 dn (pv 5) (aa ao af)))
 (ai (a4 (i:=7) g8.nd rfl (wt rfl) (cE cB (by rfl) T.i9 gU (aa (pv 6) af)))
 (ai (bJ (gw rf aj4 aj5 dn (pv 6) (aa (bp (aa ao (aa ah af))) af)))
 (ai (a9 (PW.pt (pw_or (az (mw jh) (eG (pv 0) T.aq T.fL (rE (i:=i) T) (hr.mono (by decide)) T.cV .nil qC (aa (pv 1) af)) (pv 7) (aJ _)) (pw_or1 (az (mw jh) (eG (pv 0) T.aq T.gL (uH (i:=i) T) (hr.mono (by decide)) T.dF .nil qC (aa (pv 1) af)) (pv 2) (aJ _)))))
 (aj (aG ix))
 aC)
 (aj (aG (pv 7))))))))))),?_⟩
  try dsimp only[bG]
  refine aQ λGq gq=>?_
  obtain⟨tx1,e1,e2⟩:=txi.txt x (dC hx).2 y (dC hy).2 ((dC hx).1.trans (dC hy).1.symm);have hno:=I.PU (dC hx).2;rw[(dC hx).1]at e1 hno;have mok:=I.vj hno;rw[e1]at mok;have fo:=txi.fok x (dC hx).2;have ko:=txi.kok y (dC hy).2;have kl:=I.lk y (dC hy).2;have sz:gr=16777216:=by decide
  refine gq ?_;refine mtv rfl X.ob (cA (by trivial)) ⟨_,rfl,o,n,c,st,x,rfl,hc,hx,λl1 hl1=>?_⟩
  have s1:=aB (o:=.lst (x.2.map V.str)) hl1;have h11:(upd H l1 (.lst (x.2.map V.str))) l1=some (.lst (x.2.map V.str)):=ae;generalize upd H l1 (.lst (x.2.map V.str))=H1 at s1 h11 ⊢;have X1:=X.same s1
  try dsimp only[dD]
  refine mtv rfl X1.ob (cA (by trivial)) ⟨_,rfl,o,n,c,st,x,y,rfl,X1.at,hx,hy,λl2 ts hl2 ha=>?_⟩
  have s2:=aB (o:=.lst (ts.map V.ref)) hl2;have h22:(upd H1 l2 (.lst (ts.map V.ref))) l2=some (.lst (ts.map V.ref)):=ae;generalize upd H1 l2 (.lst (ts.map V.ref))=H2 at s2 h22 ⊢;have s02:=s1.trans s2;have X2:=X.same s02;have ah2:H l2=none:=same_none s1 hl2;have ha2:bD (λe t=>TupAt c H2 t (dH e)) y.2 ts:=ha.imp λ_ _ z=>z.step (Step.same (W:=λ_=>False) id s2)
  have tl:=ha.len
  try dsimp only[dD]
  refine⟨_,rfl,_,rfl,_,_,vV (SqL.of (s2 _ _ h11)),vV (SqL.of (s02 _ _ hp.2)),nQ fo.2,nQ fo.2,_,rfl,xI (FI _) ?_⟩;refine mtv rfl X2.ob (cA (by trivial)) ⟨_,rfl,o,n,c,st,rfl,X2.at,hno,λu H3 s3 mn3=>?_⟩
  refine aQ λGq gq=>?_
  rw[e1]at mn3;obtain⟨_,v,hu,p3,rfl,_,hp3⟩:=mn3;have s03:=s02.trans s3;refine gq ?_;refine⟨_,rfl,_,rfl,p,l2,x.2,tx1,y.2,ts,rfl,SqL.of (s03 _ _ hp.2),SqL.of (s3 _ _ h22),ha2.imp λ_ _ z=>bR s3 z.sq,e2,(λe he=>(ko e he).ok (by decide)),by omega,λl3 H4 s4 hl3 h33=>⟨(sl 2),λu2 hu2=>?_⟩⟩
  have s5:=aB (o:=.tup [.str (ar "matter"),.ref l3]) hu2;have s45:=s4.trans s5;refine⟨_,_,GF (SqT.of (s45 _ _ hu)) (SqL.of (s45 _ _ hp3)),GF (SqT.of ae) (SqL.of (s5 _ _ h33)),p9 (J6 mok) (PN _),p9 (J6 mok) (PN _),_,rfl,xI (eqv_refl _ (J6 mok)) ?_⟩;have s05:=s03.trans s45;have s25:=s3.trans s45;generalize upd H4 u2 (.tup [.str (ar "matter"),.ref l3])=H5 at s05 s25 ⊢;clear s45 s5 hu2 h33 hl3 s4 hp3 hu s03 s3;have hq5:SqL K H5 q (ts0.map V.ref):=SqL.of (s05 _ _ hq);have ha5:bD (λe t=>TupAt c H5 t (dH e)) y.2 ts:=ha2.imp λ_ _ z=>z.step (Step.same (W:=λ_=>False) id s25)
  have hb5:bD (λe t=>TupAt c H5 t (dH e)) es0 ts0:=ha0.imp λ_ _ z=>z.step (Step.same (W:=λ_=>False) id s05)
  have h25:=s25 _ _ h22;have h15:=s25 _ _ (s2 _ _ h11);have ko0:∀e∈es0,EdB 900 e:=λe he=>ko e (by rw[ey];exact akA _ he)
  dsimp only[S8,dD];refine d6 (λσ' H'=>bu H5 H'/\σ'=[some (.ref o),some (nV n),some (.ref p),some (.ref q),some v4,some (.ref l1),some (.ref l2),none]) ?r1 (λN' nN=>?f1)
  case f1 =>
   refine⟨_,rfl,_,rfl,_,_,yz (SqL.of h25) ha5,yz hq5 hb5,yA ko,yA ko0,_,rfl,?_⟩;cases m with
   |none =>
    have ey':y.2=es0:=by rw[ey];exact akP _
    rw[ey'];exact xI (eqv_refl _ (AA ko0)) (nN _ _ ⟨bu.refl _,rfl⟩)
   |some e =>
    refine aQ λGq gq=>?_
    obtain⟨t,rfl,ht⟩:=hm;have ey':y.2=es0++[e]:=ey;have ht5:=ht.step (Step.same (W:=λ_=>False) id s05)
    refine gq ?_;cases akR (GD y.2) (GD es0) with
    |true=>exact bZ (nN _ _ ⟨bu.refl _,rfl⟩)
    |false =>
     refine dW ⟨_,rfl,rfl,tsf (decide_eq_false λz=>V.noConfusion z) ?_⟩
     have tl0:=ha0.len;have yl:y.2.length=es0.length+1:=by rw[ey',me];rfl
     refine⟨_,rfl,_,rfl,_,rfl,(sl 1),λp1 hp1=>⟨q,p1,_,_,rfl,rfl,(aB hp1) _ _ (s05 _ _ hq),ae,?_,λp2 hp2=>?_⟩⟩
     ·rw[ba];show ts0.length+1<=_;omega
     ·have s6:=(aB (o:=.lst [V.ref t]) hp1).new (o:=.lst (ts0.map V.ref++[V.ref t])) hp2;have hb6:bD (λe' t'=>TupAt c (upd (upd H5 p1 (.lst [V.ref t])) p2 (.lst (ts0.map V.ref++[V.ref t]))) t' (dH e')) (es0++[e]) (ts0++[t]):=bD.snoc (hb5.imp λ_ _ z=>z.step (Step.same (W:=λ_=>False) id s6)) (ht5.step (Step.same (W:=λ_=>False) id s6))
      rw[<-ey']at hb6;refine⟨_,_,yz (SqL.of (s6 _ _ h25)) (ha5.imp λ_ _ z=>z.step (Step.same (W:=λ_=>False) id s6)),yz (ts:=ts0++[t]) (SqL.of (by rw[kx];exact ae)) hb6,yA ko,yA ko,_,rfl,xI (eqv_refl _ (AA ko)) (nN _ _ ⟨s6,rfl⟩)⟩
  case r1 =>
   rintro σ' H6 ⟨s6,rfl⟩;have h16:=s6 _ _ h15;have h26:=s6 _ _ h25;have s06:=s05.trans s6;have ha6:bD (λe t=>TupAt c H6 t (dH e)) y.2 ts:=ha5.imp λ_ _ z=>z.step (Step.same (W:=λ_=>False) id s6)
   have n12:l2≠l1:=λz=>by rw[z,h11]at hl2;cases hl2
   clear ha5 ha2 ha hb5 h25 h15 hq5 s6 s25 s05 h22 h11;refine⟨_,rfl,.inl ⟨rfl,_,SqL.of h16⟩,l1,_,_,rfl,rfl,h16,by rw[ba];omega,?_⟩
   have s07:=s06.own (o:=.lst (x.2.map V.str++[V.str (ar "x")])) hl1;have h27:(upd H6 l1 (.lst (x.2.map V.str++[V.str (ar "x")]))) l2=some (.lst (ts.map V.ref)):=(aw n12).trans h26;have ha7:=ha6.imp λe t z=>TupAt.abi (ws:=x.2.map V.str++[V.str (ar "x")]) z h16
   generalize upd H6 l1 (.lst (x.2.map V.str++[V.str (ar "x")]))=H7 at s07 h27 ha7 ⊢
   try dsimp only[dD]
   refine⟨_,rfl,l2,_,rfl,.inl (SqL.of h27),λl4 hl4=>?_⟩
   have n42:l4≠l2:=λz=>by rw[z,h27]at hl4;cases hl4
   have s8:=aB (o:=.lst (ts.map V.ref)) hl4;have h48:(upd H7 l4 (.lst (ts.map V.ref))) l4=some (.lst (ts.map V.ref)):=ae;generalize upd H7 l4 (.lst (ts.map V.ref))=H8 at s8 h48 ⊢
   try dsimp only[dD]
   refine⟨_,rfl,.inl ⟨rfl,_,SqL.of (s8 _ _ h27)⟩,(sl 2),λtc htc=>?_⟩
   have s9:=s8.new (o:=.tup [.str (ar "cut"),.int 0]) htc;have h49:=(aB (o:=.tup [.str (ar "cut"),.int 0]) htc) _ _ h48;generalize upd H8 tc (.tup [.str (ar "cut"),.int 0])=H9 at s9 h49 ⊢;refine⟨l2,_,_,rfl,rfl,s9 _ _ h27,by rw[ba];omega,?_⟩
   have s10:=(s07.trans s9).own (o:=.lst (ts.map V.ref++[V.ref tc])) ah2;have h4:(upd H9 l2 (.lst (ts.map V.ref++[V.ref tc]))) l4=some (.lst (ts.map V.ref)):=(aw n42).trans h49;have Ws:=ha7.imp λe t z=>TupAt.abi (ws:=ts.map V.ref++[V.ref tc]) (z.step (Step.same (W:=λ_=>False) id s9)) (s9 _ _ h27)
   have abj:=same_none s07 hl4;generalize upd H9 l2 (.lst (ts.map V.ref++[V.ref tc]))=H10 at s10 h4 Ws ⊢;clear h49 s9 htc h48 s8 hl4 ha7 h27 s07 ha6 h26 h16 s06 n42 n12;have X10:=X.same s10
   try dsimp only[dD]
   refine mtv rfl X10.ob (cA (by trivial)) ⟨_,rfl,o,n,c,st,x,y,rfl,X10.at,hx,hy,λl5 ts5 hl5 ha5=>?_⟩
   have s11:=aB (o:=.lst (ts5.map V.ref)) hl5;refine⟨_,rfl,_,_,yz (SqL.of ae) (ha5.imp λ_ _ z=>z.step (Step.same (W:=λ_=>False) id s11)),yz (SqL.of (s11 _ _ h4)) (Ws.imp λ_ _ z=>z.step (Step.same (W:=λ_=>False) id s11)),yA ko,yA ko,_,rfl,xI (eqv_refl _ (AA ko)) ?_⟩
   have X11:=X10.same s11;refine mtv rfl X11.ob (cA (by trivial)) ⟨_,rfl,o,n,c,st,x,rfl,X11.at,hx,λl6 hl6=>?_⟩
   have s12:=s11.new (o:=.lst (x.2.map V.str)) hl6;refine⟨_,rfl,_,_,vV (SqL.of ae),vV (SqL.of (s12 _ _ (s10 _ _ hp.2))),nQ fo.2,nQ fo.2,_,rfl,xI (FI _) ?_⟩;refine⟨_,rfl,k l4 _ (s10.trans s12) abj ⟨ts,⟨bT abj,s12 _ _ h4⟩,Ws.imp λe t z=>?_⟩⟩
   have z2:=z.step (Step.same (W:=λ_=>False) (c:=c) id s12)
   refine⟨?_,z2.2⟩;unfold bS;split
   ·exact z2.1
   ·rfl
end
theorem R6 (n:Int):Inv 0 (LW n) :=
 ⟨kq 0,kq 0,kq 0,kq 0,(λ_ h=>nomatch h),⟨by show (1:Int)<=1;decide,by show (1:Int)<=_;decide⟩,(λ_ h=>nomatch h),(λ_ h=>nomatch h),List.nodup_nil,.nil,(λ_ h=>nomatch h),rfl,rfl,(λ_ h=>nomatch h)⟩
theorem R7 (xs:List V):(gy xs (some 1) (some 63)).length<=62:=by
 unfold gy;rw[show (1:Int)=((1:Nat):Int) from rfl,show (63:Int)=((63:Nat):Int) from rfl,HT.vP,HT.vP,akF,alg]
 omega
theorem MJ {W:Option (Nat×Rl)->Prop}(n:¬W none){c c':Col}{H1 H2:Hp}{x dx:Addr}{o:HO}(hx:H1 x=none)(hdx:H1 dx=none)(hk:∀a v,(upd (upd H1 dx (.own x)) x o) a=some v->a≠x->H2 a=some v/\c' a=c a):Step W c c' H1 H2:=by
 have old:∀a v,H1 a=some v->H2 a=some v/\c' a=c a:=λa v h =>
  hk a v ((aw (aI h hx)).trans ((aw (aI h hdx)).trans h)) (aI h hx)
 exact⟨n,λa v h _=>(old a v h).1,λa v h=>⟨v,(old a v h).1⟩,λa v h _=>(old a v h).2⟩
theorem jt.other {i j:Nat}(n:i≠j){c c':Col}{H H':Hp}{m:Addr}{st:Ch}(s:Step (d8 j) c c' H H')(h:jt i c H m st):jt i c' H' m st:=h.free (λr=>eO n r) s
theorem GG (st:Ch)(m:Mn):(st.carry m).cK=st.cK:=by
 unfold Ch.carry;split
 ·split
  ·split <;> rfl
  ·rfl
 ·split
  ·split <;> rfl
  ·rfl
 ·split <;> rfl
 ·rfl
 ·split <;> rfl
 ·rfl
 ·rfl
theorem w9 (st:Ch):st.opened.cK=st.cK:=by unfold Ch.opened;rfl
theorem GH {st:Ch}{d:R.d7}(h:uB d):(fF st d).2.cK=st.cK:=by
 cases h with
 |Fh =>
  rw[jW];unfold kY;split
  ·rfl
  ·split
   ·rfl
   ·show ((if _ then _ else _:Ch).vi _).cK=_
    unfold Ch.vi;rw[show ∀(x:Ch) (r:List Str),({ x.opened with rows:=r }:Ch).cK=x.opened.cK from λ_ _=>rfl,w9]
    split
    ·rw[GG];rfl
    ·rfl
 |drop =>
  rw[jX];unfold n8;split
  ·rfl
  ·show ((_:Ch).vi _).cK=_;unfold Ch.vi;rw[show ∀(x:Ch) (r:List Str),({ x.opened with rows:=r }:Ch).cK=x.opened.cK from λ_ _=>rfl,w9]
   rfl
 |take =>
  rw[jY];unfold stepT;split
  ·split
   ·rfl
   ·split <;> rfl
  ·rfl
 |move h =>
  rw[jZ h];unfold lL;split <;> rfl
structure Base (A:Adr)(l o m:Addr)(cs:List V)(c:Col)(H:Hp)(st:Ch):Prop where
 cl:c l=none
 hl:H l=some (.lst cs)
 one:eP A 1 c H o st
 two:jt 2 c H m st
theorem Base.free {A:Adr}{l o m:Addr}{cs:List V}{c c':Col}{H H':Hp}{st:Ch}{W:Option (Nat×Rl)->Prop}(h1:∀r,¬W (some (1,r)))(h2:∀r,¬W (some (2,r)))(s:Step W c c' H H')(b:Base A l o m cs c H st):Base A l o m cs c' H' st :=
 ⟨(dc s b.cl b.hl).1,(dc s b.cl b.hl).2,b.one.free h1 s,b.two.free h2 s⟩
def L3 (K:bo):Sp:=λvs H Q _=>∃(a:Addr) (ns:List Int),vs=[.ref a]/\SqL K H a (ns.map V.int)/\ns.length<=63/\∀H',Q (.bl true) H'
structure FK (c:Col)(H:Hp)(aF aK:Addr)(fl:List (Nat×List Str))(kl:List (Nat×List Ed))(fs ks:List V):Prop where
 fd:iS 3 c H .firsts aF ((fl.map (·.1)).zip fs)
 fa:bD (λx v=>∃p,v=.ref p/\DC c H p x.2) fl fs
 kd:iS 3 c H .kept aK ((kl.map (·.1)).zip ks)
 ka:bD (λx v=>∃p,v=.ref p/\KL c H x.2 p) kl ks
theorem FK.free {W:Option (Nat×Rl)->Prop}{c c':Col}{H H':Hp}{aF aK:Addr}{fl:List (Nat×List Str)}{kl:List (Nat×List Ed)}{fs ks:List V}(h:∀r,¬W (some (3,r)))(s:Step W c c' H H')(f:FK c H aF aK fl kl fs ks):FK c' H' aF aK fl kl fs ks :=
 ⟨f.fd.keep (h _) s,f.fa.imp λ_ _ ⟨p,e,z⟩=>⟨p,e,z.step s⟩,f.kd.keep (h _) s,f.ka.imp λ_ _ ⟨p,e,z⟩=>⟨p,e,z.step s⟩⟩
theorem Cg {α:Type}:∀ {xs:List α} {j:Nat} {x:α},xs[j]?=some x->xs.set j x=xs
 |[],_,_,h=>by simp at h
 |y::xs,0,x,h=>by rw[aj8]at h;cases h;rfl
 |y::xs,j+1,x,h=>by
  rw[akn]at h;rw[List.set_cons_succ,Cg h]
def abk:Rl->Bool | .firsts=>true | _=>false
def R8:Rl->Bool | .kept=>true | _=>false
section
variable{c:Col}{H:Hp}{aF aK p:Addr}{fl:List (Nat×List Str)}{kl:List (Nat×List Ed)}{fs ks:List V}{n:Nat}
theorem FK.ah3 (f:FK c H aF aK fl kl fs ks){tx:List Str}(hp:H p=none)(hn:n∉fl.map (·.1)) :
  Step (Wr 3 abk) c (ay c p none) H (upd (upd H p (.lst (tx.map V.str))) aF (.dK (putK (aZ ((fl.map (·.1)).zip fs)) (kf (n:Int)) (.ref p)))) /\
  FK (ay c p none) (upd (upd H p (.lst (tx.map V.str))) aF (.dK (putK (aZ ((fl.map (·.1)).zip fs)) (kf (n:Int)) (.ref p)))) aF aK (fl++[(n,tx)]) kl (fs++[.ref p]) ks:=by
 have ne:=aI f.fd.2 hp;have ca:ay c p none aF=some (3,.firsts):=(av ne).trans f.fd.1;have s:Step (Wr 3 abk) c (ay c p none) H (upd (upd H p (.lst (tx.map V.str))) aF (.dK (putK (aZ ((fl.map (·.1)).zip fs)) (kf (n:Int)) (.ref p)))):=(Step.new Wr.nn hp).trans (Step.upd Wr.nn ⟨.firsts,ca,rfl⟩)
 refine⟨s,⟨ca,?_⟩,bD.snoc (f.fa.imp λ_ _ ⟨q,e,z⟩=>⟨q,e,z.step s⟩) ⟨p,rfl,aW,(aw (akp ne)).trans ae⟩,f.kd.kp rfl s,f.ka.imp λ_ _ ⟨q,e,z⟩=>⟨q,e,z.step s⟩⟩
 rw[kx,jV hn (by rw[ba];exact f.fa.len)]
 exact ae
theorem FK.ah4 (f:FK c H aF aK fl kl fs ks)(hp:H p=none)(hn:n∉kl.map (·.1)) :
  Step (Wr 3 R8) c (ay c p none) H (upd (upd H p (.lst [])) aK (.dK (putK (aZ ((kl.map (·.1)).zip ks)) (kf (n:Int)) (.ref p)))) /\
  FK (ay c p none) (upd (upd H p (.lst [])) aK (.dK (putK (aZ ((kl.map (·.1)).zip ks)) (kf (n:Int)) (.ref p)))) aF aK fl (kl++[(n,[])]) fs (ks++[.ref p]):=by
 have ne:=aI f.kd.2 hp;have ca:ay c p none aK=some (3,.kept):=(av ne).trans f.kd.1;have s:Step (Wr 3 R8) c (ay c p none) H (upd (upd H p (.lst [])) aK (.dK (putK (aZ ((kl.map (·.1)).zip ks)) (kf (n:Int)) (.ref p)))):=(Step.new Wr.nn hp).trans (Step.upd Wr.nn ⟨.kept,ca,rfl⟩)
 refine⟨s,f.fd.kp rfl s,f.fa.imp λ_ _ ⟨q,e,z⟩=>⟨q,e,z.step s⟩,⟨ca,?_⟩,bD.snoc (f.ka.imp λ_ _ ⟨q,e,z⟩=>⟨q,e,z.step s⟩) ⟨p,rfl,[],⟨aW,(aw (akp ne)).trans ae⟩,.nil⟩⟩
 rw[kx,jV hn (by rw[ba];exact f.ka.len)]
 exact ae
theorem FK.ah5 (f:FK c H aF aK fl kl fs ks){es:List Ed}{j:Nat}(nd:(kl.map (·.1)).Nodup)(hj:(kl.map (·.1))[j]?=some n)(hp:KL c H es p) :
  Step (Wr 3 R8) c c H (upd H aK (.dK (putK (aZ ((kl.map (·.1)).zip ks)) (kf (n:Int)) (.ref p)))) /\
  FK c (upd H aK (.dK (putK (aZ ((kl.map (·.1)).zip ks)) (kf (n:Int)) (.ref p)))) aF aK fl (kl.set j (n,es)) fs (ks.set j (.ref p)):=by
 have s:Step (Wr 3 R8) c c H (upd H aK (.dK (putK (aZ ((kl.map (·.1)).zip ks)) (kf (n:Int)) (.ref p)))):=Step.upd Wr.nn ⟨.kept,f.kd.1,rfl⟩
 refine⟨s,f.fd.kp rfl s,f.fa.imp λ_ _ ⟨q,e,z⟩=>⟨q,e,z.step s⟩,⟨f.kd.1,?_⟩,bD.set j (f.ka.imp λ_ _ ⟨q,e,z⟩=>⟨q,e,z.step s⟩) ⟨p,rfl,hp.step s⟩⟩
 have em:(kl.set j (n,es)).map (·.1)=kl.map (·.1):=by
  rw[List.map_set];exact Cg hj
 rw[em,DJ nd hj (by rw[ba];exact f.ka.len)]
 exact ae
end
theorem PZ {β:Type}:∀(as:List (Nat×β)) (ws:List V),as.length=ws.length->(aZ ((as.map (·.1)).zip ws)).map (·.1)=(as.map λx=>(x.1:Int)).map kf
 |[],ws,_=>by cases ws <;> rfl
 |a::as,[],h=>nomatch h
 |a::as,w::ws,h=>by
  rw[km,cZ,km,PZ as ws (by simpa using h)]
  rfl
def coV (st:Ch)(d:R.d7):Option Ed:=if decide (V.str (R.jk d)=V.str (ar "vote"))=true then topC st else none
def coR (st:Ch)(d:R.d7):Rs->Option Ed
 | .txt z=>if z=jy then coV st d else none
 |_=>none
theorem P0 {d:R.d7}(hd:uB d)(h:decide (V.str (R.jk d)=V.str (ar "matter"))=true):∃cs,d=.mat cs:=by
 cases d with
 |mat cs=>exact⟨cs,rfl⟩
 |ed m k j ws=>cases m <;> exact absurd (of_decide_eq_true h) (by show V.str (ar _)≠_;trivial)
 |pt ws=>exact absurd (of_decide_eq_true h) (by show V.str (ar _)≠_;trivial)
 |nums kd ns =>
  have h':V.str kd=V.str (ar "matter"):=of_decide_eq_true h;cases hd with
  |Fh=>exact absurd h' (by trivial)
  |drop=>exact absurd h' (by trivial)
  |take=>exact absurd h' (by trivial)
  |move z=>rcases qU z.1 with ⟨u,rfl,rfl⟩ | ⟨rfl,rfl⟩ | ⟨rfl,rfl⟩ | ⟨rfl,rfl⟩ <;> exact absurd h' (by trivial)
theorem abl {st st':Ch}{d:R.d7}{r:Rs}(f:Ef st d r st')(h:∀cs n,d=.mat cs->r≠.num n):st'.firsts=st.firsts/\KbR st.au (coR st d r) st.kept st'.kept:=by
 cases f with
 |nC e1 e2 _ _ e3 =>
  refine⟨e1,?_⟩;have:coR st d r=none:=by
   cases r with
   |txt z =>
    show (if z=jy then coV st d else none)=none
    split
    ·rename_i ez;have t:=e3 (by rw[ez])
     unfold coV;rw[t];split <;> rfl
    ·rfl
   |_=>rfl
  rw[this,e2];exact Fn _ _
 |new cs row ed er _=>exact absurd er (h cs _ ed)
 |lay n tx e ek et er hp _ _ _ e1 e2 _ _ =>
  refine⟨e1,?_⟩;have:coR st d r=some e:=by
   rw[er];show (if jy=jy then coV st d else none)=_
   rw[if_pos rfl];unfold coV;rw[ek,if_pos (by trivial),et]
  rw[this,e2];exact PV hp e _
theorem xa {K:bo}{H:Hp}{u:Addr}{v:V}{b:Bool}{e:PyData}(h:SqT K H u [.bl b,v])(hv:DV K H e v):DV K H (.tuple [.bool b,e]) (.ref u):=by
 unfold DV;refine⟨u,_,rfl,h,?_⟩;unfold DVs;refine⟨_,_,rfl,by unfold DV;rfl,?_⟩
 unfold DVs;exact⟨_,_,rfl,hv,by unfold DVs;rfl⟩
def uC (kb kl:List (Nat×List Ed))(j:Nat):List (Nat×List Ed):=kl.take j++kb.drop j
theorem P1:∀k,k < 8->decide (V.str (nm k)=V.str (ar "change"))=decide (k=1):=by trivial
theorem R9 {c:Col}{H H':Hp}{a:Addr}(s:bu H H')(h:bS c H' a=none):bS c H a=none:=by
 unfold bS;split
 ·rename_i hs;obtain⟨v,hv⟩:=Option.isSome_iff_exists.mp hs;rw[O3 (s _ _ hv)]at h;exact h
 ·rfl
theorem MK {v:V}{i:Nat}{t2:TS}{D:Ends}{σ:St}{H:Hp}(h:t2 D (σ.set i (some v)) H):UQ (QM (tC v) (dD i)) t2 D σ H:=h
theorem yC {β:Type}{xs:List (Nat×β)}(nd:(xs.map (·.1)).Nodup){x:Nat×β}(hx:x∈xs):at1 x.1 xs=some x:=by
 induction xs with
 |nil=>cases hx
 |cons y xs ih =>
  unfold at1;rw[km,List.nodup_cons]at nd;rw[akz];rcases List.mem_cons.mp hx with e | hx
  ·rw[e,decide_eq_true rfl]
  ·rw[decide_eq_false (λz=>nd.1 (by rw[z];exact alp hx))]
   exact ih nd.2 hx
theorem J8 {β:Type}{xs:List (Nat×β)}{ws:List V}(h:xs.length<=1000):(aZ ((xs.map (·.1)).zip ws)).length < gr:=by
 have sz:gr=16777216:=by decide
 unfold aZ;rw[ba,ak5,ba];omega
theorem Ci (st:Ch):st.uA.length<=st.made.length:=adm (alj _ _) (by rw[akN];exact kq _)
theorem Sa {pl:List Nat}{co:Option Ed}{kb kl:List (Nat×List Ed)}(h:KbR pl co kb kl):kb.map (·.1)=kl.map (·.1):=by
 unfold KbR at h
 induction h with
 |nil=>rfl
 |cons h _ ih=>rw[km,km,h.1,ih]
theorem ML {kb kl:List (Nat×List Ed)}(h:kb.map (·.1)=kl.map (·.1))(j:Nat):(uC kb kl j).map (·.1)=kl.map (·.1):=by
 unfold uC;rw[kx,List.map_take,List.map_drop,h,List.take_append_drop]
theorem Sb {kb kl:List (Nat×List Ed)}{j:Nat}{y b:Nat×List Ed}(hy:kl[j]?=some y)(hb:kb[j]?=some b):(uC kb kl j)[j]?=some b/\(uC kb kl j).set j y=uC kb kl (j+1):=by
 have h1:=(List.getElem?_eq_some_iff.mp hy).1;obtain⟨h2,h3⟩:=List.getElem?_eq_some_iff.mp hb;have hl:(kl.take j).length=j:=by rw[akF];omega
 unfold uC;rw[List.drop_eq_getElem_cons h2,h3];refine⟨?_,?_⟩
 ·rw[List.getElem?_append_right (by omega),hl,Nat.sub_self,aj8]
 ·rw[List.set_append_right _ _ (by omega),hl,Nat.sub_self,List.set_cons_zero,List.take_succ,hy]
  simp
section
variable{P:sr}{w:World}{K:bo}{mg:Str->Option Value}{base:Heap}{A:Adr}
set_option maxHeartbeats 20000000 in
theorem Wt {f:Addr}{fd:kj}(F:Fun K "law" "law" wm f fd)(T:Txt w.params K mg A):a7 P w K mg base CX0 20 f fd ["_law_script"] (L3 K):=by
 refine F.ok gB (λvs H Q E h=>?_) (λcdv A' outer s H vs Q E hr h=>?_)
 ·obtain⟨a,ns,rfl,_⟩:=h;rfl
 ·obtain⟨a,ns,rfl,hS,hlen,q⟩:=h;have hu1:=hr.u1;have jh:=hr.units;refine⟨_,(ai (a4 (i:=1) gB.nd rfl (wt rfl) (aX (J2 T) (hr.mono (by decide)) rfl T.Dr T.yg.kp T.Dq .nil a5 (aa (aX (Fi T) (hr.mono (by decide)) rfl T.yX T.sU.kp T.yW .nil a5 (aa (pv 0) (aa ah af))) af)))
 (ai (a4 (i:=2) gB.nd rfl (wt rfl) (gS T.Dv (We T) (hr.mono (by decide)) rfl T.Du T.ja .nil a5 (aa (pv 1) af)))
 (ai (a4 (i:=3) gB.nd rfl (wt rfl) (NF (Pz T) (hr.mono (by decide)) rfl T.Lw T.EN.kp T.Lv .nil a5))
 (ai (a4 (i:=4) gB.nd rfl (wt rfl) kO)
 (ai (a4 (i:=5) gB.nd rfl (wt rfl) kO)
 (ai (xC alv rfl (qz (pf vS (pv 0) (qB ah) (qB ah))) (iW (i:=6) gB.nd rfl (wt rfl))
 (ai (a4 (i:=7) gB.nd rfl (wt rfl) (aX (ME (i:=2) T) (hr.mono (by decide)) rfl T.F5 T.Bt.kp T.F4 .nil a5 (aa (pv 3) (aa (pv 6) (aa (pv 1) af)))))
 (ai (a4 (i:=8) gB.nd rfl (wt rfl) (aS aU (ib (pv 2) T.aq T.rq (MH (i:=1) T) (hr.mono (by decide)) T.iu .nil a5) ah (λ_ _=>rfl)))
 (ai (a4 (i:=9) gB.nd rfl (wt rfl) ix)
 (ai (a9 (PW.pt (pw_and (az (mw jh) (pv 8) (bQ af) (aJ _)) (pw_and (az bt (aS aU (pv 7) ah (λ_ _=>rfl)) ao (aJ _)) (pw_and1 (az bt (aS aU (eG (pv 2) T.aq T.hG (vq (i:=1) T) (hr.mono (by decide)) T.dZ .nil qC (aa (aS bA (pv 8) (mr iy ah) (λ_ _=>rfl)) af)) ah (λ_ _=>rfl)) ao (aJ _))))))
 (aj (a4 (i:=9) gB.nd rfl (wt rfl) (aS aU (eG (pv 2) T.aq T.hG (vq (i:=1) T) (hr.mono (by decide)) T.dZ .nil qC (aa (aS bA (pv 8) (mr iy ah) (λ_ _=>rfl)) af)) ah (λ_ _=>rfl))))
 aC)
 (ai (a4 (i:=10) gB.nd rfl (wt rfl) (aX (MG (i:=1) T) (hr.mono (by decide)) rfl T.F7 T.Bu.kp T.F6 .nil a5 (aa (pv 2) (aa (pv 7) af))))
 (ai (a9 (az (mw jh) (pv 10) (bp (aa kK (aa ao af))) (aJ _))
 (aj (a4 (i:=9) gB.nd rfl (wt rfl) ix))
 aC)
 (ai (bJ (aX (Py (i:=2) T) (hr.mono (by decide)) rfl T.Ly T.EO.kp T.Lx .nil a5 (aa (pv 3) (aa (pv 7) (aa (pv 1) af)))))
 (ai (a9 (PW.pt (pw_and (oj (aS aU (pv 10) ah (λ_ _=>rfl))) (pw_and1 (az bt (aS aU (pv 7) ah (λ_ _=>rfl)) ao (aJ _)))))
 (ai (fJ hu1 (pv 4) (aS aU (pv 10) ah (λ_ _=>rfl)) (cE cB (by rfl) T.i9 gU (aa (aS aU (pv 7) ah (λ_ _=>rfl)) af)) rfl)
 (aj (fJ hu1 (pv 5) (aS aU (pv 10) ah (λ_ _=>rfl)) (bQ af) rfl)))
 aC)
 (aj (xC alv rfl (qz (cE (Jv hr.hd) (by rfl) T.i9 gU (aa (pv 4) af))) (iW (i:=11) gB.nd rfl (wt rfl))
 (ai (a4 (i:=12) gB.nd rfl (wt rfl) (pv 9))
 (ai (a9 (PW.pt (pw_or (az (xH jh) (pv 8) (bQ af) (aJ _)) (pw_or1 (az yO (aS bA (pv 8) ah (λ_ _=>rfl)) (pv 11) (aJ _)))))
 (aj (a4 (i:=12) gB.nd rfl (wt rfl) ix))
 aC)
 (ai (a4 (i:=13) gB.nd rfl (wt rfl) (aX (yB (i:=1) T) (hr.mono (by decide)) rfl T.rp T.lD.kp T.rn .nil a5 (aa (pv 2) (aa (pv 11) (aa (a8 hu1 (pv 4) (pv 11) (λ_ _=>rfl)) (aa (a8 hu1 (pv 5) (pv 11) (λ_ _=>rfl)) (aa (pv 12) af)))))))
 (ai (a9 (PW.pt (pw_or (az NB (pv 13) ix (aJ _)) (pw_or1 (PW.pt (pw_and (az Ll (pv 12) ix (aJ _)) (pw_and1 (az yO (cD cM (by rfl) T.n5 jC (aa (pv 13) af)) (bc eh (cD cM (by rfl) T.n5 jC (aa (a8 hu1 (pv 5) (pv 11) (λ_ _=>rfl)) af)) ah) (aJ _))))))))
 (aj (aG kK))
 aC)
 (aj (fJ hu1 (pv 5) (pv 11) (pv 13) rfl)))))))))))))))))
 (aj (aG kK)))))))),?_⟩
  try dsimp only[bG]
  have sz:gr=16777216:=by decide
  refine⟨_,rfl,a,ns,0,rfl,hS,Int.le_refl _,λfi=>⟨fi,rfl,λn n1 n2=>?_⟩⟩
  try dsimp only[dD]
  refine⟨_,rfl,λo d1 ho1 hd1 ne1=>⟨o,d1,n,rfl,ae,λH2 h2=>⟨rfl,?_⟩⟩⟩
  refine aQ λGq gq=>?_
  obtain⟨c1,k1,ch1⟩:=h2 1 (λ_=>none)
  have st1:Step (λ_=>False) (λ_=>none) c1 H H2:=MJ id ho1 hd1 k1
  have sm1:bu H H2:=λa v h=>st1.keep a v h id
  have hS2:=sm1.seq hS;clear k1 ho1 hd1 ne1 h2;refine gq ?_;refine⟨rfl,λm H3 h3=>?_⟩
  refine aQ λGq gq=>?_
  obtain⟨c2,st2,md2⟩:=h3 2 c1 n;have sm2:bu H2 H3:=λa v h=>st2.keep a v h id
  have hS3:=sm2.seq hS2;have ch2:=ch1.free (λ_=>id) st2
  clear h3 hS2 st1 st2 sm1 sm2 ch1;refine gq ?_
  try dsimp only[dD]
  refineλaF hF=>?_
  try dsimp only[dD]
  refineλaK hK=>?_
  have nFK:aF≠aK:=λz=>by rw[<-z,ae]at hK;cases hK
  have st3:Step (λ_=>False) c2 (ay (ay c2 aF (some (3,.firsts))) aK (some (3,.kept))) H3 (upd (upd H3 aF (.dK [])) aK (.dK [])):=(Step.new id hF).trans (Step.new id hK)
  have fk3:FK (ay (ay c2 aF (some (3,.firsts))) aK (some (3,.kept))) (upd (upd H3 aF (.dK [])) aK (.dK [])) aF aK [] [] [] []:=⟨⟨(av nFK).trans aW,(aw nFK).trans ae⟩,.nil,⟨aW,ae⟩,.nil⟩;have ch3:=ch2.free (λ_=>id) st3
  have md3:=md2.free (λ_=>id) st3
  have hS4:=(show bu _ _ from λa v h=>st3.keep a v h id).seq hS3
  generalize ay (ay c2 aF (some (3,.firsts))) aK (some (3,.kept))=c3 at fk3 ch3 md3;generalize upd (upd H3 aF (.dK [])) aK (.dK [])=H4 at fk3 ch3 md3 hS4 ⊢;clear st3 hF hK ch2 md2 hS3
  try dsimp only[dD]
  refine⟨_,rfl,_,rfl,_,rfl,a,_,rfl,hS4,λl hl=>⟨l,rfl,⟨_,SqL.of ae⟩,?_⟩⟩
  have hcl:=R7 (ns.map V.int);have isI:∀x∈gy (ns.map V.int) (some 1) (some 63),∃z,x=V.int z:=λx hx=>by
   obtain⟨z,_,e⟩:=List.mem_map.mp (RO hx);exact⟨z,e.symm⟩
  have st4:Step (λ_=>False) c3 (ay c3 l none) H4 (upd H4 l (.lst (gy (ns.map V.int) (some 1) (some 63)))):=Step.new id hl
  have b0:Base A l o m (gy (ns.map V.int) (some 1) (some 63)) (ay c3 l none) (upd H4 l (.lst (gy (ns.map V.int) (some 1) (some 63)))) (LW n) :=
   ⟨aW,ae,ch3.free (λ_=>id) st4,md3.free (λ_=>id) st4⟩
  have fk0:=fk3.free (λ_=>id) st4
  generalize upd H4 l (.lst (gy (ns.map V.int) (some 1) (some 63)))=H5 at b0 fk0 ⊢;generalize ay c3 l none=c4 at b0 fk0;clear st4 ch3 md3 fk3 hS4 hl;generalize gy (ns.map V.int) (some 1) (some 63)=cs at b0 hcl isI ⊢;refine vM (K:=K) (a:=l) (xs:=cs) (λj σ Hj=>∃(v6 v7 v8 v9 v10 v11 v12 v13:Option V),σ=[some (.ref a),some (.int n),some (.ref o),some (.ref m),some (.ref aF),some (.ref aK),v6,v7,v8,v9,v10,v11,v12,v13]/\∃(c:Col) (st:Ch) (fs ks:List V),Base A l o m cs c Hj st/\Inv (3 * j) st/\st.cK=n/\TxI st/\FK c Hj aF aK st.firsts st.kept fs ks)
   ⟨_,_,_,_,_,_,_,_,rfl,c4,_,[],[],b0,R6 n,rfl,⟨(λ_ h=>nomatch h),(λ_ h=>nomatch h),λ_ h=>nomatch h⟩,fk0⟩ (λj σ Hj _ ⟨_,_,_,_,_,_,_,_,_,_,_,_,_,b,_⟩=>SqL.of b.hl) ?_ ?_
  ·rintro j y σ Hj hy ⟨v6,v7,v8,v9,v10,v11,v12,v13,rfl,c,st,fs,ks,b,I,es,txi,fk⟩;refine aQ λGq gq=>?_
   obtain⟨z,rfl⟩:=isI _ (akl hy);have jl:j < cs.length:=(List.getElem?_eq_some_iff.mp hy).1;have hN:3 * j<=800:=by omega
   refine gq ?_;refine⟨_,rfl,_,rfl,_,rfl,m,z,n,c,st,3 * j,rfl,b.two,I,by omega,n1,n2,λd t H5 hd hz s5=>?_⟩
   have e5:Step (λ_=>False) c (bS c Hj) Hj H5:=Step.cl id s5
   have b5:=b.free (λ_=>id) (λ_=>id) e5
   have fk5:=fk.free (λ_=>id) e5
   generalize bS c Hj=c5 at hz b5 fk5;clear s5 e5 b fk;have al:=I.Gn;have l3:=I.lm
   try dsimp only[dD]
   refine aQ λGq gq=>?_
   obtain⟨dx1,aM1,aP1,aA1,aD1,aF1,aE1,aR1,ms1,ds1,ws1,fs1,es1,X1⟩:=b5.one.ex;refine gq ?_;refine mtv rfl X1.ob (cA (by trivial)) ⟨o,c5,st,rfl,b5.one,by omega,λns9 u9 H6 pm9 so9 s9 at9=>?_⟩
   have e9:Step (λ_=>False) c5 (bS c5 H5) H5 H6:=Step.cl id s9
   have b6:=b5.free (λ_=>id) (λ_=>id) e9
   have fk6:=fk5.free (λ_=>id) e9
   have hz6:=hz.step e9;generalize bS c5 H5=c6 at b6 fk6 hz6 at9;refine aQ λGq gq=>?_
   clear e9 s9 X1 b5 fk5 hz;obtain⟨l1,_,l2,ys,ds,S⟩:=at9;refine gq ?_;refine⟨u9,_,_,_,rfl,rfl,SqT.of S.hu,rfl,?_⟩;have hp1:c6 l1=none/\H6 l1=some (.lst (st.au.map nV)):=⟨S.c1,S.h1⟩;clear S;dsimp only[dD];refine MK ?_;have ch6:=b6.one;refine d6 (λσ' H'=>∃v9,σ'=[some (.ref a),some (.int n),some (.ref o),some (.ref m),some (.ref aF),some (.ref aK),some (.int z),some (.ref t),some (.ref l1),some v9,v10,v11,v12,v13]/\bu H6 H'/\w8 (bS c6 H6) H' (coV st d) v9) ?r1 (λN' nN=>?f1)
   case f1 =>
    refine⟨_,rfl,(sl 0),λp hp=>?_⟩
    have s7:=aB (o:=.lst []) hp;refine⟨hJ st.au,.list [],kG (SqL.of (s7 _ _ hp1.2)),oJ (SqL.of ae),kJ _,oI,_,rfl,?_⟩;rw[kH];generalize upd H6 p (.lst [])=H7 at s7 ⊢;have no:∀H',bu H6 H'->coV st d=none->∃v9,[some (V.ref a),some (.int n),some (.ref o),some (.ref m),some (.ref aF),some (.ref aK),some (.int z),some (.ref t),some (.ref l1),some .non,v10,v11,v12,v13]=[some (.ref a),some (.int n),some (.ref o),some (.ref m),some (.ref aF),some (.ref aK),some (.int z),some (.ref t),some (.ref l1),some v9,v10,v11,v12,v13]/\bu H6 H'/\w8 (bS c6 H6) H' (coV st d) v9:=λH' s' e=>⟨.non,rfl,s',by rw[e];rfl⟩
    rcases akb st.au with e | ⟨pre,k,e⟩
    ·rw[e];exact bZ (nN _ _ (no _ s7 (by unfold coV topC;rw[e];split <;> rfl)))
    ·rw[akc]at e;have gl:st.au.getLast?=some k:=by rw[e];exact akC
     have h0:atI (st.au.map nV) (-1)=some (nV k):=by rw[e,kx];exact ic _ _
     have hno:=I.bP k (by rw[e];simp)
     refine qX (by rw[e];simp) ?_
     obtain⟨xs,hk⟩:=hz6.kind;refine ixv rfl (SqT.of (s7 _ _ hk)) (show atI (V.str (R.jk d)::xs) 0=some (.str (R.jk d)) from dI (j:=0) rfl) ⟨rfl,_,rfl,?_⟩
     cases hv:decide (V.str (R.jk d)=V.str (ar "vote")) with
     |false=>exact bZ (nN _ _ (no _ s7 (by unfold coV;rw[hv];rfl)))
     |true =>
      refine aQ λGq gq=>?_
      have cv:coV st d=topC st:=by unfold coV;rw[hv];rfl
      have X7:=ch6.ex;obtain⟨dx1,aM1,aP1,aA1,aD1,aF1,aE1,aR1,ms1,ds1,ws1,fs1,es1,X6⟩:=ch6.ex;have X7:=X6.same s7;refine gq ?_;refine dW (mtv rfl X7.ob (cA (by trivial)) ⟨_,rfl,1,rfl,l1,_,_,_,rfl,rfl,SqL.of (s7 _ _ hp1.2),h0,o,k,c6,st,rfl,X7.at,hno,λu8 H8 s8 mn8=>?_⟩)
      refine aQ λGq gq=>?_
      obtain⟨_,v,hu,hvv⟩:=mn8;refine gq ?_;refine⟨u8,_,_,_,rfl,rfl,SqT.of hu,dS,rfl,_,rfl,?_⟩
      by_cases hk1:(st.mo k).k=1
      ·obtain⟨e',he'⟩:∃e',st.mo k=.chg e':=by
        generalize st.mo k=mm at hk1;cases mm <;> first | exact⟨_,rfl⟩ | exact absurd hk1 (by simp[Mn.k])
       have s08:=s7.trans s8;have X8:=X6.same s08;refine qX ((P1 _ (Mn.k8 _)).trans (decide_eq_true hk1)) (mtv rfl X8.ob (cA (by trivial)) ⟨_,rfl,1,rfl,l1,_,_,_,rfl,rfl,SqL.of (s08 _ _ hp1.2),h0,o,k,c6,st,rfl,X8.at,hno,λu9 H9 s9 mn9=>?_⟩)
       refine aQ λGq gq=>?_
       rw[he']at mn9;obtain⟨_,v',hu',tt,rfl,ht'⟩:=mn9;refine gq ?_;refine⟨u9,_,_,_,rfl,rfl,SqT.of hu',rfl,nN _ _ ⟨_,rfl,s08.trans s9,?_⟩⟩;rw[cv,L1 gl he'];exact⟨tt,rfl,R9 s08 ht'.1,ht'.2⟩
      ·exact qY ((P1 _ (Mn.k8 _)).trans (decide_eq_false hk1)) (nN _ _ (no _ (s7.trans s8) (by rw[cv];exact Fm gl hk1)))
   case r1 =>
    rintro σ' H7 ⟨v9',rfl,s7,ho⟩;have e7:Step (λ_=>False) c6 (bS c6 H6) H6 H7:=Step.cl id s7
    have b7:=b6.free (λ_=>id) (λ_=>id) e7
    have fk7:=fk6.free (λ_=>id) e7
    have hz7:=hz6.step e7;have hp7:=dc e7 hp1.1 hp1.2;generalize bS c6 H6=c7 at b7 fk7 hz7 hp7 ho;clear e7 s7 b6 fk6 hz6 hp1 ch6
    try dsimp only[dD]
    refine⟨_,rfl,_,rfl,o,t,c7,st,3 * j,d,rfl,b7.one,I,hN,hd,hz7.c,λc8 H8 u8 s8 ch8 cu8 hu8=>?_⟩
    have md8:=b7.two.other (by decide) s8
    have kl8:=dc s8 b7.cl b7.hl;have hz8:=hz7.step s8;have fk8:=fk7.free (λr=>eO (by decide) r) s8
    have hp8:=dc s8 hp7.1 hp7.2;have ho8:=ho.step s8;clear s8 b7 hz7 fk7 hp7 ho;have rok:=Pd I hN hd;have ef:=PR I hN hd
    try dsimp only[dD]
    refine d6 (λσ' H'=>∃v9,σ'=[some (.ref a),some (.int n),some (.ref o),some (.ref m),some (.ref aF),some (.ref aK),some (.int z),some (.ref t),some (.ref l1),some v9,some (.ref u8),v11,v12,v13]/\bu H8 H'/\w8 c8 H8 (coR st d (fF st d).1) v9) ?r2 (λN' nN=>?f2)
    case f2 =>
     refine⟨_,rfl,(sl 2),λp hp=>?_⟩
     have s9:=aB (o:=.tup [.bl true,.str (ar "kept")]) hp;have kd:DV K (upd H8 p (.tup [.bl true,.str (ar "kept")])) (.tuple [.bool true,.str jy]) (.ref p):=xa (SqT.of ae) (by unfold DV;rfl)
     have ksh:ale (.tuple [.bool true,.str jy])=true:=by trivial
     have hu9:=s9 _ _ hu8;generalize upd H8 p (.tup [.bl true,.str (ar "kept")])=H9 at s9 kd hu9 ⊢;generalize (fF st d).1=r at rok hu9 nN;cases r with
     |num k=>exact⟨.tuple [.bool true,.int (k:Int)],_,xa (SqT.of hu9) (by unfold DV;rfl),kd,p9 (by simp only[akm,aj1,akM]) (by simp only[akE,aks];omega),ksh,tst (by simp[akR,akQ]) (nN _ _ ⟨_,rfl,s9,rfl⟩)⟩
     |exc x=>exact⟨.tuple [.bool false,.none],_,xa (SqT.of hu9) (by unfold DV;rfl),kd,(by trivial),ksh,tst (by trivial) (nN _ _ ⟨_,rfl,s9,rfl⟩)⟩
     |txt zz =>
      have rz:ako zz=true:=rok;refine⟨.tuple [.bool true,.str zz],_,xa (SqT.of hu9) (by unfold DV;rfl),kd,p9 (by simp only[akm,aj1,rz,akM]) (by simp only[akE,aks];omega),ksh,_,rfl,?_⟩
      by_cases ez:zz=jy
      ·refine qY (by rw[ez];trivial) (nN _ _ ⟨_,rfl,s9,?_⟩)
       show w8 c8 H8 (if zz=jy then coV st d else none) v9'
       rw[if_pos ez];exact ho8
      ·refine qX (by simp[akR,akQ,ez]) (nN _ _ ⟨_,rfl,s9,?_⟩)
       show w8 c8 H8 (if zz=jy then coV st d else none) .non
       rw[if_neg ez];rfl
    case r2 =>
     rintro σ' H9 ⟨v9,rfl,s9,ho9⟩;have e9:Step (λ_=>False) c8 (bS c8 H8) H8 H9:=Step.cl id s9
     have ch9:=ch8.free (λ_=>id) e9
     have md9:=md8.free (λ_=>id) e9
     have kl9:=dc e9 kl8.1 kl8.2;have hz9:=hz8.step e9;have fk9:=fk8.free (λ_=>id) e9
     have hp9:=dc e9 hp8.1 hp8.2;have fd9:=dc e9 cu8 hu8;have Wu:=ho9.step e9;generalize bS c8 H8=c9 at ch9 md9 kl9 hz9 fk9 hp9 fd9 Wu;clear e9 s9 ch8 md8 kl8 hz8 fk8 hp8 hu8 cu8 ho9 ho8;refine⟨_,rfl,_,rfl,_,rfl,m,t,c9,st,3 * j,d,(by rw[es];rfl),md9,I,hN,hd,hz9,λc10 H10 u10 s10 Sd _ _=>?_⟩
     have Se:=ch9.other (by decide) s10
     have P2:=dc s10 kl9.1 kl9.2;have Sf:=fk9.free (λr=>eO (by decide) r) s10
     have Sg:=hz9.step s10;have Si:=dc s10 hp9.1 hp9.2;have GI:=dc s10 fd9.1 fd9.2;have hoA:=Wu.step s10;clear s10 ch9 md9 kl9 hz9 fk9 hp9 fd9 Wu;have I8:=I.fF hN hd;have es8:(fF st d).2.cK=n:=(GH hd).trans es;have Wv:=TxI.ef I txi hd ef;have nt:∀cs zz,d=.mat cs->(fF st d).1≠.txt zz:=λcs zz e=>by
      subst e;show (lL st _ _).1≠_;unfold lL;split <;> exactλz=>nomatch z
     generalize (fF st d).1=r at rok ef nt GI hoA;generalize (fF st d).2=st8 at Se Sd I8 es8 Wv ef;clear rok txi es
     try dsimp only[dD]
     refine d6 (λσ' H'=>σ'=[some (.ref a),some (.int n),some (.ref o),some (.ref m),some (.ref aF),some (.ref aK),some (.int z),some (.ref t),some (.ref l1),some v9,some (.ref u8),v11,v12,v13]/\∃(c:Col) (fs ks:List V) (kb:List (Nat×List Ed)),Base A l o m cs c H' st8/\FK c H' aF aK st8.firsts kb fs ks/\(c l1=none/\H' l1=some (.lst (st.au.map nV)))/\w8 c H' (coR st d r) v9/\KbR st.au (coR st d r) kb st8.kept) ?r3 (λN' nN=>?f3)
     case f3 =>
      have old:(∀cs n,d=.mat cs->r≠.num n)->∃(c:Col) (fs ks:List V) (kb:List (Nat×List Ed)),Base A l o m cs c H10 st8/\FK c H10 aF aK st8.firsts kb fs ks/\(c l1=none/\H10 l1=some (.lst (st.au.map nV)))/\w8 c H10 (coR st d r) v9/\KbR st.au (coR st d r) kb st8.kept:=λh=>by
       obtain⟨k1,k2⟩:=abl ef h;exact⟨c10,fs,ks,st.kept,⟨P2.1,P2.2,Se,Sd⟩,by rw[k1];exact Sf,Si,hoA,k2⟩
      cases r with
      |exc x=>exact ixv rfl (SqT.of GI.2) rfl ⟨false,rfl,bZ (nN _ _ ⟨rfl,old λ_ _ _ z=>nomatch z⟩)⟩
      |txt zz =>
       refine ixv rfl (SqT.of GI.2) rfl ⟨true,rfl,dW ?_⟩;obtain⟨xs,hk⟩:=Sg.kind;refine ixv rfl (SqT.of hk) (show atI (V.str (R.jk d)::xs) 0=some (.str (R.jk d)) from dI (j:=0) rfl) ⟨rfl,_,rfl,?_⟩
       cases hv:decide (V.str (R.jk d)=V.str (ar "matter")) with
       |false=>exact bZ (nN _ _ ⟨rfl,old λ_ _ _ z=>nomatch z⟩)
       |true =>
        obtain⟨cs',e⟩:=P0 hd hv;exact absurd rfl (nt cs' zz e)
      |num k =>
       refine ixv rfl (SqT.of GI.2) rfl ⟨true,rfl,dW ?_⟩;obtain⟨xs,hk⟩:=Sg.kind;refine ixv rfl (SqT.of hk) (show atI (V.str (R.jk d)::xs) 0=some (.str (R.jk d)) from dI (j:=0) rfl) ⟨rfl,_,rfl,?_⟩
       cases hv:decide (V.str (R.jk d)=V.str (ar "matter")) with
       |false =>
        refine bZ (nN _ _ ⟨rfl,old λcs' n' e _=>?_⟩)
        rw[e]at hv;exact absurd hv (by show decide (V.str (ar "matter")=V.str (ar "matter"))≠false;trivial)
       |true =>
        obtain⟨cs',e⟩:=P0 hd hv;cases ef with
        |nC _ _ _ h _=>exact absurd rfl (h cs' k e)
        |lay _ _ _ _ _ h=>cases h
        |new cs2 row e2 er e8 =>
         refine aQ λGq gq=>?_
         subst e2;cases er;obtain⟨L,ht,cL,hL⟩:=Sg;subst e8;have nf:st.made.length+1∉st.firsts.map (·.1):=λz=>by
          rw[I.ff]at z;have:=(w6 z).2;omega
         have nk:st.made.length+1∉st.kept.map (·.1):=λz=>by
          rw[I.kk]at z;have:=(w6 z).2;omega
         have fle:st.firsts.length<=1000:=by
          have h1:=congrArg akT I.ff;have:=Ci st;rw[ba]at h1;omega
         have kle:st.kept.length<=1000:=by
          have h1:=congrArg akT I.kk;have:=Ci st;rw[ba]at h1;omega
         refine gq ?_;refine dW (ixv rfl (SqT.of ht.2) rfl ⟨L,_,rfl,.inl (SqL.of hL),λp hp=>?_⟩)
         have sp:=aB (o:=.lst ((cs2.map (si R.bl1)).map V.str)) hp;refine⟨_,rfl,ixv rfl (SqT.of (sp _ _ GI.2)) rfl ⟨aF,_,rfl,mx.k (k:=kf ((st.made.length+1:Nat):Int)) (sp _ _ Sf.fd.2) (J8 fle),?_⟩⟩;obtain⟨s11,Fo⟩:=Sf.ah3 (tx:=cs2.map (si R.bl1)) hp nf;have P4:=s11.gP;have b11:Base A l o m cs _ _ _:=(Base.mk P2.1 P2.2 Se Sd).free (λr=>eO (by decide) r) (λr=>eO (by decide) r) P4
         have GJ:=dc P4 Si.1 Si.2;have Ww:=dc P4 GI.1 GI.2;have hoB:=hoA.step P4;generalize ay c10 p none=c11 at Fo b11 GJ Ww hoB;generalize upd (upd H10 p (.lst ((cs2.map (si R.bl1)).map V.str))) aF (.dK (putK (aZ ((st.firsts.map (·.1)).zip fs)) (kf ((st.made.length+1:Nat):Int)) (.ref p)))=H11 at Fo b11 GJ Ww hoB ⊢
         clear s11 P4 sp hp;refine⟨(sl 0),λp2 hp2=>?_⟩
         have sp2:=aB (o:=.lst []) hp2;refine⟨_,rfl,ixv rfl (SqT.of (sp2 _ _ Ww.2)) rfl ⟨aK,_,rfl,mx.k (k:=kf ((st.made.length+1:Nat):Int)) (sp2 _ _ Fo.kd.2) (J8 kle),?_⟩⟩;obtain⟨s12,MM⟩:=Fo.ah4 hp2 nk;have Wx:=s12.gP;exact nN _ _ ⟨rfl,_,_,_,_,b11.free (λr=>eO (by decide) r) (λr=>eO (by decide) r) Wx,MM,dc Wx GJ.1 GJ.2,hoB.step Wx,Fn _ _⟩
     case r3 =>
      rintro σ' H11 ⟨rfl,c11,Wy,ah6,kb,b11,Fo,GJ,abm,kr⟩;clear GI Sg P2 Se Sd Sf Si hoA ef nt hd I;refine⟨_,rfl,aF,_,_,rfl,Fo.fd.2,PZ _ _ Fo.fa.len,λD hD=>⟨D,rfl,⟨_,SqL.of ae⟩,?_⟩⟩
      have e12:Step (λ_=>False) c11 (ay c11 D none) H11 (upd H11 D (.lst ((st8.firsts.map λx=>(x.1:Int)).map V.int))):=Step.new id hD
      have b12:=b11.free (λ_=>id) (λ_=>id) e12
      have MM:=Fo.free (λ_=>id) e12
      have Sj:=dc e12 GJ.1 GJ.2;have Sk:=abm.step e12;have Sl:ay c11 D none D=none/\(upd H11 D (.lst ((st8.firsts.map λx=>(x.1:Int)).map V.int))) D=some (.lst ((st8.firsts.map λx=>(x.1:Int)).map V.int)):=⟨aW,ae⟩
      generalize ay c11 D none=c12 at b12 MM Sj Sk Sl;generalize upd H11 D (.lst ((st8.firsts.map λx=>(x.1:Int)).map V.int))=H12 at b12 MM Sj Sk Sl ⊢
      clear e12 b11 Fo GJ abm hD;have kk:=Sa kr;have nd:(st8.kept.map (·.1)).Nodup:=by rw[I8.kk];exact vk _
      have fnd:(st8.firsts.map (·.1)).Nodup:=by rw[I8.ff];exact vk _
      refine vM (K:=K) (a:=D) (xs:=(st8.firsts.map λx=>(x.1:Int)).map V.int) (λi σ' H'=>∃v11 v12 v13,σ'=[some (.ref a),some (.int n),some (.ref o),some (.ref m),some (.ref aF),some (.ref aK),some (.int z),some (.ref t),some (.ref l1),some v9,some (.ref u8),v11,v12,v13]/\∃(c:Col) (ks:List V),(c D=none/\H' D=some (.lst ((st8.firsts.map λx=>(x.1:Int)).map V.int)))/\Base A l o m cs c H' st8/\FK c H' aF aK st8.firsts (uC kb st8.kept i) Wy ks/\(c l1=none/\H' l1=some (.lst (st.au.map nV)))/\w8 c H' (coR st d r) v9)
       ⟨_,_,_,rfl,c12,ah6,Sl,b12,(by unfold uC;rw[List.take_zero,List.drop_zero,als];exact MM),Sj,Sk⟩ (λi σ' H' _ ⟨_,_,_,_,_,_,h,_⟩=>SqL.of h.2) ?_ ?_
      ·rintro i y σ' H13 hi ⟨v11,v12,v13,rfl,c13,ks,Wz,b13,J9,P5,WA⟩;refine aQ λGq gq=>?_
       clear b12 MM Sj Sk Sl;obtain⟨x,hx,rfl⟩:∃x,st8.firsts[i]?=some x/\V.int (x.1:Int)=y:=by
        rw[aj7,aj7]at hi;cases hz:st8.firsts[i]? with
        |none=>rw[hz]at hi;cases hi
        |some t=>rw[hz]at hi;exact⟨t,rfl,ajZ hi⟩
       obtain⟨y,hy,ey⟩:∃y,st8.kept[i]?=some y/\y.1=x.1:=by
        have h1:(st8.kept.map (·.1))[i]?=some x.1:=by rw[I8.kk,<-I8.ff,aj7,hx];rfl
        rw[aj7]at h1;cases hz:st8.kept[i]? with
        |none=>rw[hz]at h1;cases h1
        |some t=>rw[hz]at h1;exact⟨t,rfl,ajZ h1⟩
       obtain⟨b0',hb0,eb1,eb2⟩:=kr.Wo hy;have atx:=yC fnd (akl hx);have aty:=yC nd (akl hy);obtain⟨km1,km2⟩:=Sb hy hb0;have mk:=ML kk i;have atb:=yC (by rw[mk];exact nd) (akl km1)
       rw[eb1,ey]at atb;rw[ey]at aty;rw[eb1,ey]at eb2;refine gq ?_
       try dsimp only[dD]
       refine⟨_,rfl,?_⟩
       try dsimp only[dD]
       refine d6 (λσ' H'=>∃v12,σ'=[some (.ref a),some (.int n),some (.ref o),some (.ref m),some (.ref aF),some (.ref aK),some (.int z),some (.ref t),some (.ref l1),some v9,some (.ref u8),some (.int (x.1:Int)),some v12,v13]/\bu H13 H'/\w8 c13 H13 (Ce st.au (coR st d r) x.1) v12) ?r4 (λN' nN=>?f4)
       case f4 =>
        refine⟨_,rfl,(sl 0),λp hp=>?_⟩
        have s14:=aB (o:=.lst []) hp;refine⟨hJ st.au,.list [],kG (SqL.of (s14 _ _ P5.2)),oJ (SqL.of ae),kJ _,oI,_,rfl,?_⟩;rw[kH];generalize upd H13 p (.lst [])=H14 at s14 ⊢;cases hpl:st.au with
        |nil=>exact dW (nN _ _ ⟨_,rfl,s14,by rw[hpl];rfl⟩)
        |cons k0 ks0 =>
         refine bZ (ixv rfl (SqL.of (s14 _ _ P5.2)) (by rw[hpl];exact dI (j:=0) rfl) ⟨_,rfl,rfl,_,rfl,?_⟩)
         by_cases ek:k0=x.1
         ·refine qY (by rw[ek];show (!decide (V.int (x.1:Int)=V.int (x.1:Int)))=false;rw[decide_eq_true rfl];rfl) (nN _ _ ⟨_,rfl,s14,?_⟩)
          unfold Ce;rw[hpl,if_pos (by rw[ek];rfl)]
          exact WA
         ·refine qX (by rw[decide_eq_false (λz=>ek (by have:=V.int.inj z;omega))];rfl) (nN _ _ ⟨_,rfl,s14,?_⟩)
          unfold Ce;rw[hpl,List.head?_cons,if_neg (λz=>ek (ajZ z))]
          rfl
       case r4 =>
        rintro σ' H14 ⟨Sm,rfl,s14,abn⟩;have e14:Step (λ_=>False) c13 (bS c13 H13) H13 H14:=Step.cl id s14
        have b14:=b13.free (λ_=>id) (λ_=>id) e14
        have Ka:=J9.free (λ_=>id) e14
        have Sn:=dc e14 P5.1 P5.2;have So:=dc e14 Wz.1 Wz.2;have WB:=WA.step e14;have P6:=abn.step e14;generalize bS c13 H13=c14 at b14 Ka Sn So WB P6;refine aQ λGq gq=>?_
        clear e14 s14 abn b13 J9 P5 Wz WA;obtain⟨vF,hvF,pF,rfl,tF⟩:=Ka.fa.val atx;obtain⟨vK,hvK,pK,rfl,tK⟩:=Ka.ka.val atb;refine gq ?_;generalize hmo:Ce st.au (coR st d r) x.1=mo at P6 eb2
        try dsimp only[dD]
        refine⟨_,rfl,_,rfl,_,rfl,_,rfl,aF,_,rfl,.inl ⟨_,kf (x.1:Int),.inl Ka.fd.2,rfl,hvF.symm⟩,?_⟩;refine⟨_,rfl,_,rfl,aK,_,rfl,.inl ⟨_,kf (x.1:Int),.inl Ka.kd.2,rfl,hvK.symm⟩,?_⟩;refine⟨_,rfl,o,pF,pK,x.1,Sm,c14,st8,3 * j+3,x,y,b0'.2,mo,rfl,b14.one,I8,by omega,Wv,atx,aty,tF,tK,P6,eb2,λlk H15 s15 ajX WC=>?_⟩
        have e15:Step (λ_=>False) c14 (bS c14 H14) H14 H15:=Step.cl id s15
        have b15:=b14.free (λ_=>id) (λ_=>id) e15
        have Sq:=Ka.free (λ_=>id) e15
        have WD:=dc e15 Sn.1 Sn.2;have WE:=dc e15 So.1 So.2;have abo:=WB.step e15;have abp:=tK.step e15;generalize bS c14 H14=c15 at b15 Sq WD WE abo abp WC;clear e15 s15 b14 Ka Sn So WB tK;have fin:∃v11 v12 v13,[some (V.ref a),some (.int n),some (.ref o),some (.ref m),some (.ref aF),some (.ref aK),some (.int z),some (.ref t),some (.ref l1),some v9,some (.ref u8),some (.int (x.1:Int)),some Sm,some (.ref lk)]=[some (.ref a),some (.int n),some (.ref o),some (.ref m),some (.ref aF),some (.ref aK),some (.int z),some (.ref t),some (.ref l1),some v9,some (.ref u8),v11,v12,v13]/\∃(c:Col) (ks':List V),(c D=none/\(upd H15 aK (.dK (putK (aZ (((uC kb st8.kept i).map (·.1)).zip ks)) (kf (x.1:Int)) (.ref lk)))) D=some (.lst ((st8.firsts.map λx=>(x.1:Int)).map V.int)))/\Base A l o m cs c (upd H15 aK (.dK (putK (aZ (((uC kb st8.kept i).map (·.1)).zip ks)) (kf (x.1:Int)) (.ref lk)))) st8/\FK c (upd H15 aK (.dK (putK (aZ (((uC kb st8.kept i).map (·.1)).zip ks)) (kf (x.1:Int)) (.ref lk)))) aF aK st8.firsts (uC kb st8.kept (i+1)) Wy ks'/\(c l1=none/\(upd H15 aK (.dK (putK (aZ (((uC kb st8.kept i).map (·.1)).zip ks)) (kf (x.1:Int)) (.ref lk)))) l1=some (.lst (st.au.map nV)))/\w8 c (upd H15 aK (.dK (putK (aZ (((uC kb st8.kept i).map (·.1)).zip ks)) (kf (x.1:Int)) (.ref lk)))) (coR st d r) v9:=by
         obtain⟨s16,abq⟩:=Sq.ah5 (n:=x.1) (j:=i) (by rw[mk];exact nd) (by rw[mk,aj7,hy,<-ey];rfl) WC
         have Sr:=s16.gP;have exy:(x.1,y.2)=y:=by rw[<-ey]
         rw[exy,km2]at abq;exact⟨_,_,_,rfl,c15,_,dc Sr WE.1 WE.2,b15.free (λr=>eO (by decide) r) (λr=>eO (by decide) r) Sr,abq,dc Sr WD.1 WD.2,abo.step Sr⟩
        have ah7:(uC kb st8.kept i).length<=1000:=by
         have h1:=congrArg akT mk;have h2:=congrArg akT I8.kk;have h3:=Ci st8;have h4:=I8.lm;rw[ba,ba]at h1;rw[ba]at h2;omega
        dsimp only[dD];have fin2:=mx.k (k:=kf (x.1:Int)) (v:=.ref lk) Sq.kd.2 (J8 ah7);refine d6 (λσ' H'=>σ'=[some (V.ref a),some (.int n),some (.ref o),some (.ref m),some (.ref aF),some (.ref aK),some (.int z),some (.ref t),some (.ref l1),some v9,some (.ref u8),some (.int (x.1:Int)),some Sm,some (.ref lk)]/\H'=H15) ?r5 (λN' nN=>?f5)
        case r5 =>
         rintro σ' H' ⟨rfl,rfl⟩;exact⟨_,rfl,_,rfl,_,rfl,aK,_,rfl,fin2,fin⟩
        case f5 =>
         refine⟨_,rfl,rfl,tsf (decide_eq_false λz=>V.noConfusion z) ?_⟩
         cases mo with
         |none =>
          have hm':Sm=.non:=P6;subst hm';exact⟨_,rfl,rfl,tsf (by rw[decide_eq_true rfl];rfl) (nN _ _ ⟨rfl,rfl⟩)⟩
         |some e' =>
          refine aQ λGq gq=>?_
          obtain⟨te,rfl,_⟩:=P6;obtain⟨ts1,⟨_,hk1⟩,hk2⟩:=WC;obtain⟨ts2,⟨_,hk3⟩,hk4⟩:=abp;have n1:=hk2.len;have n2:=hk4.len;have n3:y.2.length=b0'.2.length+1:=by rw[eb2,me];rfl
          refine gq ?_;refine⟨_,rfl,rfl,tst (by rw[decide_eq_false λz=>V.noConfusion z];rfl) ?_⟩
          refine⟨_,rfl,lk,_,rfl,.inl (SqL.of hk1),_,rfl,_,rfl,aK,_,rfl,.inl ⟨_,kf (x.1:Int),.inl Sq.kd.2,rfl,hvK.symm⟩,pK,_,rfl,.inl (SqL.of hk3),_,_,rfl,rfl,rfl,_,rfl,qY ?_ (nN _ _ ⟨rfl,rfl⟩)⟩;rw[ba,ba,decide_eq_true (by congr 1;omega)]
          rfl
      ·rintro σ' H13 ⟨v11,v12,v13,rfl,c13,ks,_,b13,J9,_,_⟩;have hl8:((st8.firsts.map λx=>(x.1:Int)).map V.int).length=st8.kept.length:=by
        have h1:=congrArg akT I8.ff;have h2:=congrArg akT I8.kk;rw[ba]at h1 h2;rw[ba,ba,h1,h2]
       have kbl:kb.length=st8.kept.length:=kr.len;have I9:Inv (3 * (j+1)) st8:=I8;rw[hl8]at J9;unfold uC at J9;rw[alq,<-kbl,List.drop_length,akP]at J9;exact⟨_,_,_,_,_,_,_,_,rfl,c13,st8,Wy,ks,b13,I9,es8,Wv,J9⟩
  ·rintro σ Hj _;exact q Hj
end
set_option maxHeartbeats 0 in
theorem all_mk {l:PySem.W.OpenLaw}{w:World}{K:bo}{h:Heap}{mg:Str->Option Value}{P:Params}{fa f_1 f_2 f_3 f_4 f_5 f_6 f_7 f_8 f_9 Ss Su Sv Sw Sx Sy Sz SA SD SE SG SH SI SJ SK SM SN SO SQ SR SS SU SV SW SX SY S0 S1 S2 S3 S4 WG c0 c1 c2 c3 c4 c5 c6 c7 cm tb GK GL GN GO GP GQ GR GS zr Cj GU Kb GV GW GX GY GZ G0 G1 G2 G3 G4 bf cO cP cQ cS cT cC cc bB bH bW bI bg bq br cf bC bK bx bz bL a6 xb mZ m5 m7 iD qa qb qc m8 m9 nc jr ng:Addr}(X:K.In h)(G:h.Ns gn mg)(hfa:mg "law"=some (.ref fa))(hP:w.params=P)
  {ah8 ah9 aia aib aic aid aie aif aih aii aij aik ail aim ain aio aip aiq abr abt abu abv abw abx aby abz abA abB abC abD abE abF abG abH abI abJ abK abL abM abN abO abP abQ abR abS abT abU abV abW abX abY abZ ab0 ab1 ab2 ab3 ab4 ab5 ab6 ab7 ab8 ab9 aca acb acd ace acf acg ach aci acj ack acn aco acp acq acr acs acu acv acw Tx WH WI WJ WK WL WM WN WO WQ WR WS WT WU WV WW WX acx acy acz acA WY WZ acB acC W0 W2 W3 W4 W5 W6 W7 W8 W9 Xa Xb Xd Xe Xf Xg Xh Xi Xj Xk Xl zt zu zv zw zx zy zA zB zC zD yD yE xc xf qd qe rP rQ vv vw rR rS j2 j3 nh ni nF nG xg xh qf qg tP tQ oK oN oO oQ tR tS G5 G6 CL CM G7 G8:Option Addr} {air ais ait aiu aiv aiw aix aiy aiz acD acE acF acG acH acI acJ acK acL acM acN acO acP acQ acR acS acT acU acV acW acX acY acZ ac8 ac9 ada adb ade adf adg adh adi Xm Xn Xo Xp Xq Xr Xs Xt adj adk Xu adl Xv Xw Xx Xy Xz XA XB XC XD XE zE zF zG zH zI yF xj qh rT vx rV j4 nj nH xl qi tT oR oS tU G9 CN Hb:Array (Option Value)} {aiA aiB aiC aiD adn aiE aiF aiG aiH aiI ado aiJ aiK aiL aiM aiN adp aiO aiP aiQ aiR aiS adq aiT aiU aiV aiW aiX ads aiY aiZ ai0 ai1 ai2 adt ai3 ai4 ai5 ai6 ai7 adu ai8 ai9 aja ajb ajc adv ajd aje ajf ajg ajh adw aji adx ady adz adA Tz adB adC adD adE adF TB adG adH adI adJ adK TC adL adM adN adO adP TF adQ adR adS adT adU TH adV adW adX adY adZ TK ad0 ad1 ad2 ad3 ad4 TL ad5 ad6 ad7 ad8 ad9 TM aea aeb aec aed aee TN aef aeg aeh aei aej TQ aek ael aem aen aeo TR aep aeq aer aes aet TU aeu aev aew aex aey TV aez aeA aeB aeC aeD TX aeE aeF aeG aeH aeI TY aeJ aeK aeL aeM aeN TZ aeO aeP aeQ aeR aeS T2 aeT aeU aeV aeW aeX T3 aeY aeZ ae0 ae1 ae2 T4 ae3 ae4 ae5 ae6 ae7 T5 ae8 ae9 afa afb afc T6 afd afe aff afg afh T7 afi afj afk afl afm T8 afn afo afp afq afr T9 afs aft afu afv afw Ua afx afy afz afA afB Ub afC afD afE afF afG Uc afH afI afJ afK afL Ud afM afN afO afP afQ Ue afR afS afT afU afV Ug afW afX afY afZ af0 Uh af1 af2 Ui Uj Uk P7 Ul XF XG XH XI P8 XJ XM XN XO XQ P9 XR XS XT XU XW Qa XX XY XZ X0 X9 Qb Ya Yb Yc Yd Ye Qc Yf Yg Yh Yi Yj Qd Yk Yl Ym Yn Yo Qe Yp Yq Yr Ys Yt Qf Yu af3 af4 af5 af6 Um af7 af8 af9 aga agb Uo agc Yv Yw Yx Yy Qg Yz agd age agf agg Up agh YA YB YC YD Qh YE YF YG YH YI Qi YJ YK YL YM YN Qj YO YQ YR YS YT Qk YU YV YW YX YY Ql YZ Y0 Y1 Y2 Y3 Qm Y4 Y5 Y6 Y7 Y8 Qn Y9 Za Zb Zc Zd Qo Ze Zf Zg Zh Zi Qp Zj Zk Zl Zm Zn Qq Zo zJ zK zL zM rF zN zO zP zQ zR rG zS zT zU zV zW rH zX zY zZ z0 Aa rJ Ab Ac Ad Ae Af rK Ag yG yH yI yJ qj yK xm xn xo xp oh xq qk ql qm qo iU qp rW rX rY rZ jz r6 vy vz vA vB nq vC r8 r9 sf sg jA sj j5 j6 j7 j8 fD j9 nr nv ny nz gR nA nI nJ nK nL hV nM xr xt xu xw oi xx qr qt qu qv iV qw tV tW tX tY k9 tZ oU oV oW oX iq oY oZ o8 o9 pb ir pd t5 t6 t7 t8 lb t9 Hc Hd He Hf ze Hg CO CP CQ CS uI CT Hh Hi Hk Hl zf Hm:Value} {kz tr0 tr1 tr2 tr3 tr4 tr5 tr6 tr7:Tok} {est:Array akZ} {nt:Nat} {Fp:Addr} {Qr:Value} {Qs:Option Addr} {Ho:Array akZ} {Qt:Nat} {Qu:Array (Option Value)} {nB:Addr} {Ah:Value} {Ai:Option Addr} {rL:Array akZ} {Aj:Nat} {Ak:Array (Option Value)} {vD:Addr} {Hq:Value} {Hr:Option Addr} {zg:Array akZ} {Hs:Nat} {Ht:Array (Option Value)} {vE:Addr} {Hu:Value} {Hv:Option Addr} {zh:Array akZ} {Hw:Nat} {Hx:Array (Option Value)} {yL:Addr} {Kc:Value} {Kd:Option Addr} {Ck:Array akZ} {Ke:Nat} {Kf:Array (Option Value)} {yM:Addr} {Kg:Value} {Kh:Option Addr} {Cn:Array akZ} {Ki:Nat} {Kj:Array (Option Value)} {yN:Addr} {Kk:Value} {Kl:Option Addr} {Co:Array akZ} {Km:Nat} {Kn:Array (Option Value)} {vG:Addr} {Hy:Value} {Hz:Option Addr} {zi:Array akZ} {HA:Nat} {HB:Array (Option Value)} {Cp:Addr} {MN:Value} {MO:Option Addr} {DW:Array akZ} {MQ:Nat} {MR:Array (Option Value)} {vH:Addr} {HC:Value} {HD:Option Addr} {zj:Array akZ} {HE:Nat} {HF:Array (Option Value)} {Cq:Addr} {MS:Value} {MT:Option Addr} {DX:Array akZ} {MU:Nat} {MV:Array (Option Value)} {Qv S5:Str} {Qw:List Value} {Qx:List Str} {Qy:List Value} {Qz:Bool} {QA:Option Bool} {QB:Option Addr} {QC QD QE QF QG:Option Value} {QH:Bool} {HG Ko:Str} {HI:List Value} {HJ:List Str} {HK:List Value} {HL:Bool} {HM:Option Bool} {HN:Option Addr} {HP HQ HR HS HU:Option Value} {HV:Bool} {HW Kp:Str} {HX:List Value} {HY:List Str} {HZ:List Value} {Ia:Bool} {Ib:Option Bool} {Ic:Option Addr} {Ie Ig Ih Ii Ij:Option Value} {Ik:Bool} {Kq MW:Str} {Kr:List Value} {Ks:List Str} {Kt:List Value} {Ku:Bool} {Kv:Option Bool} {Kw:Option Addr} {Kx Ky Kz KA KC:Option Value} {KD:Bool} {KG MX:Str} {KH:List Value} {KI:List Str} {KJ:List Value} {KN:Bool} {KO:Option Bool} {KP:Option Addr} {KQ KR KS KU KW:Option Value} {KY:Bool} {KZ MY:Str} {K0:List Value} {K1:List Str} {K2:List Value} {K4:Bool} {K5:Option Bool} {K6:Option Addr} {K7 K8 K9 La Lb:Option Value} {Lc:Bool} {Il Ld:Str} {Im:List Value} {Io:List Str} {Ip:List Value} {Iq:Bool} {Ir:Option Bool} {Iu:Option Addr} {Iv Iw Iy Iz IA:Option Value} {IB:Bool} {MZ QI:Str} {M0:List Value} {M3:List Str} {M4:List Value} {M5:Bool} {M6:Option Bool} {M7:Option Addr} {M8 M9 Na Nb Nc:Option Value}  {IC Le:Str} {ID:List Value} {IE:List Str} {IF:List Value} {IG:Bool} {IH:Option Bool} {II:Option Addr} {IJ IK IL IM IP:Option Value}  {Nd QJ:Str} {Nf:List Value} {Ng:List Str} {Nh:List Value} {Ni:Bool} {Nj:Option Bool} {Nk:Option Addr} {Nl Nm Nn Np Nq:Option Value}  {Cr:Value} {Al:Option Addr} {rM:ClassData} {Am:Array (Option Value)}
  (a_1:di K gn "fits"=some (some (.ref f_1)))
  (l_1:K.lookup f_1=some ⟨aiA,ah8,.func (eg "fits" "fits" (aO xP) (aL xP) (ag xP) .none aiB aiC aiD ah9 adn aiE),air⟩)
  (cc_1:de K adn "fits"=true)
  (kp_1:da K (.ref f_1)=true)
  (a_2:di K gn "require_fit"=some (some (.ref f_2)))
  (l_2:K.lookup f_2=some ⟨aiF,aia,.func (eg "require_fit" "require_fit" (aO gi) (aL gi) (ag gi) .none aiG aiH aiI aib ado aiJ),ais⟩)
  (cc_2:de K ado "require_fit"=true)
  (kp_2:da K (.ref f_2)=true)
  (a_3:di K gn "laid"=some (some (.ref f_3)))
  (l_3:K.lookup f_3=some ⟨aiK,aic,.func (eg "laid" "laid" (aO xQ) (aL xQ) (ag xQ) .none aiL aiM aiN aid adp aiO),ait⟩)
  (cc_3:de K adp "laid"=true)
  (kp_3:da K (.ref f_3)=true)
  (a_4:di K gn "words_of"=some (some (.ref f_4)))
  (l_4:K.lookup f_4=some ⟨aiP,aie,.func (eg "words_of" "words_of" (aO jF) (aL jF) (ag jF) .none aiQ aiR aiS aif adq aiT),aiu⟩)
  (cc_4:de K adq "words_of"=true)
  (kp_4:da K (.ref f_4)=true)
  (a_5:di K gn "clause_of"=some (some (.ref f_5)))
  (l_5:K.lookup f_5=some ⟨aiU,aih,.func (eg "clause_of" "clause_of" (aO iL) (aL iL) (ag iL) .none aiV aiW aiX aii ads aiY),aiv⟩)
  (cc_5:de K ads "clause_of"=true)
  (kp_5:da K (.ref f_5)=true)
  (a_6:di K gn "motion_of"=some (some (.ref f_6)))
  (l_6:K.lookup f_6=some ⟨aiZ,aij,.func (eg "motion_of" "motion_of" (aO iM) (aL iM) (ag iM) .none ai0 ai1 ai2 aik adt ai3),aiw⟩)
  (cc_6:de K adt "motion_of"=true)
  (kp_6:da K (.ref f_6)=true)
  (a_7:di K gn "bar_of"=some (some (.ref f_7)))
  (l_7:K.lookup f_7=some ⟨ai4,ail,.func (eg "bar_of" "bar_of" (aO pA) (aL pA) (ag pA) .none ai5 ai6 ai7 aim adu ai8),aix⟩)
  (cc_7:de K adu "bar_of"=true)
  (kp_7:da K (.ref f_7)=true)
  (a_8:di K gn "has_matter"=some (some (.ref f_8)))
  (l_8:K.lookup f_8=some ⟨ai9,ain,.func (eg "has_matter" "has_matter" (aO fK) (aL fK) (ag fK) .none aja ajb ajc aio adv ajd),aiy⟩)
  (cc_8:de K adv "has_matter"=true)
  (kp_8:da K (.ref f_8)=true)
  (a_9:di K gn "can_be_mended"=some (some (.ref f_9)))
  (l_9:K.lookup f_9=some ⟨aje,aip,.func (eg "can_be_mended" "can_be_mended" (aO eC) (aL eC) (ag eC) .none ajf ajg ajh aiq adw aji),aiz⟩)
  (cc_9:de K adw "can_be_mended"=true)
  (kp_9:da K (.ref f_9)=true)
  (a_10:di K gn "has_what_it_needs"=some (some (.ref Ss)))
  (l_10:K.lookup Ss=some ⟨adx,abr,.func (eg "has_what_it_needs" "has_what_it_needs" (aO dh) (aL dh) (ag dh) .none ady adz adA abt Tz adB),acD⟩)
  (jq4V:de K Tz "has_what_it_needs"=true)
  (jq4W:da K (.ref Ss)=true)
  (a_11:di K gn "require_in_order"=some (some (.ref Su)))
  (l_11:K.lookup Su=some ⟨adC,abu,.func (eg "require_in_order" "require_in_order" (aO du) (aL du) (ag du) .none adD adE adF abv TB adG),acE⟩)
  (jq4X:de K TB "require_in_order"=true)
  (jq4Y:da K (.ref Su)=true)
  (a_12:di K gn "words_of_text"=some (some (.ref Sv)))
  (l_12:K.lookup Sv=some ⟨adH,abw,.func (eg "words_of_text" "words_of_text" (aO eD) (aL eD) (ag eD) .none adI adJ adK abx TC adL),acF⟩)
  (jq4Z:de K TC "words_of_text"=true)
  (jq50:da K (.ref Sv)=true)
  (a_13:di K gn "words_of_edit"=some (some (.ref Sw)))
  (l_13:K.lookup Sw=some ⟨adM,aby,.func (eg "words_of_edit" "words_of_edit" (aO eE) (aL eE) (ag eE) .none adN adO adP abz TF adQ),acG⟩)
  (jq51:de K TF "words_of_edit"=true)
  (jq52:da K (.ref Sw)=true)
  (a_14:di K gn "words_behind"=some (some (.ref Sx)))
  (l_14:K.lookup Sx=some ⟨adR,abA,.func (eg "words_behind" "words_behind" (aO d3) (aL d3) (ag d3) .none adS adT adU abB TH adV),acH⟩)
  (jq53:de K TH "words_behind"=true)
  (jq54:da K (.ref Sx)=true)
  (a_15:di K gn "show_deed"=some (some (.ref Sy)))
  (l_15:K.lookup Sy=some ⟨adW,abC,.func (eg "show_deed" "show_deed" (aO iN) (aL iN) (ag iN) .none adX adY adZ abD TK ad0),acI⟩)
  (jq55:de K TK "show_deed"=true)
  (jq56:da K (.ref Sy)=true)
  (a_16:di K gn "is_kept"=some (some (.ref Sz)))
  (l_16:K.lookup Sz=some ⟨ad1,abE,.func (eg "is_kept" "is_kept" (aO lX) (aL lX) (ag lX) .none ad2 ad3 ad4 abF TL ad5),acJ⟩)
  (jq57:de K TL "is_kept"=true)
  (jq58:da K (.ref Sz)=true)
  (a_17:di K gn "_law_cell_at"=some (some (.ref SA)))
  (l_17:K.lookup SA=some ⟨ad6,abG,.func (eg "_law_cell_at" "_law_cell_at" (aO iO) (aL iO) (ag iO) .none ad7 ad8 ad9 abH TM aea),acK⟩)
  (jq59:de K TM "_law_cell_at"=true)
  (jq5a:da K (.ref SA)=true)
  (a_18:di K gn "_law_word"=some (some (.ref SD)))
  (l_18:K.lookup SD=some ⟨aeb,abI,.func (eg "_law_word" "_law_word" (aO pG) (aL pG) (ag pG) .none aec aed aee abJ TN aef),acL⟩)
  (jq5b:de K TN "_law_word"=true)
  (jq5c:da K (.ref SD)=true)
  (a_19:di K gn "_law_clause"=some (some (.ref SE)))
  (l_19:K.lookup SE=some ⟨aeg,abK,.func (eg "_law_clause" "_law_clause" (aO jH) (aL jH) (ag jH) .none aeh aei aej abL TQ aek),acM⟩)
  (jq5d:de K TQ "_law_clause"=true)
  (jq5e:da K (.ref SE)=true)
  (a_20:di K gn "_law_edit"=some (some (.ref SG)))
  (l_20:K.lookup SG=some ⟨ael,abM,.func (eg "_law_edit" "_law_edit" (aO pI) (aL pI) (ag pI) .none aem aen aeo abN TR aep),acN⟩)
  (jq5f:de K TR "_law_edit"=true)
  (jq5g:da K (.ref SG)=true)
  (a_21:di K gn "_law_fits"=some (some (.ref SH)))
  (l_21:K.lookup SH=some ⟨aeq,abO,.func (eg "_law_fits" "_law_fits" (aO pJ) (aL pJ) (ag pJ) .none aer aes aet abP TU aeu),acO⟩)
  (jq5h:de K TU "_law_fits"=true)
  (jq5i:da K (.ref SH)=true)
  (a_22:di K gn "_law_laid"=some (some (.ref SI)))
  (l_22:K.lookup SI=some ⟨aev,abQ,.func (eg "_law_laid" "_law_laid" (aO pL) (aL pL) (ag pL) .none aew aex aey abR TV aez),acP⟩)
  (jq5j:de K TV "_law_laid"=true)
  (jq5k:da K (.ref SI)=true)
  (a_23:di K gn "_law_words"=some (some (.ref SJ)))
  (l_23:K.lookup SJ=some ⟨aeA,abS,.func (eg "_law_words" "_law_words" (aO lY) (aL lY) (ag lY) .none aeB aeC aeD abT TX aeE),acQ⟩)
  (jq5l:de K TX "_law_words"=true)
  (jq5m:da K (.ref SJ)=true)
  (a_24:di K gn "_law_rank"=some (some (.ref SK)))
  (l_24:K.lookup SK=some ⟨aeF,abU,.func (eg "_law_rank" "_law_rank" (aO pM) (aL pM) (ag pM) .none aeG aeH aeI abV TY aeJ),acR⟩)
  (jq5n:de K TY "_law_rank"=true)
  (jq5o:da K (.ref SK)=true)
  (a_25:di K gn "_law_new"=some (some (.ref SM)))
  (l_25:K.lookup SM=some ⟨aeK,abW,.func (eg "_law_new" "_law_new" (aO uf) (aL uf) (ag uf) .none aeL aeM aeN abX TZ aeO),acS⟩)
  (jq5p:de K TZ "_law_new"=true)
  (jq5q:da K (.ref SM)=true)
  (a_26:di K gn "_law_now"=some (some (.ref SN)))
  (l_26:K.lookup SN=some ⟨aeP,abY,.func (eg "_law_now" "_law_now" (aO ug) (aL ug) (ag ug) .none aeQ aeR aeS abZ T2 aeT),acT⟩)
  (jq5r:de K T2 "_law_now"=true)
  (jq5s:da K (.ref SN)=true)
  (a_27:di K gn "_law_bar"=some (some (.ref SO)))
  (l_27:K.lookup SO=some ⟨aeU,ab0,.func (eg "_law_bar" "_law_bar" (aO uh) (aL uh) (ag uh) .none aeV aeW aeX ab1 T3 aeY),acU⟩)
  (jq5t:de K T3 "_law_bar"=true)
  (jq5u:da K (.ref SO)=true)
  (a_28:di K gn "_law_lacks"=some (some (.ref SQ)))
  (l_28:K.lookup SQ=some ⟨aeZ,ab2,.func (eg "_law_lacks" "_law_lacks" (aO lZ) (aL lZ) (ag lZ) .none ae0 ae1 ae2 ab3 T4 ae3),acV⟩)
  (jq5v:de K T4 "_law_lacks"=true)
  (jq5w:da K (.ref SQ)=true)
  (a_29:di K gn "_law_keep"=some (some (.ref SR)))
  (l_29:K.lookup SR=some ⟨ae4,ab4,.func (eg "_law_keep" "_law_keep" (aO pN) (aL pN) (ag pN) .none ae5 ae6 ae7 ab5 T5 ae8),acW⟩)
  (jq5x:de K T5 "_law_keep"=true)
  (jq5y:da K (.ref SR)=true)
  (a_30:di K gn "_law_ended"=some (some (.ref SS)))
  (l_30:K.lookup SS=some ⟨ae9,ab6,.func (eg "_law_ended" "_law_ended" (aO l7) (aL l7) (ag l7) .none afa afb afc ab7 T6 afd),acX⟩)
  (jq5z:de K T6 "_law_ended"=true)
  (jq5A:da K (.ref SS)=true)
  (a_31:di K gn "_law_voted"=some (some (.ref SU)))
  (l_31:K.lookup SU=some ⟨afe,ab8,.func (eg "_law_voted" "_law_voted" (aO l8) (aL l8) (ag l8) .none aff afg afh ab9 T7 afi),acY⟩)
  (jq5B:de K T7 "_law_voted"=true)
  (jq5C:da K (.ref SU)=true)
  (a_32:di K gn "_law_taken"=some (some (.ref SV)))
  (l_32:K.lookup SV=some ⟨afj,aca,.func (eg "_law_taken" "_law_taken" (aO l9) (aL l9) (ag l9) .none afk afl afm acb T8 afn),acZ⟩)
  (jq5D:de K T8 "_law_taken"=true)
  (jq5E:da K (.ref SV)=true)
  (a_33:di K gn "_law_due"=some (some (.ref SW)))
  (l_33:K.lookup SW=some ⟨afo,acd,.func (eg "_law_due" "_law_due" (aO ui) (aL ui) (ag ui) .none afp afq afr ace T9 afs),ac8⟩)
  (jq5F:de K T9 "_law_due"=true)
  (jq5G:da K (.ref SW)=true)
  (a_34:di K gn "_law_vote"=some (some (.ref SX)))
  (l_34:K.lookup SX=some ⟨aft,acf,.func (eg "_law_vote" "_law_vote" (aO pO) (aL pO) (ag pO) .none afu afv afw acg Ua afx),ac9⟩)
  (jq5H:de K Ua "_law_vote"=true)
  (jq5I:da K (.ref SX)=true)
  (a_35:di K gn "_law_guided"=some (some (.ref SY)))
  (l_35:K.lookup SY=some ⟨afy,ach,.func (eg "_law_guided" "_law_guided" (aO jJ) (aL jJ) (ag jJ) .none afz afA afB aci Ub afC),ada⟩)
  (jq5J:de K Ub "_law_guided"=true)
  (jq5K:da K (.ref SY)=true)
  (a_36:di K gn "_law_deed"=some (some (.ref S0)))
  (l_36:K.lookup S0=some ⟨afD,acj,.func (eg "_law_deed" "_law_deed" (aO mB) (aL mB) (ag mB) .none afE afF afG ack Uc afH),adb⟩)
  (jq5L:de K Uc "_law_deed"=true)
  (jq5M:da K (.ref S0)=true)
  (a_37:di K gn "_law_done"=some (some (.ref S1)))
  (l_37:K.lookup S1=some ⟨afI,acn,.func (eg "_law_done" "_law_done" (aO pQ) (aL pQ) (ag pQ) .none afJ afK afL aco Ud afM),ade⟩)
  (jq5N:de K Ud "_law_done"=true)
  (jq5O:da K (.ref S1)=true)
  (a_38:di K gn "_law_seats"=some (some (.ref S2)))
  (l_38:K.lookup S2=some ⟨afN,acp,.func (eg "_law_seats" "_law_seats" (aO md) (aL md) (ag md) .none afO afP afQ acq Ue afR),adf⟩)
  (jq5P:de K Ue "_law_seats"=true)
  (jq5Q:da K (.ref S2)=true)
  (a_39:di K gn "_law_plain"=some (some (.ref S3)))
  (l_39:K.lookup S3=some ⟨afS,acr,.func (eg "_law_plain" "_law_plain" (aO mf) (aL mf) (ag mf) .none afT afU afV acs Ug afW),adg⟩)
  (jq5R:de K Ug "_law_plain"=true)
  (jq5S:da K (.ref S3)=true)
  (a_40:di K gn "_law_matter_good"=some (some (.ref S4)))
  (l_40:K.lookup S4=some ⟨afX,acu,.func (eg "_law_matter_good" "_law_matter_good" (aO eF) (aL eF) (ag eF) .none afY afZ af0 acv Uh af1),adh⟩)
  (jq5T:de K Uh "_law_matter_good"=true)
  (jq5U:da K (.ref S4)=true)
  (a_41:di K gn "law"=some (some (.ref WG)))
  (l_41:K.lookup WG=some ⟨af2,acw,.func (eg "law" "law" (aO wm) (aL wm) (ag wm) .none Ui Uj Uk Tx P7 Ul),adi⟩)
  (jq5V:de K P7 "law"=true)
  (jq5W:da K (.ref WG)=true)
  (z1:di K gn "range"=some none)
  (z2:di K gn "list"=some none)
  (z3:di K gn "isinstance"=some none)
  (z4:di K gn "len"=some none)
  (z5:di K gn "max"=some none)
  (z6:di K gn "any"=some none)
  (z7:di K gn "str"=some none)
  (z8:di K gn "sorted"=some none)
  (z9:di K gn "int"=some none)
  (z10:di K gn "ValueError"=some none)
  (jq25:di K gn "CLOSED_BAR"=some (some (.int 4 kz)))
  (ac0:di K gn "Matter"=some (some (.ref c0)))
  (ac1:di K gn "Change"=some (some (.ref c1)))
  (ac2:di K gn "Mend"=some (some (.ref c2)))
  (ac3:di K gn "PutOff"=some (some (.ref c3)))
  (ac4:di K gn "Close"=some (some (.ref c4)))
  (ac5:di K gn "Lay"=some (some (.ref c5)))
  (ac6:di K gn "Rest"=some (some (.ref c6)))
  (ac7:di K gn "Point"=some (some (.ref c7)))
  (acm:di K gn "Motion"=some (some (.ref cm)))
  (atb:di K gn "RANKS"=some (some (.ref tb)))
  (ltb:K.lookup tb=some ⟨.type "dict",none,.dict est nt,#[]⟩)
  (ktb:PySem.W.KeysLit P est.toList)
  (rk0:di K tb (ar "matter")=some (some (.int 0 tr0)))
  (rk1:di K tb (ar "change")=some (some (.int 1 tr1)))
  (rk2:di K tb (ar "mend")=some (some (.int 2 tr2)))
  (rk3:di K tb (ar "put off")=some (some (.int 3 tr3)))
  (rk4:di K tb (ar "close")=some (some (.int 4 tr4)))
  (rk5:di K tb (ar "lay")=some (some (.int 5 tr5)))
  (rk6:di K tb (ar "rest")=some (some (.int 6 tr6)))
  (rk7:di K tb (ar "point")=some (some (.int 7 tr7)))
  (pg0:aky K c0 akw=true)
  (hd0:akv K c0=true)
  (po0:akH K c0=true)
  (sa0:cb K (.ref c0) "__setattr__"=some (some (.builtin "object.__setattr__")))
  (mk0:akL K c0=true)
  (kc0:da K (.ref c0)=true)
  (pg1:aky K c1 akw=true)
  (hd1:akv K c1=true)
  (po1:akH K c1=true)
  (sa1:cb K (.ref c1) "__setattr__"=some (some (.builtin "object.__setattr__")))
  (mk1:akL K c1=true)
  (kc1:da K (.ref c1)=true)
  (pg2:aky K c2 akw=true)
  (hd2:akv K c2=true)
  (po2:akH K c2=true)
  (sa2:cb K (.ref c2) "__setattr__"=some (some (.builtin "object.__setattr__")))
  (mk2:akL K c2=true)
  (kc2:da K (.ref c2)=true)
  (pg3:aky K c3 akw=true)
  (hd3:akv K c3=true)
  (po3:akH K c3=true)
  (sa3:cb K (.ref c3) "__setattr__"=some (some (.builtin "object.__setattr__")))
  (mk3:akL K c3=true)
  (kc3:da K (.ref c3)=true)
  (pg4:aky K c4 akw=true)
  (hd4:akv K c4=true)
  (po4:akH K c4=true)
  (sa4:cb K (.ref c4) "__setattr__"=some (some (.builtin "object.__setattr__")))
  (mk4:akL K c4=true)
  (kc4:da K (.ref c4)=true)
  (pg5:aky K c5 akw=true)
  (hd5:akv K c5=true)
  (po5:akH K c5=true)
  (sa5:cb K (.ref c5) "__setattr__"=some (some (.builtin "object.__setattr__")))
  (mk5:akL K c5=true)
  (kc5:da K (.ref c5)=true)
  (pg6:aky K c6 akw=true)
  (hd6:akv K c6=true)
  (po6:akH K c6=true)
  (sa6:cb K (.ref c6) "__setattr__"=some (some (.builtin "object.__setattr__")))
  (mk6:akL K c6=true)
  (kc6:da K (.ref c6)=true)
  (pg7:aky K c7 akw=true)
  (hd7:akv K c7=true)
  (po7:akH K c7=true)
  (sa7:cb K (.ref c7) "__setattr__"=some (some (.builtin "object.__setattr__")))
  (mk7:akL K c7=true)
  (kc7:da K (.ref c7)=true)
  (jq3o:cb K (.ref c0) "kind"=some (some (.ref GK)))
  (jq5X:K.lookup GK=some ⟨XF,WH,.func (eg "kind" "Matter.kind" (aO fS) (aL fS) (ag fS) .none XG XH XI WI P8 XJ),Xm⟩)
  (jq3W:de K P8 "Matter.kind"=true)
  (jq3p:da K (.ref GK)=true)
  (jq3X:om K (.ref GK)=true)
  (jq3q:cb K (.ref c1) "kind"=some (some (.ref GL)))
  (jq5Y:K.lookup GL=some ⟨XM,WJ,.func (eg "kind" "Change.kind" (aO fU) (aL fU) (ag fU) .none XN XO XQ WK P9 XR),Xn⟩)
  (jq3Y:de K P9 "Change.kind"=true)
  (jq3r:da K (.ref GL)=true)
  (jq3Z:om K (.ref GL)=true)
  (jq3s:cb K (.ref c2) "kind"=some (some (.ref GN)))
  (jq5Z:K.lookup GN=some ⟨XS,WL,.func (eg "kind" "Mend.kind" (aO iH) (aL iH) (ag iH) .none XT XU XW WM Qa XX),Xo⟩)
  (jq40:de K Qa "Mend.kind"=true)
  (jq3t:da K (.ref GN)=true)
  (jq41:om K (.ref GN)=true)
  (jq3u:cb K (.ref c3) "kind"=some (some (.ref GO)))
  (jq60:K.lookup GO=some ⟨XY,WN,.func (eg "kind" "PutOff.kind" (aO fV) (aL fV) (ag fV) .none XZ X0 X9 WO Qb Ya),Xp⟩)
  (jq42:de K Qb "PutOff.kind"=true)
  (jq3v:da K (.ref GO)=true)
  (jq43:om K (.ref GO)=true)
  (jq3w:cb K (.ref c4) "kind"=some (some (.ref GP)))
  (jq61:K.lookup GP=some ⟨Yb,WQ,.func (eg "kind" "Close.kind" (aO gX) (aL gX) (ag gX) .none Yc Yd Ye WR Qc Yf),Xq⟩)
  (jq44:de K Qc "Close.kind"=true)
  (jq3x:da K (.ref GP)=true)
  (jq45:om K (.ref GP)=true)
  (jq3y:cb K (.ref c5) "kind"=some (some (.ref GQ)))
  (jq62:K.lookup GQ=some ⟨Yg,WS,.func (eg "kind" "Lay.kind" (aO jE) (aL jE) (ag jE) .none Yh Yi Yj WT Qd Yk),Xr⟩)
  (jq46:de K Qd "Lay.kind"=true)
  (jq3z:da K (.ref GQ)=true)
  (jq47:om K (.ref GQ)=true)
  (jq3A:cb K (.ref c6) "kind"=some (some (.ref GR)))
  (jq63:K.lookup GR=some ⟨Yl,WU,.func (eg "kind" "Rest.kind" (aO iI) (aL iI) (ag iI) .none Ym Yn Yo WV Qe Yp),Xs⟩)
  (jq48:de K Qe "Rest.kind"=true)
  (jq3B:da K (.ref GR)=true)
  (jq49:om K (.ref GR)=true)
  (jq3C:cb K (.ref c7) "kind"=some (some (.ref GS)))
  (jq64:K.lookup GS=some ⟨Yq,WW,.func (eg "kind" "Point.kind" (aO gY) (aL gY) (ag gY) .none Yr Ys Yt WX Qf Yu),Xt⟩)
  (jq4a:de K Qf "Point.kind"=true)
  (jq3D:da K (.ref GS)=true)
  (jq4b:om K (.ref GS)=true)
  (jq4c:cb K (.ref c0) "rank"=some (some (.ref zr)))
  (jq4d:cb K (.ref c1) "rank"=some (some (.ref zr)))
  (jq4e:cb K (.ref c2) "rank"=some (some (.ref zr)))
  (jq4f:cb K (.ref c3) "rank"=some (some (.ref zr)))
  (jq4g:cb K (.ref c4) "rank"=some (some (.ref zr)))
  (jq4h:cb K (.ref c5) "rank"=some (some (.ref zr)))
  (jq4i:cb K (.ref c6) "rank"=some (some (.ref zr)))
  (jq4j:cb K (.ref c7) "rank"=some (some (.ref zr)))
  (l_mr:K.lookup zr=some ⟨af3,acx,.func (eg "rank" "Motion.rank" (aO fW) (aL fW) (ag fW) .none af4 af5 af6 acy Um af7),adj⟩)
  (jq65:de K Um "Motion.rank"=true)
  (jq29:da K (.ref zr)=true)
  (jq2B:om K (.ref zr)=true)
  (jq4k:cb K (.ref c0) "need"=some (some (.ref Cj)))
  (jq4l:cb K (.ref c1) "need"=some (some (.ref Cj)))
  (jq4m:cb K (.ref c2) "need"=some (some (.ref Cj)))
  (jq4n:cb K (.ref c3) "need"=some (some (.ref Cj)))
  (jq4o:cb K (.ref c5) "need"=some (some (.ref Cj)))
  (jq4p:cb K (.ref c6) "need"=some (some (.ref Cj)))
  (jq4q:cb K (.ref c7) "need"=some (some (.ref Cj)))
  (l_mn:K.lookup Cj=some ⟨af8,acz,.func (eg "need" "Motion.need" (aO fX) (aL fX) (ag fX) .none af9 aga agb acA Uo agc),adk⟩)
  (jq66:de K Uo "Motion.need"=true)
  (jq2C:da K (.ref Cj)=true)
  (jq31:om K (.ref Cj)=true)
  (jq3E:cb K (.ref c4) "need"=some (some (.ref GU)))
  (jq67:K.lookup GU=some ⟨Yv,WY,.func (eg "need" "Close.need" (aO gZ) (aL gZ) (ag gZ) .none Yw Yx Yy WZ Qg Yz),Xu⟩)
  (jq4r:de K Qg "Close.need"=true)
  (jq3F:da K (.ref GU)=true)
  (jq4s:om K (.ref GU)=true)
  (jq4t:cb K (.ref c4) "told"=some (some (.ref Kb)))
  (jq4u:cb K (.ref c5) "told"=some (some (.ref Kb)))
  (jq4v:cb K (.ref c6) "told"=some (some (.ref Kb)))
  (l_mt:K.lookup Kb=some ⟨agd,acB,.func (eg "told" "Motion.told" (aO fY) (aL fY) (ag fY) .none age agf agg acC Up agh),adl⟩)
  (jq68:de K Up "Motion.told"=true)
  (jq3n:da K (.ref Kb)=true)
  (jq3V:om K (.ref Kb)=true)
  (jq3G:cb K (.ref c0) "told"=some (some (.ref GV)))
  (jq69:K.lookup GV=some ⟨YA,W0,.func (eg "told" "Matter.told" (aO fZ) (aL fZ) (ag fZ) .none YB YC YD W2 Qh YE),Xv⟩)
  (jq4w:de K Qh "Matter.told"=true)
  (jq3H:da K (.ref GV)=true)
  (jq4x:om K (.ref GV)=true)
  (jq3I:cb K (.ref c1) "told"=some (some (.ref GW)))
  (jq6a:K.lookup GW=some ⟨YF,W3,.func (eg "told" "Change.told" (aO f6) (aL f6) (ag f6) .none YG YH YI W4 Qi YJ),Xw⟩)
  (jq4y:de K Qi "Change.told"=true)
  (jq3J:da K (.ref GW)=true)
  (jq4z:om K (.ref GW)=true)
  (jq3K:cb K (.ref c2) "told"=some (some (.ref GX)))
  (jq6b:K.lookup GX=some ⟨YK,W5,.func (eg "told" "Mend.told" (aO iJ) (aL iJ) (ag iJ) .none YL YM YN W6 Qj YO),Xx⟩)
  (jq4A:de K Qj "Mend.told"=true)
  (jq3L:da K (.ref GX)=true)
  (jq4B:om K (.ref GX)=true)
  (jq3M:cb K (.ref c3) "told"=some (some (.ref GY)))
  (jq6c:K.lookup GY=some ⟨YQ,W7,.func (eg "told" "PutOff.told" (aO f7) (aL f7) (ag f7) .none YR YS YT W8 Qk YU),Xy⟩)
  (jq4C:de K Qk "PutOff.told"=true)
  (jq3N:da K (.ref GY)=true)
  (jq4D:om K (.ref GY)=true)
  (jq3O:cb K (.ref c7) "told"=some (some (.ref GZ)))
  (jq6d:K.lookup GZ=some ⟨YV,W9,.func (eg "told" "Point.told" (aO g0) (aL g0) (ag g0) .none YW YX YY Xa Ql YZ),Xz⟩)
  (jq4E:de K Ql "Point.told"=true)
  (jq3P:da K (.ref GZ)=true)
  (jq4F:om K (.ref GZ)=true)
  (jq3Q:cb K (.ref c0) "__init__"=some (some (.ref G0)))
  (jq6e:K.lookup G0=some ⟨Y0,Xb,.func (eg "__init__" "Matter.__init__" (aO f9) (aL f9) (ag f9) .none Y1 Y2 Y3 Xd Qm Y4),XA⟩)
  (jq4G:de K Qm "Matter.__init__"=true)
  (jq4H:da K (.ref G0)=true)
  (jq4I:om K (.ref G0)=true)
  (jq3R:cb K (.ref c1) "__init__"=some (some (.ref G1)))
  (jq6f:K.lookup G1=some ⟨Y5,Xe,.func (eg "__init__" "Change.__init__" (aO gb) (aL gb) (ag gb) .none Y6 Y7 Y8 Xf Qn Y9),XB⟩)
  (jq4J:de K Qn "Change.__init__"=true)
  (jq4K:da K (.ref G1)=true)
  (jq4L:om K (.ref G1)=true)
  (jq3S:cb K (.ref c2) "__init__"=some (some (.ref G2)))
  (jq6g:K.lookup G2=some ⟨Za,Xg,.func (eg "__init__" "Mend.__init__" (aO iK) (aL iK) (ag iK) .none Zb Zc Zd Xh Qo Ze),XC⟩)
  (jq4M:de K Qo "Mend.__init__"=true)
  (jq4N:da K (.ref G2)=true)
  (jq4O:om K (.ref G2)=true)
  (jq3T:cb K (.ref c3) "__init__"=some (some (.ref G3)))
  (jq6h:K.lookup G3=some ⟨Zf,Xi,.func (eg "__init__" "PutOff.__init__" (aO gf) (aL gf) (ag gf) .none Zg Zh Zi Xj Qp Zj),XD⟩)
  (jq4P:de K Qp "PutOff.__init__"=true)
  (jq4Q:da K (.ref G3)=true)
  (jq4R:om K (.ref G3)=true)
  (jq3U:cb K (.ref c7) "__init__"=some (some (.ref G4)))
  (jq6i:K.lookup G4=some ⟨Zk,Xk,.func (eg "__init__" "Point.__init__" (aO g7) (aL g7) (ag g7) .none Zl Zm Zn Xl Qq Zo),XE⟩)
  (jq4S:de K Qq "Point.__init__"=true)
  (jq4T:da K (.ref G4)=true)
  (jq4U:om K (.ref G4)=true)
  (na0:cb K (.ref c0) "text"=some none)
  (na1:cb K (.ref c1) "edit"=some none)
  (na2:cb K (.ref c2) "edit"=some none)
  (na3:cb K (.ref c3) "sitting"=some none)
  (na7:cb K (.ref c7) "clause"=some none)
  (ni4:cb K (.ref c4) "__init__"=some (some (.builtin "object.__init__")))
  (ni5:cb K (.ref c5) "__init__"=some (some (.builtin "object.__init__")))
  (ni6:cb K (.ref c6) "__init__"=some (some (.builtin "object.__init__")))
  (jq2D:di K gn "Chamber"=some (some (.ref bf)))
  (jq2E:aky K bf akw=true)
  (jq2F:akv K bf=true)
  (jq2G:akH K bf=true)
  (jq2H:cb K (.ref bf) "__setattr__"=some (some (.builtin "object.__setattr__")))
  (jq2I:akL K bf=true)
  (jq2J:da K (.ref bf)=true)
  (jq1I:cb K (.ref bf) "__init__"=some (some (.ref cO)))
  (jq20:K.lookup cO=some ⟨zJ,zt,.func (eg "__init__" "Chamber.__init__" (aO eX) (aL eX) (ag eX) .none zK zL zM zu rF zN),zE⟩)
  (jq1J:de K rF "Chamber.__init__"=true)
  (jq1K:da K (.ref cO)=true)
  (jq1L:om K (.ref cO)=true)
  (jq1M:cb K (.ref bf) "move"=some (some (.ref cP)))
  (jq21:K.lookup cP=some ⟨zO,zv,.func (eg "move" "Chamber.move" (aO eY) (aL eY) (ag eY) .none zP zQ zR zw rG zS),zF⟩)
  (jq1N:de K rG "Chamber.move"=true)
  (jq1m:da K (.ref cP)=true)
  (jq1O:om K (.ref cP)=true)
  (jq1P:cb K (.ref bf) "vote"=some (some (.ref cQ)))
  (jq22:K.lookup cQ=some ⟨zT,zx,.func (eg "vote" "Chamber.vote" (aO eZ) (aL eZ) (ag eZ) .none zU zV zW zy rH zX),zG⟩)
  (jq1Q:de K rH "Chamber.vote"=true)
  (jq1n:da K (.ref cQ)=true)
  (jq1R:om K (.ref cQ)=true)
  (jq1S:cb K (.ref bf) "drop"=some (some (.ref cS)))
  (jq23:K.lookup cS=some ⟨zY,zA,.func (eg "drop" "Chamber.drop" (aO fb) (aL fb) (ag fb) .none zZ z0 Aa zB rJ Ab),zH⟩)
  (jq1T:de K rJ "Chamber.drop"=true)
  (jq1o:da K (.ref cS)=true)
  (jq1U:om K (.ref cS)=true)
  (jq1V:cb K (.ref bf) "take"=some (some (.ref cT)))
  (jq24:K.lookup cT=some ⟨Ac,zC,.func (eg "take" "Chamber.take" (aO fg) (aL fg) (ag fg) .none Ad Ae Af zD rK Ag),zI⟩)
  (jq1W:de K rK "Chamber.take"=true)
  (jq1p:da K (.ref cT)=true)
  (jq1X:om K (.ref cT)=true)
  (jq1A:cb K (.ref bf) "state"=some (some (.ref cC)))
  (jq1Y:K.lookup cC=some ⟨yG,yD,.func (eg "state" "Chamber.state" (aO dN) (aL dN) (ag dN) .none yH yI yJ yE qj yK),yF⟩)
  (jq1B:de K qj "Chamber.state"=true)
  (jq1j:da K (.ref cC)=true)
  (jq1C:om K (.ref cC)=true)
  (jq1t:cb K (.ref bf) "motion"=some (some (.ref cc)))
  (jq1D:K.lookup cc=some ⟨xm,xc,.func (eg "motion" "Chamber.motion" (aO dX) (aL dX) (ag dX) .none xn xo xp xf oh xq),xj⟩)
  (jq1u:de K oh "Chamber.motion"=true)
  (jq19:da K (.ref cc)=true)
  (jq1v:om K (.ref cc)=true)
  (jqS:cb K (.ref bf) "kept_changes"=some (some (.ref bB)))
  (jq10:K.lookup bB=some ⟨qk,qd,.func (eg "kept_changes" "Chamber.kept_changes" (aO b8) (aL b8) (ag b8) .none ql qm qo qe iU qp),qh⟩)
  (jqT:de K iU "Chamber.kept_changes"=true)
  (jqy:da K (.ref bB)=true)
  (jqU:om K (.ref bB)=true)
  (jq13:cb K (.ref bf) "first_text"=some (some (.ref bH)))
  (jq1b:K.lookup bH=some ⟨rW,rP,.func (eg "first_text" "Chamber.first_text" (aO cF) (aL cF) (ag cF) .none rX rY rZ rQ jz r6),rT⟩)
  (jq14:de K jz "Chamber.first_text"=true)
  (jqD:da K (.ref bH)=true)
  (jq15:om K (.ref bH)=true)
  (jq1q:cb K (.ref bf) "pending"=some (some (.ref bW)))
  (jq1w:K.lookup bW=some ⟨vy,vv,.func (eg "pending" "Chamber.pending" (aO cN) (aL cN) (ag cN) .none vz vA vB vw nq vC),vx⟩)
  (jq1r:de K nq "Chamber.pending"=true)
  (jq11:da K (.ref bW)=true)
  (jq1s:om K (.ref bW)=true)
  (jq16:cb K (.ref bf) "told_aside"=some (some (.ref bI)))
  (jq1c:K.lookup bI=some ⟨r8,rR,.func (eg "told_aside" "Chamber.told_aside" (aO cG) (aL cG) (ag cG) .none r9 sf sg rS jA sj),rV⟩)
  (jq17:de K jA "Chamber.told_aside"=true)
  (jqE:da K (.ref bI)=true)
  (jq18:om K (.ref bI)=true)
  (jqs:cb K (.ref bf) "require_can_be_made"=some (some (.ref bg)))
  (jqx:K.lookup bg=some ⟨j5,j2,.func (eg "require_can_be_made" "Chamber.require_can_be_made" (aO bF) (aL bF) (ag bF) .none j6 j7 j8 j3 fD j9),j4⟩)
  (jqt:de K fD "Chamber.require_can_be_made"=true)
  (jqn:da K (.ref bg)=true)
  (jqu:om K (.ref bg)=true)
  (jqA:cb K (.ref bf) "require_pending"=some (some (.ref bq)))
  (jqF:K.lookup bq=some ⟨nr,nh,.func (eg "require_pending" "Chamber.require_pending" (aO bO) (aL bO) (ag bO) .none nv ny nz ni gR nA),nj⟩)
  (jqB:de K gR "Chamber.require_pending"=true)
  (jqp:da K (.ref bq)=true)
  (jqC:om K (.ref bq)=true)
  (jqG:cb K (.ref bf) "require_matter"=some (some (.ref br)))
  (jqL:K.lookup br=some ⟨nI,nF,.func (eg "require_matter" "Chamber.require_matter" (aO bU) (aL bU) (ag bU) .none nJ nK nL nG hV nM),nH⟩)
  (jqH:de K hV "Chamber.require_matter"=true)
  (jqq:da K (.ref br)=true)
  (jqI:om K (.ref br)=true)
  (jq1x:cb K (.ref bf) "decide"=some (some (.ref cf)))
  (jq1E:K.lookup cf=some ⟨xr,xg,.func (eg "decide" "Chamber.decide" (aO dY) (aL dY) (ag dY) .none xt xu xw xh oi xx),xl⟩)
  (jq1y:de K oi "Chamber.decide"=true)
  (jq1a:da K (.ref cf)=true)
  (jq1z:om K (.ref cf)=true)
  (jqV:cb K (.ref bf) "end_decision"=some (some (.ref bC)))
  (jq12:K.lookup bC=some ⟨qr,qf,.func (eg "end_decision" "Chamber.end_decision" (aO b9) (aL b9) (ag b9) .none qt qu qv qg iV qw),qi⟩)
  (jqW:de K iV "Chamber.end_decision"=true)
  (jqz:da K (.ref bC)=true)
  (jqX:om K (.ref bC)=true)
  (jq1d:cb K (.ref bf) "carry_out"=some (some (.ref bK)))
  (jq1k:K.lookup bK=some ⟨tV,tP,.func (eg "carry_out" "Chamber.carry_out" (aO df) (aL df) (ag df) .none tW tX tY tQ k9 tZ),tT⟩)
  (jq1e:de K k9 "Chamber.carry_out"=true)
  (jqJ:da K (.ref bK)=true)
  (jq1f:om K (.ref bK)=true)
  (jqM:cb K (.ref bf) "lay_on_matter"=some (some (.ref bx)))
  (jqY:K.lookup bx=some ⟨oU,oK,.func (eg "lay_on_matter" "Chamber.lay_on_matter" (aO bX) (aL bX) (ag bX) .none oV oW oX oN iq oY),oR⟩)
  (jqN:de K iq "Chamber.lay_on_matter"=true)
  (jqv:da K (.ref bx)=true)
  (jqO:om K (.ref bx)=true)
  (jqP:cb K (.ref bf) "lay_on_change"=some (some (.ref bz)))
  (jqZ:K.lookup bz=some ⟨oZ,oO,.func (eg "lay_on_change" "Chamber.lay_on_change" (aO bY) (aL bY) (ag bY) .none o8 o9 pb oQ ir pd),oS⟩)
  (jqQ:de K ir "Chamber.lay_on_change"=true)
  (jqw:da K (.ref bz)=true)
  (jqR:om K (.ref bz)=true)
  (jq1g:cb K (.ref bf) "put_aside"=some (some (.ref bL)))
  (jq1l:K.lookup bL=some ⟨t5,tR,.func (eg "put_aside" "Chamber.put_aside" (aO dg) (aL dg) (ag dg) .none t6 t7 t8 tS lb t9),tU⟩)
  (jq1h:de K lb "Chamber.put_aside"=true)
  (jqK:da K (.ref bL)=true)
  (jq1i:om K (.ref bL)=true)
  (jqr:cb K (.ref bf) "seats"=some none)
  (jq1:cb K (.ref bf) "sitting"=some none)
  (jq5:cb K (.ref bf) "closed"=some none)
  (jq2:cb K (.ref bf) "made"=some none)
  (jq0:cb K (.ref bf) "pile"=some none)
  (jq4:cb K (.ref bf) "aside"=some none)
  (jqj:cb K (.ref bf) "decided"=some none)
  (jq3:cb K (.ref bf) "first_texts"=some none)
  (jq6:cb K (.ref bf) "edits_kept"=some none)
  (jqk:cb K (.ref bf) "rows"=some none)
  (jq1Z:di K gn "ChamberError"=some (some (.ref a6)))
  (jq3i:di K gn "NoFit"=some (some (.ref xb)))
  (jq32:di K gn "Barred"=some (some (.ref mZ)))
  (jq2a:di K gn "NoMatter"=some (some (.ref m5)))
  (jq2b:di K gn "NoChange"=some (some (.ref m7)))
  (jq2c:di K gn "NotLater"=some (some (.ref iD)))
  (jq2K:di K gn "Nothing"=some (some (.ref qa)))
  (jq2L:di K gn "TooMany"=some (some (.ref qb)))
  (jq2M:di K gn "NoAside"=some (some (.ref qc)))
  (jq33:di K gn "NotYet"=some (some (.ref m8)))
  (jq2d:di K gn "NoNumber"=some (some (.ref m9)))
  (jq3j:K.lookup xb=some (akB Qv S5 xb Fp Qw (.ref a6::qZ) QH Qx Qy Qz QA QB QC QD QE QF QG "ValueError.__new__"))
  (jq2e:K.lookup m5=some (akB HG Ko m5 vD HI (.ref a6::qZ) HV HJ HK HL HM HN HP HQ HR HS HU "ValueError.__new__"))
  (jq2f:K.lookup m7=some (akB HW Kp m7 vE HX (.ref a6::qZ) Ik HY HZ Ia Ib Ic Ie Ig Ih Ii Ij "ValueError.__new__"))
  (jq2N:K.lookup qa=some (akB Kq MW qa yL Kr (.ref a6::qZ) KD Ks Kt Ku Kv Kw Kx Ky Kz KA KC "ValueError.__new__"))
  (jq2O:K.lookup qb=some (akB KG MX qb yM KH (.ref a6::qZ) KY KI KJ KN KO KP KQ KR KS KU KW "ValueError.__new__"))
  (jq2P:K.lookup qc=some (akB KZ MY qc yN K0 (.ref a6::qZ) Lc K1 K2 K4 K5 K6 K7 K8 K9 La Lb "ValueError.__new__"))
  (jq2g:K.lookup m9=some (akB Il Ld m9 vG Im (.ref a6::qZ) IB Io Ip Iq Ir Iu Iv Iw Iy Iz IA "ValueError.__new__"))
  (jq34:K.lookup mZ=some (akB MZ QI mZ Cp M0 (.ref a6::qZ) true M3 M4 M5 M6 M7 M8 M9 Na Nb Nc "ValueError.__new__"))
  (jq2h:K.lookup iD=some (akB IC Le iD vH ID (.ref a6::qZ) true IE IF IG IH II IJ IK IL IM IP "ValueError.__new__"))
  (jq35:K.lookup m8=some (akB Nd QJ m8 Cq Nf (.ref a6::qZ) true Ng Nh Ni Nj Nk Nl Nm Nn Np Nq "ValueError.__new__"))
  (jq7:K.lookup a6=some ⟨Cr,Al,.cls rM,Am⟩)
  (jq8:rM.ns=nB)
  (jq3k:K.lookup Fp=some ⟨Qr,Qs,.dict Ho Qt,Qu⟩)
  (jq3l:strKeys Ho=true)
  (jq3m:di K Fp "__init__"=some none)
  (jq9:K.lookup nB=some ⟨Ah,Ai,.dict rL Aj,Ak⟩)
  (jqa:strKeys rL=true)
  (jqb:di K nB "__init__"=some none)
  (jq2i:K.lookup vD=some ⟨Hq,Hr,.dict zg Hs,Ht⟩)
  (jq2j:strKeys zg=true)
  (jq2k:di K vD "__init__"=some none)
  (jq2l:K.lookup vE=some ⟨Hu,Hv,.dict zh Hw,Hx⟩)
  (jq2m:strKeys zh=true)
  (jq2n:di K vE "__init__"=some none)
  (jq2Q:K.lookup yL=some ⟨Kc,Kd,.dict Ck Ke,Kf⟩)
  (jq2R:strKeys Ck=true)
  (jq2S:di K yL "__init__"=some none)
  (jq2T:K.lookup yM=some ⟨Kg,Kh,.dict Cn Ki,Kj⟩)
  (jq2U:strKeys Cn=true)
  (jq2V:di K yM "__init__"=some none)
  (jq2W:K.lookup yN=some ⟨Kk,Kl,.dict Co Km,Kn⟩)
  (jq2X:strKeys Co=true)
  (jq2Y:di K yN "__init__"=some none)
  (jq2o:K.lookup vG=some ⟨Hy,Hz,.dict zi HA,HB⟩)
  (jq2p:strKeys zi=true)
  (jq2q:di K vG "__init__"=some none)
  (jq36:K.lookup Cp=some ⟨MN,MO,.dict DW MQ,MR⟩)
  (jq37:strKeys DW=true)
  (jq38:di K Cp "__init__"=some (some (.ref nc)))
  (jq2r:K.lookup vH=some ⟨HC,HD,.dict zj HE,HF⟩)
  (jq2s:strKeys zj=true)
  (jq2t:di K vH "__init__"=some (some (.ref jr)))
  (jq39:K.lookup Cq=some ⟨MS,MT,.dict DX MU,MV⟩)
  (jq3a:strKeys DX=true)
  (jq3b:di K Cq "__init__"=some (some (.ref ng)))
  (jq1F:PySem.W.readsIn K a6 (.type "type")=true)
  (jq1G:PySem.W.specialIn K (.ref a6) "__getattribute__"=some (some (.builtin "type.__getattribute__")))
  (jq1H:PySem.W.findCls K (.ref a6) (.type "type") "__init__"=some (.val (.builtin "ValueError.__init__")))
  (jqo:ake K (.ref xb) (.ref a6)=some true)
  (jqc:ake K (.ref m5) (.ref a6)=some true)
  (jqd:ake K (.ref m7) (.ref a6)=some true)
  (jqg:ake K (.ref qa) (.ref a6)=some true)
  (jqh:ake K (.ref qb) (.ref a6)=some true)
  (jqi:ake K (.ref qc) (.ref a6)=some true)
  (jqe:ake K (.ref m9) (.ref a6)=some true)
  (jq2Z:K.lookup nc=some ⟨Hc,G5,.func (eg "__init__" "Barred.__init__" (aO gg) (aL gg) (ag gg) .none Hd He Hf G6 ze Hg),G9⟩)
  (jq2u:de K ze "Barred.__init__"=true)
  (jq2v:da K (.ref nc)=true)
  (jq3c:om K (.ref nc)=true)
  (jq3d:cb K (.ref mZ) "__setattr__"=some (some (.builtin "object.__setattr__")))
  (jq3e:cb K (.ref mZ) "bar"=some none)
  (jql:ake K (.ref mZ) (.ref a6)=some true)
  (jq28:K.lookup jr=some ⟨CO,CL,.func (eg "__init__" "NotLater.__init__" (aO eB) (aL eB) (ag eB) .none CP CQ CS CM uI CT),CN⟩)
  (jq26:de K uI "NotLater.__init__"=true)
  (jq27:da K (.ref jr)=true)
  (jq2w:om K (.ref jr)=true)
  (jq2x:cb K (.ref iD) "__setattr__"=some (some (.builtin "object.__setattr__")))
  (jq2y:cb K (.ref iD) "sitting"=some none)
  (jqf:ake K (.ref iD) (.ref a6)=some true)
  (jq30:K.lookup ng=some ⟨Hh,G7,.func (eg "__init__" "NotYet.__init__" (aO gh) (aL gh) (ag gh) .none Hi Hk Hl G8 zf Hm),Hb⟩)
  (jq2z:de K zf "NotYet.__init__"=true)
  (jq2A:da K (.ref ng)=true)
  (jq3f:om K (.ref ng)=true)
  (jq3g:cb K (.ref m8) "__setattr__"=some (some (.builtin "object.__setattr__")))
  (jq3h:cb K (.ref m8) "sitting"=some none)
  (jqm:ake K (.ref m8) (.ref a6)=some true) :
  ∃fd:kj,(∀(s:Shared) (v:Value),BindsTo s fd ⟨[v],[]⟩ [("_law_script",v)])/\∀base:Heap,K.In base->base.Ns gn mg->a7 l.prog w K mg base CX0 20 fa fd ["_law_script"] (L3 K):=by
 have e:=hfa.symm.trans (ki X G a_41);cases e;have F_1:=aY (st:=xP) l_1 cc_1 kp_1;have b_1:=F_1.binds (ps:=["things","edit"]) λ_ _ _ _ _ _ us hl=>match us,hl with | [_,_],_=>rfl
 have F_2:=aY (st:=gi) l_2 cc_2 kp_2;have b_2:=F_2.binds (ps:=["things","edit"]) λ_ _ _ _ _ _ us hl=>match us,hl with | [_,_],_=>rfl
 have F_3:=aY (st:=xQ) l_3 cc_3 kp_3;have b_3:=F_3.binds (ps:=["things","edit"]) λ_ _ _ _ _ _ us hl=>match us,hl with | [_,_],_=>rfl
 have F_4:=aY (st:=jF) l_4 cc_4 kp_4;have b_4:=F_4.binds (ps:=["clause"]) λ_ _ _ _ _ _ us hl=>match us,hl with | [_],_=>rfl
 have F_5:=aY (st:=iL) l_5 cc_5 kp_5;have b_5:=F_5.binds (ps:=["words"]) λ_ _ _ _ _ _ us hl=>match us,hl with | [_],_=>rfl
 have F_6:=aY (st:=iM) l_6 cc_6 kp_6;have b_6:=F_6.binds (ps:=["told"]) λ_ _ _ _ _ _ us hl=>match us,hl with | [_],_=>rfl
 have F_7:=aY (st:=pA) l_7 cc_7 kp_7;have b_7:=F_7.binds (ps:=["pile","closed"]) λ_ _ _ _ _ _ us hl=>match us,hl with | [_,_],_=>rfl
 have F_8:=aY (st:=fK) l_8 cc_8 kp_8;have b_8:=F_8.binds (ps:=["pile"]) λ_ _ _ _ _ _ us hl=>match us,hl with | [_],_=>rfl
 have F_9:=aY (st:=eC) l_9 cc_9 kp_9;have b_9:=F_9.binds (ps:=["pile"]) λ_ _ _ _ _ _ us hl=>match us,hl with | [_],_=>rfl
 have agi:=aY (st:=dh) l_10 jq4V jq4W;have ajj:=agi.binds (ps:=["kind","pile"]) λ_ _ _ _ _ _ us hl=>match us,hl with | [_,_],_=>rfl
 have agj:=aY (st:=du) l_11 jq4X jq4Y;have ajk:=agj.binds (ps:=["kind","pile","closed"]) λ_ _ _ _ _ _ us hl=>match us,hl with | [_,_,_],_=>rfl
 have agk:=aY (st:=eD) l_12 jq4Z jq50;have ajl:=agk.binds (ps:=["text"]) λ_ _ _ _ _ _ us hl=>match us,hl with | [_],_=>rfl
 have agl:=aY (st:=eE) l_13 jq51 jq52;have ajm:=agl.binds (ps:=["edit"]) λ_ _ _ _ _ _ us hl=>match us,hl with | [_],_=>rfl
 have agm:=aY (st:=d3) l_14 jq53 jq54;have ajn:=agm.binds (ps:=["deed"]) λ_ _ _ _ _ _ us hl=>match us,hl with | [_],_=>rfl
 have agn:=aY (st:=iN) l_15 jq55 jq56;have ajo:=agn.binds (ps:=["deed"]) λ_ _ _ _ _ _ us hl=>match us,hl with | [_],_=>rfl
 have ago:=aY (st:=lX) l_16 jq57 jq58;have ajp:=ago.binds (ps:=["need","ayes","noes"]) λ_ _ _ _ _ _ us hl=>match us,hl with | [_,_,_],_=>rfl
 have agp:=aY (st:=iO) l_17 jq59 jq5a;have ajq:=agp.binds (ps:=["_law_script","_law_k"]) λ_ _ _ _ _ _ us hl=>match us,hl with | [_,_],_=>rfl
 have agq:=aY (st:=pG) l_18 jq5b jq5c;have ajr:=agq.binds (ps:=["_law_cell"]) λ_ _ _ _ _ _ us hl=>match us,hl with | [_],_=>rfl
 have agr:=aY (st:=jH) l_19 jq5d jq5e;have ajs:=agr.binds (ps:=["_law_cell"]) λ_ _ _ _ _ _ us hl=>match us,hl with | [_],_=>rfl
 have ags:=aY (st:=pI) l_20 jq5f jq5g;have ajt:=ags.binds (ps:=["_law_cell","_law_size","_law_thing"]) λ_ _ _ _ _ _ us hl=>match us,hl with | [_,_,_],_=>rfl
 have agt:=aY (st:=pJ) l_21 jq5h jq5i;have aju:=agt.binds (ps:=["_law_things","_law_edit_here"]) λ_ _ _ _ _ _ us hl=>match us,hl with | [_,_],_=>rfl
 have agu:=aY (st:=pL) l_22 jq5j jq5k;have ajv:=agu.binds (ps:=["_law_things","_law_edit_here"]) λ_ _ _ _ _ _ us hl=>match us,hl with | [_,_],_=>rfl
 have agv:=aY (st:=lY) l_23 jq5l jq5m;have ajw:=agv.binds (ps:=["_law_clause_here"]) λ_ _ _ _ _ _ us hl=>match us,hl with | [_],_=>rfl
 have agw:=aY (st:=pM) l_24 jq5n jq5o;have ajx:=agw.binds (ps:=["_law_kind"]) λ_ _ _ _ _ _ us hl=>match us,hl with | [_],_=>rfl
 have agx:=aY (st:=uf) l_25 jq5p jq5q;have ajy:=agx.binds (ps:=[]) λ_ _ _ _ _ _ us hl=>match us,hl with | [],_=>rfl
 have agy:=aY (st:=ug) l_26 jq5r jq5s;have ajz:=agy.binds (ps:=["_law_m","_law_number"]) λ_ _ _ _ _ _ us hl=>match us,hl with | [_,_],_=>rfl
 have agz:=aY (st:=uh) l_27 jq5t jq5u;have ajA:=agz.binds (ps:=["_law_m"]) λ_ _ _ _ _ _ us hl=>match us,hl with | [_],_=>rfl
 have agA:=aY (st:=lZ) l_28 jq5v jq5w;have ajB:=agA.binds (ps:=["_law_m","_law_motion"]) λ_ _ _ _ _ _ us hl=>match us,hl with | [_,_],_=>rfl
 have agB:=aY (st:=pN) l_29 jq5x jq5y;have ajC:=agB.binds (ps:=["_law_m","_law_motion"]) λ_ _ _ _ _ _ us hl=>match us,hl with | [_,_],_=>rfl
 have agC:=aY (st:=l7) l_30 jq5z jq5A;have ajD:=agC.binds (ps:=["_law_m","_law_word_here"]) λ_ _ _ _ _ _ us hl=>match us,hl with | [_,_],_=>rfl
 have agD:=aY (st:=l8) l_31 jq5B jq5C;have ajE:=agD.binds (ps:=["_law_m","_law_ayes","_law_noes","_law_seats_here"]) λ_ _ _ _ _ _ us hl=>match us,hl with | [_,_,_,_],_=>rfl
 have agE:=aY (st:=l9) l_32 jq5D jq5E;have ajF:=agE.binds (ps:=["_law_m","_law_number"]) λ_ _ _ _ _ _ us hl=>match us,hl with | [_,_],_=>rfl
 have agF:=aY (st:=ui) l_33 jq5F jq5G;have ajG:=agF.binds (ps:=["_law_m","_law_deed_here","_law_seats_here"]) λ_ _ _ _ _ _ us hl=>match us,hl with | [_,_,_],_=>rfl
 have agG:=aY (st:=pO) l_34 jq5H jq5I;have ajH:=agG.binds (ps:=["_law_cell","_law_seats_here"]) λ_ _ _ _ _ _ us hl=>match us,hl with | [_,_],_=>rfl
 have agH:=aY (st:=jJ) l_35 jq5J jq5K;have ajI:=agH.binds (ps:=["_law_m","_law_way"]) λ_ _ _ _ _ _ us hl=>match us,hl with | [_,_],_=>rfl
 have agI:=aY (st:=mB) l_36 jq5L jq5M;have ajJ:=agI.binds (ps:=["_law_m","_law_cell","_law_seats_here"]) λ_ _ _ _ _ _ us hl=>match us,hl with | [_,_,_],_=>rfl
 have agJ:=aY (st:=pQ) l_37 jq5N jq5O;have ajK:=agJ.binds (ps:=["_law_chamber","_law_deed_here"]) λ_ _ _ _ _ _ us hl=>match us,hl with | [_,_],_=>rfl
 have agK:=aY (st:=md) l_38 jq5P jq5Q;have ajL:=agK.binds (ps:=["_law_cell"]) λ_ _ _ _ _ _ us hl=>match us,hl with | [_],_=>rfl
 have agL:=aY (st:=mf) l_39 jq5R jq5S;have ajM:=agL.binds (ps:=["_law_first","_law_edits"]) λ_ _ _ _ _ _ us hl=>match us,hl with | [_,_],_=>rfl
 have agM:=aY (st:=eF) l_40 jq5T jq5U;have ajN:=agM.binds (ps:=["_law_chamber","_law_number","_law_first","_law_before","_law_change"]) λ_ _ _ _ _ _ us hl=>match us,hl with | [_,_,_,_,_],_=>rfl
 have ajO:=aY (st:=wm) l_41 jq5V jq5W;have Uq:=aY (st:=fS) jq5X jq3W jq3p;have agN:=Uq.binds (ps:=["self"]) λ_ _ _ _ _ _ us hl=>match us,hl with | [_],_=>rfl
 have Ur:=aY (st:=fU) jq5Y jq3Y jq3r;have agO:=Ur.binds (ps:=["self"]) λ_ _ _ _ _ _ us hl=>match us,hl with | [_],_=>rfl
 have Us:=aY (st:=iH) jq5Z jq40 jq3t;have agP:=Us.binds (ps:=["self"]) λ_ _ _ _ _ _ us hl=>match us,hl with | [_],_=>rfl
 have Ut:=aY (st:=fV) jq60 jq42 jq3v;have agQ:=Ut.binds (ps:=["self"]) λ_ _ _ _ _ _ us hl=>match us,hl with | [_],_=>rfl
 have Uu:=aY (st:=gX) jq61 jq44 jq3x;have agR:=Uu.binds (ps:=["self"]) λ_ _ _ _ _ _ us hl=>match us,hl with | [_],_=>rfl
 have Uv:=aY (st:=jE) jq62 jq46 jq3z;have agS:=Uv.binds (ps:=["self"]) λ_ _ _ _ _ _ us hl=>match us,hl with | [_],_=>rfl
 have Uw:=aY (st:=iI) jq63 jq48 jq3B;have agT:=Uw.binds (ps:=["self"]) λ_ _ _ _ _ _ us hl=>match us,hl with | [_],_=>rfl
 have Ux:=aY (st:=gY) jq64 jq4a jq3D;have agU:=Ux.binds (ps:=["self"]) λ_ _ _ _ _ _ us hl=>match us,hl with | [_],_=>rfl
 have agV:=aY (st:=fW) l_mr jq65 jq29;have ajP:=agV.binds (ps:=["self"]) λ_ _ _ _ _ _ us hl=>match us,hl with | [_],_=>rfl
 have agW:=aY (st:=fX) l_mn jq66 jq2C;have Lf:=agW.binds (ps:=["self"]) λ_ _ _ _ _ _ us hl=>match us,hl with | [_],_=>rfl
 have Uy:=aY (st:=gZ) jq67 jq4r jq3F;have agX:=Uy.binds (ps:=["self"]) λ_ _ _ _ _ _ us hl=>match us,hl with | [_],_=>rfl
 have agY:=aY (st:=fY) l_mt jq68 jq3n;have Zp:=agY.binds (ps:=["self"]) λ_ _ _ _ _ _ us hl=>match us,hl with | [_],_=>rfl
 have Uz:=aY (st:=fZ) jq69 jq4w jq3H;have agZ:=Uz.binds (ps:=["self"]) λ_ _ _ _ _ _ us hl=>match us,hl with | [_],_=>rfl
 have UA:=aY (st:=f6) jq6a jq4y jq3J;have ag0:=UA.binds (ps:=["self"]) λ_ _ _ _ _ _ us hl=>match us,hl with | [_],_=>rfl
 have UB:=aY (st:=iJ) jq6b jq4A jq3L;have ag1:=UB.binds (ps:=["self"]) λ_ _ _ _ _ _ us hl=>match us,hl with | [_],_=>rfl
 have UC:=aY (st:=f7) jq6c jq4C jq3N;have ag2:=UC.binds (ps:=["self"]) λ_ _ _ _ _ _ us hl=>match us,hl with | [_],_=>rfl
 have UD:=aY (st:=g0) jq6d jq4E jq3P;have ag3:=UD.binds (ps:=["self"]) λ_ _ _ _ _ _ us hl=>match us,hl with | [_],_=>rfl
 have UE:=aY (st:=f9) jq6e jq4G jq4H;have ag4:=UE.binds (ps:=["self","text"]) λ_ _ _ _ _ _ us hl=>match us,hl with | [_,_],_=>rfl
 have UG:=aY (st:=gb) jq6f jq4J jq4K;have ag5:=UG.binds (ps:=["self","edit"]) λ_ _ _ _ _ _ us hl=>match us,hl with | [_,_],_=>rfl
 have UH:=aY (st:=iK) jq6g jq4M jq4N;have ag6:=UH.binds (ps:=["self","edit"]) λ_ _ _ _ _ _ us hl=>match us,hl with | [_,_],_=>rfl
 have UI:=aY (st:=gf) jq6h jq4P jq4Q;have ag7:=UI.binds (ps:=["self","sitting"]) λ_ _ _ _ _ _ us hl=>match us,hl with | [_,_],_=>rfl
 have UJ:=aY (st:=g7) jq6i jq4S jq4T;have ag8:=UJ.binds (ps:=["self","clause"]) λ_ _ _ _ _ _ us hl=>match us,hl with | [_,_],_=>rfl
 have gG:=aY (st:=eX) jq20 jq1J jq1K;have ja:=gG.binds (ps:=["self","seats"]) λ_ _ _ _ _ _ us hl=>match us,hl with | [_,_],_=>rfl
 have gH:=aY (st:=eY) jq21 jq1N jq1m;have jb:=gH.binds (ps:=["self","told"]) λ_ _ _ _ _ _ us hl=>match us,hl with | [_,_],_=>rfl
 have gI:=aY (st:=eZ) jq22 jq1Q jq1n;have jc:=gI.binds (ps:=["self","ayes","noes"]) λ_ _ _ _ _ _ us hl=>match us,hl with | [_,_,_],_=>rfl
 have gJ:=aY (st:=fb) jq23 jq1T jq1o;have jd:=gJ.binds (ps:=["self"]) λ_ _ _ _ _ _ us hl=>match us,hl with | [_],_=>rfl
 have gK:=aY (st:=fg) jq24 jq1W jq1p;have je:=gK.binds (ps:=["self","number"]) λ_ _ _ _ _ _ us hl=>match us,hl with | [_,_],_=>rfl
 have fQ:=aY (st:=dN) jq1Y jq1B jq1j;have iu:=fQ.binds (ps:=["self"]) λ_ _ _ _ _ _ us hl=>match us,hl with | [_],_=>rfl
 have fq:=aY (st:=dX) jq1D jq1u jq19;have dZ:=fq.binds (ps:=["self","number"]) λ_ _ _ _ _ _ us hl=>match us,hl with | [_,_],_=>rfl
 have cU:=aY (st:=b8) jq10 jqT jqy;have cV:=cU.binds (ps:=["self","number"]) λ_ _ _ _ _ _ us hl=>match us,hl with | [_,_],_=>rfl
 have dE:=aY (st:=cF) jq1b jq14 jqD;have dF:=dE.binds (ps:=["self","number"]) λ_ _ _ _ _ _ us hl=>match us,hl with | [_,_],_=>rfl
 have eI:=aY (st:=cN) jq1w jq1r jq11;have eJ:=eI.binds (ps:=["self"]) λ_ _ _ _ _ _ us hl=>match us,hl with | [_],_=>rfl
 have dG:=aY (st:=cG) jq1c jq17 jqE;have eK:=dG.binds (ps:=["self","number"]) λ_ _ _ _ _ _ us hl=>match us,hl with | [_,_],_=>rfl
 have bN:=aY (st:=bF) jqx jqt jqn;have cw:=bN.binds (ps:=["self","told"]) λ_ _ _ _ _ _ us hl=>match us,hl with | [_,_],_=>rfl
 have cj:=aY (st:=bO) jqF jqB jqp;have ck:=cj.binds (ps:=["self"]) λ_ _ _ _ _ _ us hl=>match us,hl with | [_],_=>rfl
 have cy:=aY (st:=bU) jqL jqH jqq;have cz:=cy.binds (ps:=["self","number"]) λ_ _ _ _ _ _ us hl=>match us,hl with | [_,_],_=>rfl
 have fv:=aY (st:=dY) jq1E jq1y jq1a;have fw:=fv.binds (ps:=["self","word"]) λ_ _ _ _ _ _ us hl=>match us,hl with | [_,_],_=>rfl
 have cW:=aY (st:=b9) jq12 jqW jqz;have cX:=cW.binds (ps:=["self","deed"]) λ_ _ _ _ _ _ us hl=>match us,hl with | [_,_],_=>rfl
 have dO:=aY (st:=df) jq1k jq1e jqJ;have eR:=dO.binds (ps:=["self","motion"]) λ_ _ _ _ _ _ us hl=>match us,hl with | [_,_],_=>rfl
 have cH:=aY (st:=bX) jqY jqN jqv;have dJ:=cH.binds (ps:=["self","edit"]) λ_ _ _ _ _ _ us hl=>match us,hl with | [_,_],_=>rfl
 have cI:=aY (st:=bY) jqZ jqQ jqw;have dM:=cI.binds (ps:=["self","edit"]) λ_ _ _ _ _ _ us hl=>match us,hl with | [_,_],_=>rfl
 have dP:=aY (st:=dg) jq1l jq1h jqK;have dQ:=dP.binds (ps:=["self","until"]) λ_ _ _ _ _ _ us hl=>match us,hl with | [_,_],_=>rfl
 have mI:=aY (st:=gg) jq2Z jq2u jq2v;have mJ:=mI.binds (ps:=["self","bar"]) λ_ _ _ _ _ _ us hl=>match us,hl with | [_,_],_=>rfl
 have jg:=aY (st:=eB) jq28 jq26 jq27;have lP:=jg.binds (ps:=["self","sitting"]) λ_ _ _ _ _ _ us hl=>match us,hl with | [_,_],_=>rfl
 have mK:=aY (st:=gh) jq30 jq2z jq2A;have qO:=mK.binds (ps:=["self","sitting"]) λ_ _ _ _ _ _ us hl=>match us,hl with | [_,_],_=>rfl
 have T:Txt P K mg ⟨f_1,_,f_2,_,f_3,_,f_4,_,f_5,_,f_6,_,f_7,_,f_8,_,f_9,_,Ss,_,Su,_,Sv,_,Sw,_,Sx,_,Sy,_,Sz,_,SA,_,SD,_,SE,_,SG,_,SH,_,SI,_,SJ,_,SK,_,SM,_,SN,_,SO,_,SQ,_,SR,_,SS,_,SU,_,SV,_,SW,_,SX,_,SY,_,S0,_,S1,_,S2,_,S3,_,S4,_,kz,c0,c1,c2,c3,c4,c5,c6,c7,cm,tb,GK,_,GL,_,GN,_,GO,_,GP,_,GQ,_,GR,_,GS,_,zr,_,Cj,_,GU,_,Kb,_,GV,_,GW,_,GX,_,GY,_,GZ,_,G0,_,G1,_,G2,_,G3,_,G4,_,bf,cO,_,cP,_,cQ,_,cS,_,cT,_,cC,_,cc,_,bB,_,bH,_,bW,_,bI,_,bg,_,bq,_,br,_,cf,_,bC,_,bK,_,bx,_,bz,_,bL,_,a6,xb,mZ,m5,m7,iD,qa,qb,qc,m8,m9,nc,_,jr,_,ng,_⟩:={
  JI:=F_1,
  OK:=b_1,
  OL:=ki X G a_1,
  ij:=F_2,
  kA:=b_2,
  kB:=ki X G a_2,
  EM:=F_3,
  JJ:=b_3,
  JK:=ki X G a_3,
  iA:=F_4,
  jQ:=b_4,
  jR:=ki X G a_4,
  nU:=F_5,
  sP:=b_5,
  sQ:=ki X G a_5,
  nX:=F_6,
  yU:=b_6,
  yV:=ki X G a_6,
  wu:=F_7,
  Bh:=b_7,
  Bi:=ki X G a_7,
  lO:=F_8,
  qK:=b_8,
  qL:=ki X G a_8,
  lA:=F_9,
  q9:=b_9,
  rg:=ki X G a_9,
  hZ:=agi,
  lI:=ajj,
  lJ:=ki X G a_10,
  iB:=agj,
  mE:=ajk,
  mF:=ki X G a_11,
  lB:=agk,
  rh:=ajl,
  rj:=ki X G a_12,
  lC:=agl,
  rl:=ajm,
  rm:=ki X G a_13,
  mG:=agm,
  sS:=ajn,
  sT:=ki X G a_14,
  kR:=agn,
  nY:=ajo,
  nZ:=ki X G a_15,
  ya:=ago,
  Dh:=ajp,
  Di:=ki X G a_16,
  sU:=agp,
  yW:=ajq,
  yX:=ki X G a_17,
  wy:=agq,
  Bj:=ajr,
  Bk:=ki X G a_18,
  mH:=agr,
  qM:=ajs,
  qN:=ki X G a_19,
  wz:=ags,
  Bl:=ajt,
  Bm:=ki X G a_20,
  sV:=agt,
  wA:=aju,
  wB:=ki X G a_21,
  sW:=agu,
  wC:=ajv,
  wD:=ki X G a_22,
  pU:=agv,
  uq:=ajw,
  ur:=ki X G a_23,
  wF:=agw,
  Bn:=ajx,
  Bo:=ki X G a_24,
  EN:=agx,
  Lv:=ajy,
  Lw:=ki X G a_25,
  i8:=agy,
  kD:=ajz,
  kF:=ki X G a_26,
  wG:=agz,
  Av:=ajA,
  Aw:=ki X G a_27,
  yb:=agA,
  Dj:=ajB,
  Dk:=ki X G a_28,
  Bp:=agB,
  FZ:=ajC,
  F0:=ki X G a_29,
  uu:=agC,
  yc:=ajD,
  yd:=ki X G a_30,
  ye:=agD,
  Dl:=ajE,
  Dm:=ki X G a_31,
  yf:=agE,
  Dn:=ajF,
  Dp:=ki X G a_32,
  EO:=agF,
  Lx:=ajG,
  Ly:=ki X G a_33,
  Bq:=agG,
  F2:=ajH,
  F3:=ki X G a_34,
  u7:=agH,
  Br:=ajI,
  Bs:=ki X G a_35,
  Bt:=agI,
  F4:=ajJ,
  F5:=ki X G a_36,
  Bu:=agJ,
  F6:=ajK,
  F7:=ki X G a_37,
  yg:=agK,
  Dq:=ajL,
  Dr:=ki X G a_38,
  yh:=agL,
  Ds:=ajM,
  Dt:=ki X G a_39,
  lD:=agM,
  rn:=ajN,
  rp:=ki X G a_40,
  Ax:=akK X G z1,
  i9:=akK X G z2,
  ER:=akK X G z3,
  n5:=akK X G z4,
  F8:=akK X G z5,
  Tp:=akK X G z6,
  OM:=akK X G z7,
  Bv:=akK X G z8,
  ON:=akK X G z9,
  ES:=akK X G z10,
  wH:=ki X G jq25,
  cl:=λk hk=>match k,hk with | 0,_=>⟨pg0,hd0,po0,sa0⟩ | 1,_=>⟨pg1,hd1,po1,sa1⟩ | 2,_=>⟨pg2,hd2,po2,sa2⟩ | 3,_=>⟨pg3,hd3,po3,sa3⟩ | 4,_=>⟨pg4,hd4,po4,sa4⟩ | 5,_=>⟨pg5,hd5,po5,sa5⟩ | 6,_=>⟨pg6,hd6,po6,sa6⟩ | 7,_=>⟨pg7,hd7,po7,sa7⟩ | n+8,h=>absurd h (by omega),
  wI:=ki X G ac0,
  wJ:=ki X G ac1,
  JL:=ki X G ac2,
  Bw:=ki X G ac3,
  ET:=ki X G ac4,
  OO:=ki X G ac5,
  JM:=ki X G ac6,
  EU:=ki X G ac7,
  EV:=ki X G atb,
  tb:=⟨est,nt,ltb,ktb⟩,
  rk:=λk hk=>match k,hk with | 0,_=>⟨_,rk0⟩ | 1,_=>⟨_,rk1⟩ | 2,_=>⟨_,rk2⟩ | 3,_=>⟨_,rk3⟩ | 4,_=>⟨_,rk4⟩ | 5,_=>⟨_,rk5⟩ | 6,_=>⟨_,rk6⟩ | 7,_=>⟨_,rk7⟩ | n+8,h=>absurd h (by omega),
  oz:=λk hk=>match k,hk with | 0,_=>⟨jq3o,jq3X,jq3p⟩ | 1,_=>⟨jq3q,jq3Z,jq3r⟩ | 2,_=>⟨jq3s,jq41,jq3t⟩ | 3,_=>⟨jq3u,jq43,jq3v⟩ | 4,_=>⟨jq3w,jq45,jq3x⟩ | 5,_=>⟨jq3y,jq47,jq3z⟩ | 6,_=>⟨jq3A,jq49,jq3B⟩ | 7,_=>⟨jq3C,jq4b,jq3D⟩ | n+8,h=>absurd h (by omega),
  oB:=λk hk=>match k,hk with | 0,_=>agN | 1,_=>agO | 2,_=>agP | 3,_=>agQ | 4,_=>agR | 5,_=>agS | 6,_=>agT | 7,_=>agU | n+8,h=>absurd h (by omega),
  OP:=λk hk=>match k,hk with | 0,_=>⟨jq4k,jq31,jq2C⟩ | 1,_=>⟨jq4l,jq31,jq2C⟩ | 2,_=>⟨jq4m,jq31,jq2C⟩ | 3,_=>⟨jq4n,jq31,jq2C⟩ | 4,_=>⟨jq3E,jq4s,jq3F⟩ | 5,_=>⟨jq4o,jq31,jq2C⟩ | 6,_=>⟨jq4p,jq31,jq2C⟩ | 7,_=>⟨jq4q,jq31,jq2C⟩ | n+8,h=>absurd h (by omega),
  OQ:=λk hk=>match k,hk with | 0,_=>Lf | 1,_=>Lf | 2,_=>Lf | 3,_=>Lf | 4,_=>agX | 5,_=>Lf | 6,_=>Lf | 7,_=>Lf | n+8,h=>absurd h (by omega),
  JN:=λk hk=>match k,hk with | 0,_=>⟨jq3G,jq4x,jq3H⟩ | 1,_=>⟨jq3I,jq4z,jq3J⟩ | 2,_=>⟨jq3K,jq4B,jq3L⟩ | 3,_=>⟨jq3M,jq4D,jq3N⟩ | 4,_=>⟨jq4t,jq3V,jq3n⟩ | 5,_=>⟨jq4u,jq3V,jq3n⟩ | 6,_=>⟨jq4v,jq3V,jq3n⟩ | 7,_=>⟨jq3O,jq4F,jq3P⟩ | n+8,h=>absurd h (by omega),
  JO:=λk hk=>match k,hk with | 0,_=>agZ | 1,_=>ag0 | 2,_=>ag1 | 3,_=>ag2 | 4,_=>Zp | 5,_=>Zp | 6,_=>Zp | 7,_=>ag3 | n+8,h=>absurd h (by omega),
  OR:=λk hk=>match k,hk with | 0,_=>⟨jq4c,jq2B,jq29⟩ | 1,_=>⟨jq4d,jq2B,jq29⟩ | 2,_=>⟨jq4e,jq2B,jq29⟩ | 3,_=>⟨jq4f,jq2B,jq29⟩ | 4,_=>⟨jq4g,jq2B,jq29⟩ | 5,_=>⟨jq4h,jq2B,jq29⟩ | 6,_=>⟨jq4i,jq2B,jq29⟩ | 7,_=>⟨jq4j,jq2B,jq29⟩ | n+8,h=>absurd h (by omega),
  OS:=λ_ _=>ajP,
  aad:=Uq,
  aae:=Ur,
  aaf:=Us,
  aag:=Ut,
  aah:=Uu,
  aai:=Uv,
  aaj:=Uw,
  aak:=Ux,
  F_r:=agV,
  F_n:=agW,
  aal:=Uy,
  F_t:=agY,
  aam:=Uz,
  aan:=UA,
  aao:=UB,
  aap:=UC,
  aaq:=UD,
  aar:=UE,
  aas:=UG,
  aat:=UH,
  aau:=UI,
  aav:=UJ,
  wK:=⟨mk0,jq3Q,jq4I,kc0⟩,
  Rh:=ag4,
  na0:=na0,
  wL:=⟨mk1,jq3R,jq4L,kc1⟩,
  Ri:=ag5,
  na1:=na1,
  JP:=⟨mk2,jq3S,jq4O,kc2⟩,
  VN:=ag6,
  na2:=na2,
  Bx:=⟨mk3,jq3T,jq4R,kc3⟩,
  VO:=ag7,
  na3:=na3,
  EW:=⟨mk7,jq3U,jq4U,kc7⟩,
  VP:=ag8,
  na7:=na7,
  mkn:=λk hk=>by
   rcases hk with rfl | rfl | rfl
   ·exact⟨mk4,ni4,kc4⟩
   ·exact⟨mk5,ni5,kc5⟩
   ·exact⟨mk6,ni6,kc6⟩,
  Du:=ki X G jq2D,
  aq:=⟨jq2E,jq2F,jq2G,jq2H⟩,
  gG:=gG,
  ja:=ja,
  Dv:=⟨jq2I,jq1I,jq1L,jq2J⟩,
  gH:=gH,
  jb:=jb,
  sX:=⟨jq1M,jq1O,jq1m⟩,
  gI:=gI,
  jc:=jc,
  sY:=⟨jq1P,jq1R,jq1n⟩,
  gJ:=gJ,
  jd:=jd,
  sZ:=⟨jq1S,jq1U,jq1o⟩,
  gK:=gK,
  je:=je,
  tf:=⟨jq1V,jq1X,jq1p⟩,
  fQ:=fQ,
  iu:=iu,
  rq:=⟨jq1A,jq1C,jq1j⟩,
  fq:=fq,
  dZ:=dZ,
  hG:=⟨jq1t,jq1v,jq19⟩,
  cU:=cU,
  cV:=cV,
  fL:=⟨jqS,jqU,jqy⟩,
  dE:=dE,
  dF:=dF,
  gL:=⟨jq13,jq15,jqD⟩,
  eI:=eI,
  eJ:=eJ,
  jf:=⟨jq1q,jq1s,jq11⟩,
  dG:=dG,
  eK:=eK,
  kS:=⟨jq16,jq18,jqE⟩,
  bN:=bN,
  cw:=cw,
  fE:=⟨jqs,jqu,jqn⟩,
  cj:=cj,
  ck:=ck,
  eu:=⟨jqA,jqC,jqp⟩,
  cy:=cy,
  cz:=cz,
  eN:=⟨jqG,jqI,jqq⟩,
  fv:=fv,
  fw:=fw,
  jS:=⟨jq1x,jq1z,jq1a⟩,
  cW:=cW,
  cX:=cX,
  fM:=⟨jqV,jqX,jqz⟩,
  dO:=dO,
  eR:=eR,
  lK:=⟨jq1d,jq1f,jqJ⟩,
  cH:=cH,
  dJ:=dJ,
  iQ:=⟨jqM,jqO,jqv⟩,
  cI:=cI,
  dM:=dM,
  iR:=⟨jqP,jqR,jqw⟩,
  dP:=dP,
  dQ:=dQ,
  ia:=⟨jq1g,jq1i,jqK⟩,
  jqr:=jqr,
  jq1:=jq1,
  jq5:=jq5,
  jq2:=jq2,
  jq0:=jq0,
  jq4:=jq4,
  jqj:=jqj,
  jq3:=jq3,
  jq6:=jq6,
  jqk:=jqk,
  gM:=ki X G jq1Z,
  Lz:=ki X G jq3i,
  By:=ki X G jq32,
  Bz:=ki X G jq2a,
  BA:=ki X G jq2b,
  BB:=ki X G jq2c,
  Dw:=ki X G jq2K,
  Dx:=ki X G jq2L,
  Dy:=ki X G jq2M,
  F9:=ki X G jq33,
  va:=ki X G jq2d,
  iw:=⟨jq1F,jq1G,jq1H⟩,
  Ga:=⟨⟨_,_,_,_,_,_,_,_,_,_,_,_,_,_,_,_,jq3j,⟨⟨_,_,_,_,_,jq3k,jq3l⟩,jq3m⟩,(iZ.own jq7 (by rw[jq8];exact⟨⟨_,_,_,_,_,jq9,jqa⟩,jqb⟩) iZ.base)⟩⟩,
  jqo:=jqo,
  yY:=⟨⟨_,_,_,_,_,_,_,_,_,_,_,_,_,_,_,_,jq2e,⟨⟨_,_,_,_,_,jq2i,jq2j⟩,jq2k⟩,(iZ.own jq7 (by rw[jq8];exact⟨⟨_,_,_,_,_,jq9,jqa⟩,jqb⟩) iZ.base)⟩⟩,
  jqc:=jqc,
  yZ:=⟨⟨_,_,_,_,_,_,_,_,_,_,_,_,_,_,_,_,jq2f,⟨⟨_,_,_,_,_,jq2l,jq2m⟩,jq2n⟩,(iZ.own jq7 (by rw[jq8];exact⟨⟨_,_,_,_,_,jq9,jqa⟩,jqb⟩) iZ.base)⟩⟩,
  jqd:=jqd,
  BC:=⟨⟨_,_,_,_,_,_,_,_,_,_,_,_,_,_,_,_,jq2N,⟨⟨_,_,_,_,_,jq2Q,jq2R⟩,jq2S⟩,(iZ.own jq7 (by rw[jq8];exact⟨⟨_,_,_,_,_,jq9,jqa⟩,jqb⟩) iZ.base)⟩⟩,
  jqg:=jqg,
  BD:=⟨⟨_,_,_,_,_,_,_,_,_,_,_,_,_,_,_,_,jq2O,⟨⟨_,_,_,_,_,jq2T,jq2U⟩,jq2V⟩,(iZ.own jq7 (by rw[jq8];exact⟨⟨_,_,_,_,_,jq9,jqa⟩,jqb⟩) iZ.base)⟩⟩,
  jqh:=jqh,
  BE:=⟨⟨_,_,_,_,_,_,_,_,_,_,_,_,_,_,_,_,jq2P,⟨⟨_,_,_,_,_,jq2W,jq2X⟩,jq2Y⟩,(iZ.own jq7 (by rw[jq8];exact⟨⟨_,_,_,_,_,jq9,jqa⟩,jqb⟩) iZ.base)⟩⟩,
  jqi:=jqi,
  tj:=⟨⟨_,_,_,_,_,_,_,_,_,_,_,_,_,_,_,_,jq2g,⟨⟨_,_,_,_,_,jq2o,jq2p⟩,jq2q⟩,(iZ.own jq7 (by rw[jq8];exact⟨⟨_,_,_,_,_,jq9,jqa⟩,jqb⟩) iZ.base)⟩⟩,
  jqe:=jqe,
  mI:=mI,
  mJ:=mJ,
  pV:=⟨⟨_,_,_,_,_,_,_,_,_,_,_,_,_,_,_,_,jq34,(iZ.own jq7 (by rw[jq8];exact⟨⟨_,_,_,_,_,jq9,jqa⟩,jqb⟩) iZ.base),rfl,⟨⟨_,_,_,_,_,jq36,jq37⟩,jq38⟩⟩,jq3c,jq3d,jq3e⟩,
  jql:=jql,
  jg:=jg,
  lP:=lP,
  n6:=⟨⟨_,_,_,_,_,_,_,_,_,_,_,_,_,_,_,_,jq2h,(iZ.own jq7 (by rw[jq8];exact⟨⟨_,_,_,_,_,jq9,jqa⟩,jqb⟩) iZ.base),rfl,⟨⟨_,_,_,_,_,jq2r,jq2s⟩,jq2t⟩⟩,jq2w,jq2x,jq2y⟩,
  jqf:=jqf,
  mK:=mK,
  qO:=qO,
  uv:=⟨⟨_,_,_,_,_,_,_,_,_,_,_,_,_,_,_,_,jq35,(iZ.own jq7 (by rw[jq8];exact⟨⟨_,_,_,_,_,jq9,jqa⟩,jqb⟩) iZ.base),rfl,⟨⟨_,_,_,_,_,jq39,jq3a⟩,jq3b⟩⟩,jq3f,jq3g,jq3h⟩,
  jqm:=jqm }
 subst hP;exact⟨eg "law" "law" (aO wm) (aL wm) (ag wm) .none Ui Uj Uk Tx P7 Ul,λs v=>.of_eq rfl,λbase _ _=>Wt ajO T⟩
theorem walk {l:PySem.W.OpenLaw}{q:sr}{loose:List Str}{XP:(Str->Option Value)->Heap->Prop}{YP:World->Heap->Prop}{d:DefRec}{K:Params->bo}(hn:l.most=some 63)(hdf:d.params.defaults=[])
  (hY:∀(w:World) (h:Heap),YP w h->(K w.params).In h)
  (F:∀(w:World) (mg:Str->Option Value) (fa:Addr) (h:Heap),(K w.params).In h->h.Ns gn mg->mg d.name=some (.ref fa) ->
   ∃fd:kj,(∀(s:Shared) (u:Value),BindsTo s fd ⟨[u],[]⟩ [("_law_script",u)])/\∀base:Heap,(K w.params).In base->base.Ns gn mg->a7 l.prog w (K w.params) mg base CX0 20 fa fd ["_law_script"] (L3 (K w.params))) :
  PySem.W.WalkO q loose XP YP l.row.toRowW d [] (λf vs=>PySem.call f vs) :=
 L2.QY (n:=63) (k:=20) (x:="_law_script") (CX:=λ_=>CX0) (sp:=λw=>L3 (K w.params)) hn (by decide) hdf ⟨rfl,by decide,by decide,rfl⟩ hY F (λ_ _ a ns hl _ hS=>⟨a,ns,rfl,hS,hl,λ_=>rfl⟩) λ_ _ _ _ _ z=>z
end My
structure PySem.W.Fast:Prop where(tw8115405648466054334 tw17702146311782202929 tw14015576958335934782 tw9796627791798648168 tw17722962469689560115 tw13543347157981593168 tw6465069563431470314 tw12647524807792849720 tw17840988174572852173 tw2519665583651804238 tw15258154233724389717 tw5016028960227824876 tw11764195392671536943 tw3020194978987813028 tw15838447570103924464 tw11878768666705228953 tw16373960553710442226 tw2096272685408770819 tw15006383386785440170 tw16283118252367505470 tw14566921811425613292 tw14033207197181711799 tw16728127556595478359 tw14062236794884732508 tw13205736131162109558 tw2458510254459183499 tw13404861349061231446 tw8307001738636809928 tw2866687146950281378 tw10742749231537424773 tw81196621297633315 tw16594184962290515459 tw4295956972536718847 tw9683690971058605822 tw17627906291588667318 tw3003627882022839259 tw12019539038217502215 tw15659780181915484419 tw13823998558397774367 tw13803204169109688826 tw5662699098263125523 tw11540849285490983434 tw13492844700842429524 tw6925407628545981100 tw12474858481933829642 tw14041896562953727590 tw10216378242627411505 tw12401603752264860052 tw7224289238228811773 tw17063215322964144902 tw14293973275886520929 tw9338229700199784451 tw5307207131035180017 tw3624391509726116720 tw6767765515541470295 tw17620443526502358810 tw12143909983971834700 tw9910343690836255945 tw877270598277395796 tw4936358799293209420 tw2175522363266328323 tw11222575465292004548 tw17269885217930068343 tw1862942138880581054 tw16480415752255134914 tw13517845311203280638 tw13037220701968747953 tw8529516913049715137 tw6847088898247308570 tw7074723188698005493 tw11096035261677568095 tw14124582003674560867 tw6844626972105370244 tw8375544576658414867 tw2905424135650731872 tw2325844905671819579 tw10372632235670450545 tw9408415518327134303 tw18165749677921581154 tw3539418288082503002 tw14045326777710439161 tw476368305693760289 tw2270172505424191347 tw3319946951641323944 tw4517285692045292402 tw8065611230617454895 tw15979933343875485747 tw14069111005632528333 tw13901232433835041034 tw790749911735263061 tw9081089660420134613 tw10019435119338831957 tw10750500992828155592 tw4886206021002936047 tw3631175991724104166 tw6354289346870340947 tw1342551187503134580 tw6504722943257662066 tw8473989063156358733 tw9037567619111458403 tw5905801772413719537 tw12349686435764074708 tw5823497477161519769 tw15058887096187806096 tw272498382754848317 tw8012524726244086922 tw15405050324179852401 tw12762831858707116533 tw13517851547654169316 tw5173789008656670291 tw748362300048081358 tw13178150092839526843 tw10891017517004132002 tw4787955757283095817 tw2240101227807476392 tw10306204831848110285 tw13412288256838759330 tw8469468387946864207 tw405959515990051041 tw9721357088370711190 tw12648383246750992062 tw3851358276085894697 tw15774974859397753424 tw3169429608866699113 tw17881495076430106304 tw13083735577635526446 tw10939966971569772973 tw14579761979265110311 tw5008835394354979863 tw16846308242135634079 tw2144639529971844081 tw13218774746724429694 tw9180031762047831384 tw11351172443368430267 tw13395565253482558544 tw7942300223415742111 tw4544550390529763910 tw13376306740215957791 tw13645864137688293924 tw4230494205017620801 tw3815123569347661013 tw2751745626993164226 tw3451859491066094494 tw10344174643415335525 tw11054458853693158721 tw13251709852586856872 tw17958459855879951307 tw9228816433040435525 tw1298331648856204721 tw11845536172066694361 tw8686119074495948207 tw14383987734309607187 tw4099390675579857807 tw5079488576520852801 tw5389230678641101430 tw3138421228240510051 tw5912576638307397019 tw2915142582553312521 tw7378376402432283524 tw12851702248604573269 tw11283699743164499853 tw16872595378588810303 tw7303535314585189460 tw7670295653584360460 tw16004656723104696323 tw17421823172919248142 tw17016154956927454110 tw18335035620357167394 tw8785358521116005841 tw17250745183819474149 tw10856612085386003594 tw2874553675044125912 tw13993108283715782133 tw6047048842275289598 tw11740571774035422074 tw12788754198659746772 tw12243378082267954927 tw18445419750022463545 tw1602267716016252401 tw2085483470927590759 tw18371300513659378824 tw4418517446377829157 tw17754611326982263429 tw87984714116612576 tw2894212408844503887 tw16612502798733517367 tw10117101351367723330 tw6618563329821833977 tw10100093594178161208 tw1023824356600964596 tw16214801015816369231 tw1733442999609726878 tw14295211640699126189 tw11476387662953178023 tw1181972175432745278 tw2149406042441008558 tw12874035740362960539 tw6313784887506898093 tw158424083555797768 tw5516659405909402602 tw6160904596649487964 tw15973021267087857056 tw9352742511752893301 tw11909382581862250475 tw5454056362916377217 tw16696164478268325738 tw9843983907524167489 tw15366226816968230954 tw5750813560263687448 tw13966389953519800080 tw13849221004903742534 tw2392322302667616050 tw18399422351297221535 tw12058722024869893576 tw3481190477148160618 tw2424412522575819934 tw12477660049277519136 tw1106497628376821042 tw15241480760602148803 tw14237103483877267866 tw11943300612012440471 tw15157835236827623057 tw2755425210595966104 tw16400652496323744964 tw14368027761381491767 tw16873311482245236290 tw14149443259928636102 tw9510967535613264141 tw13183029251725312686 tw871282230991796621 tw6069147212931842571 tw1992817289348202890 tw5213496080159045396 tw10164495859085665188 tw14117394901236223434 tw10241518336644416121 tw12359600616846672071 tw11657462292406297182 tw7379889546267878236 tw14079865582482061632 tw14410799541934503758 tw4066361247195336958 tw10135362491897640619 tw16959029840342834899 tw13925534889948252172 tw8237635188625262167 tw17191912347872901772 tw16299782949467352471 tw13130294582056698336 tw1206600157638789348 tw5025372710474361859 tw6187901711815525862 tw17117425681935454023 tw9108284992874697236 tw1582237735518982076 tw7807305352758976081 tw3111427702668474863 tw12685831442861935763 tw8997515420404329520 tw6326683604879156979 tw8258658391194043625 tw15520615663594330231 tw7648231168610828559 tw16098817304516369124 tw4538837306004942259 tw4711461959557182306 tw10068881946677178584 tw608306312843212785 tw13962292629152126282 tw6200427742992171317 tw17440048933069078372 tw11438515879983086305 tw1439370281202284896 tw16445365745785039854 tw17511339562622753105 tw385910556780406049 tw12407813640754118073 tw1539521609091159007 tw18022180114289684896 tw14225543225990322017 tw1655331632167843929 tw1348603551323672054 tw12888489126619701412 tw10018888173616413587 tw3400126461689772235 tw10463283980543872847 tw9218706673667234911 tw12932988377797241775 tw7731066846990635162 tw17290975896966872236 tw2886999040717553406 tw7037849393652268727 tw16654401315081765302 tw5179096859467397119 tw16044798361572061342 tw14303394696639364507 tw5331423258622461688 tw10991008875801270467 tw2985558722207356749 tw15452434309137722005 tw17369735406566449209 tw12438997730833222517 tw11978511352469236323 tw1134011453491536684 tw2296095557582174592 tw14117167509202164070 tw5921922833703777702 tw17582446002608290966 tw2241067417528838598 tw8176575955605113033 tw7574023180195716480 tw8350447046584658974 tw2203764253029212832 tw8135078857983592971 tw582001526301584407 tw13514207158836878313 tw307249194859890242 tw10089992422499812953 tw2369677282773612254 tw14817246193218567425 tw14321836348691218735 tw11980830029800172903 tw8596407628080936945 tw9220244771434985519 tw7223303723203238887 tw14923331042495479815 tw324833855584350975 tw2175657870536935762 tw17426450230755661795 tw17251401501364759605 tw94711551504013639 tw8699592011420247538 tw1182798254351416638 tw8109246362251106397 tw4391405352848116330 tw10808695923304118410 tw4177474451972696816 tw9298542613581447167 tw2249227930654753573 tw1355274736812812700 tw4140240882212660949 tw7190565180618082415 tw15389775129752674392 tw11158110774444145542 tw13230108176877884872 tw18220744106901021923 tw6068834058000392554 tw17692027889867204747 tw15612742585745177538 tw3251454786442511166 tw6795787708082558675 tw12005883730380416021 tw6034144160590816480 tw3090580479010466646 tw10530997984237116791 tw9439410680946663092 tw2601316283620663624 tw882274997384573487 tw14475986470438491416 tw14621444842145202841 tw13115224949288785440 tw18298064612335598339 tw4961296989129723991 tw11482057442839166267 tw1058800739907930766 tw10251300528035443924 tw14864694667404474399 tw3927675695030575075 tw1607626267010040819 tw9708083077082580232 tw9398719570262388168 tw10478620215501716909 tw11605519599224110342 tw10868766399657154001 tw10557867552487235565 tw2448400680264962559 tw7613206144164846508 tw18372742729759415965 tw8984472386649767082 tw2945771953128268958 tw12628257482808970270 tw9858813325908161444 tw5461884988203360514 tw335848629850367704 tw15892496159563646595 tw6667367602950318384 tw4279557247545463963 tw979655842180040684 tw7429189645374592750 tw9673439912298978641 tw8583830317435148563 tw1397700006403088730 tw14783842954283223640 tw16699351059986402297 tw18339091620663777984 tw9696613167522031114 tw5189926701635626634 tw922566214209552037 tw9600108859964999716 tw18028802052189656024 tw7922798546107693622 tw11704145015843280211 tw5001733328077378844 tw11899472008825455092 tw16474963276364500382 tw3764309656682088906 tw10712495825853136547 tw10394773383496371627 tw15005224120921351045 tw5973725360064298256 tw13881750510109139661 tw14964395355558715752 tw15321106902768727047 tw1298542243167861863 tw15145635796804940987 tw9241940571192292414 tw12777052176967780787 tw8422448159145271774 tw6995299231792201287 tw14032092075748189505 tw14423865499313400269 tw4699868382132390969 tw2215893110525490721 tw3761606694585585951 tw17098876023818266165 tw11703844920287353586 tw15581411802412300025 tw1173332981290089169 tw7244234932946865056 tw17858383376621728813 tw13929059189211631608 tw7916953307684922534 tw17975082255930503641 tw12606535060562949460 tw11144901667937855420 tw8388312751447756945 tw14319015741599200824 tw17875481366629916731 tw826542263291937084 tw9228446447906390690 tw7630442148361546336 tw15715081629738243687 tw10890546059335738611 tw10165314911941257875 tw4265604933652314350 tw6232592055856007208 tw8471583596679605599 tw1762594051034696115 tw17977092595494344302 tw4270562291667804529 tw12418976004541793024 tw1302237806805121513 tw15154941875566508536 tw10940831064429487952 tw9252947142379732923 tw16288699302231798705 tw15256772700064267184 tw11944812598638459604 tw7919827104845062391 tw17595506346006298349 tw623305145362678687 tw6289246183150442218 tw3530248541305415145 tw2206830525856307524 tw3004272511103283993 tw12721565296376161126 tw17158628647831113505 tw440454094294075884 tw4197643265026216660 tw2293118977576148350 tw2301194014266553788 tw3532428201697015884 tw9844094345301217805 tw4753846458376516963 tw13265950860380742424 tw8857049710266514508 tw14302881582608887780 tw15590513658144237765 tw1109409510858309772 tw1507992961850903099 tw9914828545717155106 tw14005329943059877488 tw7936052022614046770 tw13973673881088350553 tw10916829515599689282 tw15937129150164296630 tw5668676421503605884 tw14337601804850376954 tw15263215703241014726 tw2971829726604257615 tw1981281741035261726 tw14721183069696331263 tw13110857638678069727 tw10629068758688495456 tw6838631899777284351 tw15470749134057147852 tw3517815553947140990 tw11693784030939013053 tw12908365406109591984 tw11215531939012244773 tw8559885355303658239 tw3565294162994536929 tw13056351170558483272 tw1944074362334643688 tw7567004672865591272 tw1134297473922421664 tw9854387278446247808 tw4606490090081259699 tw17981544186421771072 tw1180560617965056865 tw18404414889174591185 tw2875086790708375091 tw18274842049388209386 tw822181123426137023 tw7240348703245042451 tw8021323649959529243 tw7682893283614718952 tw10795245078182356259 tw10523047207498424511 tw5967992103191108650 tw8924634824158822428 tw17410907648784301969 tw2052969466530516513 tw1571782149947524486 tw15445228573355688363 tw5562628344214268565 tw7520733884769248238 tw17244103507993315205 tw4933299131117085380 tw1510017791360416772 tw279198664102957692 tw8194499373853876802 tw4578271526623798470 tw3291188492979300243 tw11278677809934810050 tw2294156918288106859 tw11359861629214711220 tw11731958967740847190 tw9923911057168373285 tw17076180899189434616 tw4172727152942834527 tw12473468386646442732 tw16824567711604713758 tw15477193968922084244 tw4275291268699063417 tw8799933401225962680 tw3460300737691778977 tw9088657575729183852 tw5045997623159634750 tw13075278376527739201 tw50606649622792136 tw15115828591731245751 tw6992387378897396615 tw10992319485941506166 tw5353600884700764104 tw4685909879193332787 tw8204645688033790173 tw3113572016547475377 tw16108976109389724080 tw6031454345451249304 tw4241400420113988326 tw2139237422671349618 tw17023795994909527646 tw2684540615557606604 tw3129632844478086624 tw9312679358956368767 tw136220843931541050 tw13976334128829559970 tw10789289379751892559 tw14939160632749440504 tw556941458826989078 tw9058806998624108213 tw4265443557079446881 tw12474683280498223850 tw5685346995291203667 tw6525828722458033446 tw3150310610975698111 tw75553140330397523 tw1945118280229080925 tw6608706668800948865 tw815457399010225931 tw927550422690685376 tw13547691920471499722 tw8080457972866282621 tw6588644298515180675 tw4738509704461333685 tw2269155374160956487 tw15187039486347374203 tw11768717130443895408 tw12964827869329766960 tw5738081338193862892 tw8912027495515752179 tw11185186577420065331 tw15104677479714397481 tw8714918421388954380 tw9653509743724659500 tw11474462172700382577 tw5738732530270568478 tw6116783868391114037 tw5973060429767040725 tw7758253334372619878 tw3602345473975032649 tw17201613161438493218 tw8908738270002538136 tw6866552301404890838 tw15880508694868620380 tw7443089472272972704 tw10781549675921993894 tw12586104513232664491 tw17175503856489610262 tw14922619116178552557 tw239413361641579239 tw10610403317798629232 tw7939896114703292197 tw9099348434455609019 tw15409652278890995112 tw5208035591182516830 tw1497480895293346968 tw15226160132510197467 tw18098642148173637923 tw6973134830781713423 tw6695536927804079255 tw18029657336526128754 tw7882206367161355481 tw15128646020607202096 tw7446599837617740242 tw2402552364511595480 tw3944493235343625844 tw6848722079918101648 tw16798095977282122786 tw14452645616274870862 tw10146408551919462680 tw4478444949651736763 tw18155242293038132831 tw11981752829393013693 tw15609064770619575983 tw12542773318378309018 tw8719718194579094101 tw15077583413038475363 tw2819211795156141900 tw15289181507990220947 tw5789235617314090535 tw14832650385202157531 tw13479534341387098288 tw15379502178716613421 tw6537935281189170438 tw14090708298454035823 tw16892003575403704001 tw10185947912104779271 tw6422268916367421874 tw8718250393641846664 tw5088292669849776810 tw3241806543836980536 tw11117637681509273035 tw12085139668035583284 tw15376557803663457670 tw7995686396528872397:True)
open PySem PySem.W PyProof.Rows
set_option maxRecDepth 100000 in
set_option maxHeartbeats 0 in
theorem PySem.Challenge.cw_moot_k15_whole_texts_behind_changes_holds : PySem.Challenge.rw_moot_k15_whole_texts_behind_changes.Holds := by
 w_on;o_law;k_head;(case hw=>w_witness2)
 k_fill;refine My.walk (l:=PySem.Challenge.rw_moot_k15_whole_texts_behind_changes) rfl rfl (λw h Y=>PySem.W.kIn_of Y) ?F
 case F =>
  intro w mg fa h KX G hmg;refine' My.all_mk KX G hmg rfl ?a_1 ?l_1 ?cc_1 ?kp_1 ?a_2 ?l_2 ?cc_2 ?kp_2 ?a_3 ?l_3 ?cc_3 ?kp_3 ?a_4 ?l_4 ?cc_4 ?kp_4 ?a_5 ?l_5 ?cc_5 ?kp_5 ?a_6 ?l_6 ?cc_6 ?kp_6 ?a_7 ?l_7 ?cc_7 ?kp_7 ?a_8 ?l_8 ?cc_8 ?kp_8 ?a_9 ?l_9 ?cc_9 ?kp_9 ?a_10 ?l_10 ?jq4V ?jq4W ?a_11 ?l_11 ?jq4X ?jq4Y ?a_12 ?l_12 ?jq4Z ?jq50 ?a_13 ?l_13 ?jq51 ?jq52 ?a_14 ?l_14 ?jq53 ?jq54 ?a_15 ?l_15 ?jq55 ?jq56 ?a_16 ?l_16 ?jq57 ?jq58 ?a_17 ?l_17 ?jq59 ?jq5a ?a_18 ?l_18 ?jq5b ?jq5c ?a_19 ?l_19 ?jq5d ?jq5e ?a_20 ?l_20 ?jq5f ?jq5g ?a_21 ?l_21 ?jq5h ?jq5i ?a_22 ?l_22 ?jq5j ?jq5k ?a_23 ?l_23 ?jq5l ?jq5m ?a_24 ?l_24 ?jq5n ?jq5o ?a_25 ?l_25 ?jq5p ?jq5q ?a_26 ?l_26 ?jq5r ?jq5s ?a_27 ?l_27 ?jq5t ?jq5u ?a_28 ?l_28 ?jq5v ?jq5w ?a_29 ?l_29 ?jq5x ?jq5y ?a_30 ?l_30 ?jq5z ?jq5A ?a_31 ?l_31 ?jq5B ?jq5C ?a_32 ?l_32 ?jq5D ?jq5E ?a_33 ?l_33 ?jq5F ?jq5G ?a_34 ?l_34 ?jq5H ?jq5I ?a_35 ?l_35 ?jq5J ?jq5K ?a_36 ?l_36 ?jq5L ?jq5M ?a_37 ?l_37 ?jq5N ?jq5O ?a_38 ?l_38 ?jq5P ?jq5Q ?a_39 ?l_39 ?jq5R ?jq5S ?a_40 ?l_40 ?jq5T ?jq5U ?a_41 ?l_41 ?jq5V ?jq5W ?z1 ?z2 ?z3 ?z4 ?z5 ?z6 ?z7 ?z8 ?z9 ?z10 ?jq25 ?ac0 ?ac1 ?ac2 ?ac3 ?ac4 ?ac5 ?ac6 ?ac7 ?acm ?atb ?ltb ?ktb ?rk0 ?rk1 ?rk2 ?rk3 ?rk4 ?rk5 ?rk6 ?rk7 ?pg0 ?hd0 ?po0 ?sa0 ?mk0 ?kc0 ?pg1 ?hd1 ?po1 ?sa1 ?mk1 ?kc1 ?pg2 ?hd2 ?po2 ?sa2 ?mk2 ?kc2 ?pg3 ?hd3 ?po3 ?sa3 ?mk3 ?kc3 ?pg4 ?hd4 ?po4 ?sa4 ?mk4 ?kc4 ?pg5 ?hd5 ?po5 ?sa5 ?mk5 ?kc5 ?pg6 ?hd6 ?po6 ?sa6 ?mk6 ?kc6 ?pg7 ?hd7 ?po7 ?sa7 ?mk7 ?kc7 ?jq3o ?jq5X ?jq3W ?jq3p ?jq3X ?jq3q ?jq5Y ?jq3Y ?jq3r ?jq3Z ?jq3s ?jq5Z ?jq40 ?jq3t ?jq41 ?jq3u ?jq60 ?jq42 ?jq3v ?jq43 ?jq3w ?jq61 ?jq44 ?jq3x ?jq45 ?jq3y ?jq62 ?jq46 ?jq3z ?jq47 ?jq3A ?jq63 ?jq48 ?jq3B ?jq49 ?jq3C ?jq64 ?jq4a ?jq3D ?jq4b ?jq4c ?jq4d ?jq4e ?jq4f ?jq4g ?jq4h ?jq4i ?jq4j ?l_mr ?jq65 ?jq29 ?jq2B ?jq4k ?jq4l ?jq4m ?jq4n ?jq4o ?jq4p ?jq4q ?l_mn ?jq66 ?jq2C ?jq31 ?jq3E ?jq67 ?jq4r ?jq3F ?jq4s ?jq4t ?jq4u ?jq4v ?l_mt ?jq68 ?jq3n ?jq3V ?jq3G ?jq69 ?jq4w ?jq3H ?jq4x ?jq3I ?jq6a ?jq4y ?jq3J ?jq4z ?jq3K ?jq6b ?jq4A ?jq3L ?jq4B ?jq3M ?jq6c ?jq4C ?jq3N ?jq4D ?jq3O ?jq6d ?jq4E ?jq3P ?jq4F ?jq3Q ?jq6e ?jq4G ?jq4H ?jq4I ?jq3R ?jq6f ?jq4J ?jq4K ?jq4L ?jq3S ?jq6g ?jq4M ?jq4N ?jq4O ?jq3T ?jq6h ?jq4P ?jq4Q ?jq4R ?jq3U ?jq6i ?jq4S ?jq4T ?jq4U ?na0 ?na1 ?na2 ?na3 ?na7 ?ni4 ?ni5 ?ni6 ?jq2D ?jq2E ?jq2F ?jq2G ?jq2H ?jq2I ?jq2J ?jq1I ?jq20 ?jq1J ?jq1K ?jq1L ?jq1M ?jq21 ?jq1N ?jq1m ?jq1O ?jq1P ?jq22 ?jq1Q ?jq1n ?jq1R ?jq1S ?jq23 ?jq1T ?jq1o ?jq1U ?jq1V ?jq24 ?jq1W ?jq1p ?jq1X ?jq1A ?jq1Y ?jq1B ?jq1j ?jq1C ?jq1t ?jq1D ?jq1u ?jq19 ?jq1v ?jqS ?jq10 ?jqT ?jqy ?jqU ?jq13 ?jq1b ?jq14 ?jqD ?jq15 ?jq1q ?jq1w ?jq1r ?jq11 ?jq1s ?jq16 ?jq1c ?jq17 ?jqE ?jq18 ?jqs ?jqx ?jqt ?jqn ?jqu ?jqA ?jqF ?jqB ?jqp ?jqC ?jqG ?jqL ?jqH ?jqq ?jqI ?jq1x ?jq1E ?jq1y ?jq1a ?jq1z ?jqV ?jq12 ?jqW ?jqz ?jqX ?jq1d ?jq1k ?jq1e ?jqJ ?jq1f ?jqM ?jqY ?jqN ?jqv ?jqO ?jqP ?jqZ ?jqQ ?jqw ?jqR ?jq1g ?jq1l ?jq1h ?jqK ?jq1i ?jqr ?jq1 ?jq5 ?jq2 ?jq0 ?jq4 ?jqj ?jq3 ?jq6 ?jqk ?jq1Z ?jq3i ?jq32 ?jq2a ?jq2b ?jq2c ?jq2K ?jq2L ?jq2M ?jq33 ?jq2d ?jq3j ?jq2e ?jq2f ?jq2N ?jq2O ?jq2P ?jq2g ?jq34 ?jq2h ?jq35 ?jq7 ?jq8 ?jq3k ?jq3l ?jq3m ?jq9 ?jqa ?jqb ?jq2i ?jq2j ?jq2k ?jq2l ?jq2m ?jq2n ?jq2Q ?jq2R ?jq2S ?jq2T ?jq2U ?jq2V ?jq2W ?jq2X ?jq2Y ?jq2o ?jq2p ?jq2q ?jq36 ?jq37 ?jq38 ?jq2r ?jq2s ?jq2t ?jq39 ?jq3a ?jq3b ?jq1F ?jq1G ?jq1H ?jqo ?jqc ?jqd ?jqg ?jqh ?jqi ?jqe ?jq2Z ?jq2u ?jq2v ?jq3c ?jq3d ?jq3e ?jql ?jq28 ?jq26 ?jq27 ?jq2w ?jq2x ?jq2y ?jqf ?jq30 ?jq2z ?jq2A ?jq3f ?jq3g ?jq3h ?jqm
  (case a_1 | l_1 | cc_1 | kp_1 | a_2 | l_2 | cc_2 | kp_2 | a_3 | l_3 | cc_3 | kp_3 | a_4 | l_4 | cc_4 | kp_4 | a_5 | l_5 | cc_5 | kp_5 | a_6 | l_6 | cc_6 | kp_6 | a_7 | l_7 | cc_7 | kp_7 | a_8 | l_8 | cc_8 | kp_8 | a_9 | l_9 | cc_9 | kp_9 | a_10 | l_10 | jq4V | jq4W | a_11 | l_11 | jq4X | jq4Y | a_12 | l_12 | jq4Z | jq50 | a_13 | l_13 | jq51 | jq52 | a_14 | l_14 | jq53 | jq54 | a_15 | l_15 | jq55 | jq56 | a_16 | l_16 | jq57 | jq58 | a_17 | l_17 | jq59 | jq5a | a_18 | l_18 | jq5b | jq5c | a_19 | l_19 | jq5d | jq5e | a_20 | l_20 | jq5f | jq5g | a_21 | l_21 | jq5h | jq5i | a_22 | l_22 | jq5j | jq5k | a_23 | l_23 | jq5l | jq5m | a_24 | l_24 | jq5n | jq5o | a_25 | l_25 | jq5p | jq5q | a_26 | l_26 | jq5r | jq5s | a_27 | l_27 | jq5t | jq5u | a_28 | l_28 | jq5v | jq5w | a_29 | l_29 | jq5x | jq5y | a_30 | l_30 | jq5z | jq5A | a_31 | l_31 | jq5B | jq5C | a_32 | l_32 | jq5D | jq5E | a_33 | l_33 | jq5F | jq5G | a_34 | l_34 | jq5H | jq5I | a_35 | l_35 | jq5J | jq5K | a_36 | l_36 | jq5L | jq5M | a_37 | l_37 | jq5N | jq5O | a_38 | l_38 | jq5P | jq5Q | a_39 | l_39 | jq5R | jq5S | a_40 | l_40 | jq5T | jq5U | a_41 | l_41 | jq5V | jq5W | z1 | z2 | z3 | z4 | z5 | z6 | z7 | z8 | z9 | z10 | jq25 | ac0 | ac1 | ac2 | ac3 | ac4 | ac5 | ac6 | ac7 | acm | atb | ltb=>k_is)
  (case ktb=>k_keys)
  (case rk0 | rk1 | rk2 | rk3 | rk4 | rk5 | rk6 | rk7 | pg0 | hd0 | po0 | sa0 | mk0 | kc0 | pg1 | hd1 | po1 | sa1 | mk1 | kc1 | pg2 | hd2 | po2 | sa2 | mk2 | kc2 | pg3 | hd3 | po3 | sa3 | mk3 | kc3 | pg4 | hd4 | po4 | sa4 | mk4 | kc4 | pg5 | hd5 | po5 | sa5 | mk5 | kc5 | pg6 | hd6 | po6 | sa6 | mk6 | kc6 | pg7 | hd7 | po7 | sa7 | mk7 | kc7 | jq3o | jq5X | jq3W | jq3p | jq3X | jq3q | jq5Y | jq3Y | jq3r | jq3Z | jq3s | jq5Z | jq40 | jq3t | jq41 | jq3u | jq60 | jq42 | jq3v | jq43 | jq3w | jq61 | jq44 | jq3x | jq45 | jq3y | jq62 | jq46 | jq3z | jq47 | jq3A | jq63 | jq48 | jq3B | jq49 | jq3C | jq64 | jq4a | jq3D | jq4b | jq4c | jq4d | jq4e | jq4f | jq4g | jq4h | jq4i | jq4j | l_mr | jq65 | jq29 | jq2B | jq4k | jq4l | jq4m | jq4n | jq4o | jq4p | jq4q | l_mn | jq66 | jq2C | jq31 | jq3E | jq67 | jq4r | jq3F | jq4s | jq4t | jq4u | jq4v | l_mt | jq68 | jq3n | jq3V | jq3G | jq69 | jq4w | jq3H | jq4x | jq3I | jq6a | jq4y | jq3J | jq4z | jq3K | jq6b | jq4A | jq3L | jq4B | jq3M | jq6c | jq4C | jq3N | jq4D | jq3O | jq6d | jq4E | jq3P | jq4F | jq3Q | jq6e | jq4G | jq4H | jq4I | jq3R | jq6f | jq4J | jq4K | jq4L | jq3S | jq6g | jq4M | jq4N | jq4O | jq3T | jq6h | jq4P | jq4Q | jq4R | jq3U | jq6i | jq4S | jq4T | jq4U | na0 | na1 | na2 | na3 | na7 | ni4 | ni5 | ni6 | jq2D | jq2E | jq2F | jq2G | jq2H | jq2I | jq2J | jq1I | jq20 | jq1J | jq1K | jq1L | jq1M | jq21 | jq1N | jq1m | jq1O | jq1P | jq22 | jq1Q | jq1n | jq1R | jq1S | jq23 | jq1T | jq1o | jq1U | jq1V | jq24 | jq1W | jq1p | jq1X | jq1A | jq1Y | jq1B | jq1j | jq1C | jq1t | jq1D | jq1u | jq19 | jq1v | jqS | jq10 | jqT | jqy | jqU | jq13 | jq1b | jq14 | jqD | jq15 | jq1q | jq1w | jq1r | jq11 | jq1s | jq16 | jq1c | jq17 | jqE | jq18 | jqs | jqx | jqt | jqn | jqu | jqA | jqF | jqB | jqp | jqC | jqG | jqL | jqH | jqq | jqI | jq1x | jq1E | jq1y | jq1a | jq1z | jqV | jq12 | jqW | jqz | jqX | jq1d | jq1k | jq1e | jqJ | jq1f | jqM | jqY | jqN | jqv | jqO | jqP | jqZ | jqQ | jqw | jqR | jq1g | jq1l | jq1h | jqK | jq1i | jqr | jq1 | jq5 | jq2 | jq0 | jq4 | jqj | jq3 | jq6 | jqk | jq1Z | jq3i | jq32 | jq2a | jq2b | jq2c | jq2K | jq2L | jq2M | jq33 | jq2d | jq3j | jq2e | jq2f | jq2N | jq2O | jq2P | jq2g | jq34 | jq2h | jq35 | jq7=>k_is)
  (case jq8=>rfl)
  (case jq3k=>k_is)
  (case jq3l=>with_unfolding_all rfl)
  (case jq3m | jq9=>k_is)
  (case jqa=>with_unfolding_all rfl)
  (case jqb | jq2i=>k_is)
  (case jq2j=>with_unfolding_all rfl)
  (case jq2k | jq2l=>k_is)
  (case jq2m=>with_unfolding_all rfl)
  (case jq2n | jq2Q=>k_is)
  (case jq2R=>with_unfolding_all rfl)
  (case jq2S | jq2T=>k_is)
  (case jq2U=>with_unfolding_all rfl)
  (case jq2V | jq2W=>k_is)
  (case jq2X=>with_unfolding_all rfl)
  (case jq2Y | jq2o=>k_is)
  (case jq2p=>with_unfolding_all rfl)
  (case jq2q | jq36=>k_is)
  (case jq37=>with_unfolding_all rfl)
  (case jq38 | jq2r=>k_is)
  (case jq2s=>with_unfolding_all rfl)
  (case jq2t | jq39=>k_is)
  (case jq3a=>with_unfolding_all rfl)
  (case jq3b | jq1F | jq1G | jq1H=>k_is)
  (case jqo | jqc | jqd | jqg | jqh | jqi | jqe=>kts_exm)
  (case jq2Z | jq2u | jq2v | jq3c | jq3d | jq3e=>k_is)
  (case jql=>kts_exm)
  (case jq28 | jq26 | jq27 | jq2w | jq2x | jq2y=>k_is)
  (case jqf=>kts_exm)
  (case jq30 | jq2z | jq2A | jq3f | jq3g | jq3h=>k_is)
  (case jqm=>kts_exm)
