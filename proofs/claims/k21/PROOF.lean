import PyProof.Rows.All
import Wide.All
import OpenK.AllK
import Wide.FinOn
import Lean
import PyProof.EqAt
import PyProof.EqKinds
import PyProof.TupleCall
import PySem.Challenge.RW_moot_k21_two_chambers
set_option Elab.async false
set_option linter.all false
set_option maxRecDepth 100000
set_option maxHeartbeats 4000000
local macro_rules|`(tactic|trivial)=>`(tactic|decide +kernel)
local macro_rules|`(tactic|omega)=>`(tactic|lia)
open PySem.Str renaming ofString → ar, join → ky, empty → SI
open List renaming length_map → ba, mem_append_right → de, mem_cons_self → eg, map_cons → gr, length_append → ka, size_toArray → kf, map_append → kg, mem_cons_of_mem → km, length_cons → rf, getElem?_eq_getElem → tu, mem_of_getElem? → RV, getD_eq_getElem?_getD → RY, getElem?_map → R0, mem_singleton → R3, length_singleton → R5, eq_nil_or_concat → R6, concat_eq_append → R7, getElem?_cons_zero → Sa, cons_ne_nil → Sd, getElem?_cons_succ → Sf, length_take → Sj, range' → Sk, find?_cons → Sn, map_nil → Sq, mem_append_left → Su, lookup → Sv, getLast?_concat → Sw, length_replicate → SK, length_filter_le → SM, length_range' → SV, take_length → SW, take_succ → SY, map_congr_left → S5, append_nil → S6, length_set → S8, not_mem_nil → Ta, replicate → Tc, dropLast_concat → Te, mem_range'_1 → Tg, append_assoc → Th, length_zip → Tn, length_drop → To, getElem?_append_right → Tu, Perm → Tx, map_map → TC, range → TF, mem_cons → TK, length_nil → TR
open PySem.W renaming Frag → bo, findIn → RU, emptyDict → Si, instObj → Sm, exmOne → Sz, methodCall_KW → SJ, nsIn → Tb, keepIn → Tr, callWith_K0 → TM, callWith_K → TQ, mroIn → TV
open PySem renaming wpAny_bind → cb, sizeLine → fe, FuncData → fi, Program → kr, wpAny_pure → me, wpAny_mono → om, starEach → Lk, wpAny → RW, Spec → R1, wpAny_standAt → SD, compareOp → SH, bootBuiltins → SR, mem_of_lookup → S0, excClassObj → Td, sysModules → Ti
open PySem.Heap renaming get?_push_of_some → da, lt_size → kx, get?_push_size → wt, get?_update_other → Sx, get?_update_self → S9, size_push → Tt
open PySem.F renaming plainAttrs_list → fu, slot_list_append → ko, type_list_append → kq, plainAttrs_str → So, slot_str_join → SN, type_str_join → SO
open Nat renaming le_refl → gn, le_trans → ku, ne_of_lt → wa, lt_of_lt_of_le → RX, le_succ_of_le → R9, zero_le → Sl, le_succ → SG, lt_succ_of_lt → TB, lt_succ_self → TN, lt_irrefl → TU
open Sum renaming inl → ki, inr → sr
open Bool renaming false_ne_true → kj, and_self → Ss, and_eq_true → SE
open Or renaming inl → ma
open Option.some renaming inj → si
open PySem.PyData renaming canLayAll0 → tm, canLay0 → R8, depthAll → Se, strOk → Sg, depth → Sr, str → SU, eqv → Tv
open PySem.Value renaming ref → RZ, none → Tp, bool → Tq
open Ne renaming symm → R4
open False renaming elim → Sb
open Int renaming emod_lt_of_pos → Sy, emod_nonneg → SS, toNat_natCast → Tz
open PySem.NameKind renaming free → SQ
open PySem.Obj renaming mapFields → SX
open PySem.Builtin.Str renaming occurrences → Tf
open PySem.PassesOwn renaming never → Tj
open True renaming intro → Ts
open PySem.Builtin.Slice renaming slicePlaces → Tw
open PySem.Builtin.Tuple renaming tupleExact → TH
open Array renaming length_toList → TL
namespace L2
open PySem PySem.Spec PyProof.Rows
abbrev Key:=Sum Int Str
def vA:Key->Value->Bool
 | .inl k,v=>Value.isInt k v
 | .inr x,v=>Value.isStrOf x v
def Qu (w:World):Key->Int
 | .inl k=>hashInt k
 | .inr x=>hashStr w x
theorem cw:∀ {k:Key} {v:Value},vA k v=true->(∃i t,k=ki i/\v=Value.int i t)\/(∃x t,k=sr x/\v=Value.str x t)
 | .inl i,v,h=>by
  obtain⟨t,e⟩:=Value.isInt_shape (k:=i) (v:=v) h;exact .inl ⟨i,t,rfl,e⟩
 | .inr x,v,h=>by
  obtain⟨t,e⟩:=Value.isStrOf_shape (x:=x) (v:=v) h;exact .inr ⟨x,t,rfl,e⟩
theorem FZ (i:Int)(t:Tok):vA (.inl i) (.int i t)=true:=by simp[vA,Value.isInt]
theorem F0 (x:Str)(t:Tok):vA (.inr x) (.str x t)=true:=by simp[vA,Value.isStrOf]
theorem Mo (a b:Int):decide ((ki a:Key)=ki b)=(a == b):=by
 by_cases e:a=b
 ·subst e;simp
 ·have h:¬(ki a:Key)=ki b:=λq=>e (Sum.inl.inj q)
  rw[decide_eq_false h];exact(beq_eq_false_iff_ne.mpr e).symm
theorem Mp (a b:Str):decide ((sr a:Key)=sr b)=decide (a=b):=by
 by_cases e:a=b
 ·subst e;simp
 ·have h:¬(sr a:Key)=sr b:=λq=>e (Sum.inr.inj q)
  rw[decide_eq_false h,decide_eq_false e]
theorem Mq (a:Int)(b:Str):decide ((ki a:Key)=sr b)=false:=decide_eq_false (λq=>nomatch q)
theorem Mr (a:Str)(b:Int):decide ((sr a:Key)=ki b)=false:=decide_eq_false (λq=>nomatch q)
def b8 (prog:kr)(w:World):PySem.KeyKind prog w Key where
 is:=vA
 hash:=Qu w
 inj:=λv a b ha hb=>by
  rcases cw ha with ⟨i,t,rfl,rfl⟩ | ⟨x,t,rfl,rfl⟩
  ·rcases cw hb with ⟨j,u,rfl,e⟩ | ⟨y,u,rfl,e⟩
   ·injection e with e1 _;rw[e1]
   ·exact nomatch e
  ·rcases cw hb with ⟨j,u,rfl,e⟩ | ⟨y,u,rfl,e⟩
   ·exact nomatch e
   ·injection e with e1 _;rw[e1]
 byValue:=λk v h=>by
  rcases cw h with ⟨i,t,rfl,rfl⟩ | ⟨x,t,rfl,rfl⟩ <;> rfl
 pyHash:=λhv h=>by
  rcases cw hv with ⟨i,t,rfl,rfl⟩ | ⟨x,t,rfl,rfl⟩
  ·exact wpAny_pyHash_int h
  ·exact wpAny_pyHash_str h
 eqBool:=λhu hv h=>by
  rcases cw hu with ⟨i,t,rfl,rfl⟩ | ⟨x,t,rfl,rfl⟩
  ·rcases cw hv with ⟨j,u,rfl,rfl⟩ | ⟨y,u,rfl,rfl⟩
   ·rw[Mo]at h;exact wpAny_eqBool_int h
   ·rw[Mq]at h;exact SeqAt.EqAt.int_str i t y u _ _ _ _ h
  ·rcases cw hv with ⟨j,u,rfl,rfl⟩ | ⟨y,u,rfl,rfl⟩
   ·rw[Mr]at h;exact SeqAt.EqAt.str_int x t j u _ _ _ _ h
   ·rw[Mp]at h;exact wpAny_eqBool_str h
 «strs»:=λk x t v h=>by
  rcases cw h with ⟨i,u,rfl,e⟩ | ⟨y,u,rfl,e⟩
  ·exact nomatch e
  ·injection e with e1 _
   subst e1;cases v <;> rfl
theorem Bt (prog:kr)(w:World)(i:Int)(t:Tok):(b8 prog w).is (.inl i) (.int i t)=true:=FZ i t
theorem Bu (prog:kr)(w:World)(x:Str)(t:Tok):(b8 prog w).is (.inr x) (.str x t)=true:=F0 x t
inductive V where
 |non | bl (b:Bool) | int (i:Int) | str (x:Str) | byt (b:Array UInt8) | flt (b:UInt64) | ref (a:Addr) | ty (n:String)
 deriving DecidableEq
def RelV:V->Value->Prop
 | .non,u=>u=Tp
 | .bl b,u=>u=Tq b
 | .int i,u=>∃t,u=Value.int i t
 | .str x,u=>∃t,u=Value.str x t
 | .byt b,u=>∃t,u=Value.bytes b t
 | .flt b,u=>∃t,u=Value.float b t
 | .ref a,u=>u=RZ a
 | .ty n,u=>u=Value.type n
abbrev Vals:List V->List Value->Prop:=Paired RelV
theorem Vals.length {xs:List V}{us:List Value}(r:Vals xs us):xs.length=us.length:=Paired.length r
theorem Vals.get:∀ {xs:List V} {us:List Value} {i:Nat} {x:V},Vals xs us->xs[i]?=some x->∃u,us[i]?=some u/\RelV x u
 |_,_,_,_,.nil,e=>by simp at e
 |_,_,0,_,.cons r _,e=>by simp at e;subst e;exact⟨_,rfl,r⟩
 |_,_,i+1,x,.cons _ t,e=>by
  obtain⟨u,h1,h2⟩:=Vals.get (i:=i) (x:=x) t (by simpa using e)
  exact⟨u,by simpa using h1,h2⟩
theorem Vals.set {x:V}{u:Value}(r:RelV x u):∀ {xs:List V} {us:List Value} (i:Nat),Vals xs us->Vals (xs.set i x) (us.set i u)
 |_,_,_,.nil=>.nil
 |_,_,0,.cons _ t=>.cons r t
 |_,_,i+1,.cons q t=>.cons q (Vals.set r i t)
theorem Vals.append:∀ {xs ys:List V} {us ws:List Value},Vals xs us->Vals ys ws->Vals (xs++ys) (us++ws)
 |_,_,_,_,.nil,s=>s
 |_,_,_,_,.cons r t,s=>.cons r (Vals.append t s)
theorem Vals.take:∀ {xs:List V} {us:List Value} (n:Nat),Vals xs us->Vals (xs.take n) (us.take n)
 |_,_,0,_=>.nil
 |_,_,_+1,.nil=>.nil
 |_,_,n+1,.cons r t=>.cons r (Vals.take n t)
theorem Vals.drop:∀ {xs:List V} {us:List Value} (n:Nat),Vals xs us->Vals (xs.drop n) (us.drop n)
 |_,_,0,r=>r
 |_,_,_+1,.nil=>.nil
 |_,_,n+1,.cons _ t=>Vals.drop n t
theorem Vals.none_of:∀ {xs:List V} {us:List Value} {i:Nat},Vals xs us->xs[i]?=none->us[i]?=none:=λ{xs us i} r e=>by
 have h1:=r.length;have h2:xs.length<=i:=List.getElem?_eq_none_iff.mp e;exact List.getElem?_eq_none_iff.mpr (by omega)
def l5:Option V->Option Value->Prop
 |some v,some u=>RelV v u
 |none,none=>True
 |_,_=>False
def KV {κ:Type}:List (κ×V)->List (κ×Value)->Prop:=Paired λ(p:κ×V) (q:κ×Value)=>p.1=q.1/\RelV p.2 q.2
def kV:Key->V
 | .inl i=>.int i
 | .inr x=>.str x
inductive HO where
 |lst (xs:List V)
 |tup (xs:List V)
 |dK (kvs:List (Key×V)) | dT (kvs:List (List Key×V))
 |set (S:Int->Bool) (n:Nat)
 |ins (C dx:Addr) (fs:List (Str×V))
 |own (x:Addr)
 |xd (fs:List (Str×V))
 |met (f x:Addr)
 |rng (lo hi:Int)
 |frz (o:Obj) (u:HO)
 |tbl (ps:Array Value)
 |ext (φ:Heap->Prop)
abbrev Hp:=Addr->Option HO
def upd (H:Hp)(a:Addr)(o:HO):Hp:=λb=>if b=a then some o else H b
theorem ae {H:Hp}{a:Addr}{o:HO}:upd H a o a=some o:=by unfold upd;rw[if_pos rfl]
theorem ao {H:Hp}{a b:Addr}{o:HO}(h:b≠a):upd H a o b=H b:=by unfold upd;rw[if_neg h]
theorem iK {H:Hp}{a:Addr}{o u:HO}:upd (upd H a o) a u=upd H a u:=by
 funext b;unfold upd;split <;> rfl
theorem Ot {H:Hp}{a b:Addr}{o u:HO}(h:H a=some o)(h':H b=some u)(d:o≠u):a≠b:=by
 intro e;subst e;rw[h]at h';exact d (si h')
theorem az {H:Hp}{a b:Addr}{o:HO}(h:H a=some o)(h':H b=none):a≠b:=by
 intro e;subst e;rw[h]at h';cases h'
section
variable(P:kr)(w:World)
def dO (H:Hp)(h:Heap)(a:Addr):HO->Prop
 | .lst xs=>xs.length<=fe/\∃(its:List Value) (n:Nat),Vals xs its/\h.get? a=some { cls:=.type "list",data:=.seq its.toArray n }
 | .tup xs=>xs.length<=fe/\∃its:List Value,Vals xs its/\IsTup h a its.toArray
 | .dK kvs=>kvs.length<=fe/\(a == Ti)=false/\∃vs,KV kvs vs/\h.DictOf (b8 P w) a vs
 | .dT kvs=>kvs.length<=fe/\(a == Ti)=false/\∃xs:List (List Key×Addr×Value),
   Paired (λ(p:List Key×V) (q:List Key×Addr×Value)=>p.1=q.1/\H q.2.1=some (.tup (p.1.map kV))/\RelV p.2 q.2.2) kvs xs /\
   ∃o es ep,h.get? a=some o/\o.ExactDict/\o.data=.dict es ep/\es.toList=xs.map (entryOfKey (tupleKind (b8 P w)))/\(xs.map (·.1)).Nodup
 | .set S n=>h.SetOf (intKind P w) a S n
 | .ins C dx fs=>H dx=some (.own a)/\fs.length<=1000/\dx≠a/\h.get? a=some (Sm C dx) /\
   ∃mA,h.Ns1 dx mA/\(∀f,l5 (fs.lookup f) (mA f))/\PySem.Within mA (fs.map (·.1))
 | .own _=>∃o,h.get? a=some o
 | .xd fs=>∃mA,h.Ns1 a mA/\∀f,l5 (fs.lookup f) (mA f)
 | .rng lo hi=>∃t u v,h.get? a=some { cls:=.type "range",data:=.fields #[.int lo t,.int hi u,.int 1 v] }
 | .frz o u=>h.get? a=some o/\dO H h a u
 | .tbl ps=>h.get? a=some { cls:=.none,data:=.fields ps }
 | .met f x=>h.get? a=some (PySem.W.methodObj (.ref f) (.ref x))
 | .ext φ=>φ h/\(∃o,h.get? a=some o)/\∀h1 h2:Heap,φ h1->(∀o,h1.get? a=some o->h2.get? a=some o)->φ h2
def HOk (H:Hp)(h:Heap):Prop:=∀a o,H a=some o->dO P w H h a o
end
section
variable{P:kr}{w:World}{H H':Hp}{h h':Heap}{a:Addr}{o:HO}
theorem dO.lt (x:dO P w H h a o):a < h.objs.size:=by
 cases o with
 |lst xs=>obtain⟨_,_,_,_,e⟩:=x;exact kx e
 |tup xs=>obtain⟨_,_,_,p⟩:=x;exact p.lt
 |dK kvs=>obtain⟨_,_,_,_,o,_,_,e,_⟩:=x;exact kx e
 |dT kvs=>obtain⟨_,_,_,_,o,_,_,e,_⟩:=x;exact kx e
 |set S n=>obtain⟨o,_,_,_,e,_⟩:=x;exact kx e
 |ins C dx fs=>obtain⟨_,_,_,e,_⟩:=x;exact kx e
 |own y=>obtain⟨_,e⟩:=x;exact kx e
 |xd fs=>obtain⟨_,⟨_,_,_,e,_⟩,_⟩:=x;exact kx e
 |rng lo hi=>obtain⟨_,_,_,e⟩:=x;exact kx e
 |frz ob u=>obtain⟨e,_⟩:=x;exact kx e
 |tbl ps=>exact kx (show h.get? a=some _ from x)
 |met f y=>exact kx (show h.get? a=some _ from x)
 |ext φ=>obtain⟨_,⟨_,e⟩,_⟩:=x;exact kx e
theorem Paired.Ms {α β:Type}{F G:α->β->Prop}:∀ {l₁:List α} {l₂:List β},Paired F l₁ l₂->(∀a b,F a b->G a b)->Paired G l₁ l₂
 |_,_,.nil,_=>.nil
 |_,_,.cons r t,f=>.cons (f _ _ r) (Paired.Ms t f)
theorem dO.Bv (x:dO P w H h a o)(k:∀b u,(b=a\/H b=some (.own a))->h.get? b=some u->h'.get? b=some u)
  (ho:∀b,H b=some (.own a)->H' b=some (.own a)) (ht:∀b xs,H b=some (.tup xs)->H' b=some (.tup xs)):dO P w H' h' a o:=by
 induction o with
 |lst xs=>obtain⟨z,its,n,r,e⟩:=x;exact⟨z,its,n,r,k _ _ (.inl rfl) e⟩
 |tup xs=>obtain⟨z,its,r,ob,e,c⟩:=x;exact⟨z,its,r,ob,k _ _ (.inl rfl) e,c⟩
 |dK kvs=>obtain⟨z,y,vs,r,ob,es,ep,e,c⟩:=x;exact⟨z,y,vs,r,ob,es,ep,k _ _ (.inl rfl) e,c⟩
 |dT kvs =>
  obtain⟨z,y,xs,r,ob,es,ep,e,c⟩:=x;exact⟨z,y,xs,Paired.Ms r λp q z=>⟨z.1,ht _ _ z.2.1,z.2.2⟩,ob,es,ep,k _ _ (.inl rfl) e,c⟩
 |set S n=>obtain⟨ob,es,ep,t,e,c⟩:=x;exact⟨ob,es,ep,t,k _ _ (.inl rfl) e,c⟩
 |ins C dx fs =>
  obtain⟨d,z,ne,e,mA,⟨od,es,ep,e2,c⟩,r⟩:=x;exact⟨ho _ d,z,ne,k _ _ (.inl rfl) e,mA,⟨od,es,ep,k _ _ (.inr d) e2,c⟩,r⟩
 |own y=>obtain⟨ob,e⟩:=x;exact⟨ob,k _ _ (.inl rfl) e⟩
 |xd fs=>obtain⟨mA,⟨od,es,ep,e,c⟩,r⟩:=x;exact⟨mA,⟨od,es,ep,k _ _ (.inl rfl) e,c⟩,r⟩
 |rng lo hi=>obtain⟨t,u,v,e⟩:=x;exact⟨t,u,v,k _ _ (.inl rfl) e⟩
 |frz ob u ih=>obtain⟨e,q⟩:=x;exact⟨k _ _ (.inl rfl) e,ih q⟩
 |tbl ps =>
  have e:h.get? a=some { cls:=.none,data:=.fields ps }:=x;show h'.get? a=some { cls:=.none,data:=.fields ps };exact k a _ (.inl rfl) e
 |met f y =>
  have e:h.get? a=some (PySem.W.methodObj (.ref f) (.ref y)):=x;show h'.get? a=some (PySem.W.methodObj (.ref f) (.ref y));exact k a _ (.inl rfl) e
 |ext φ=>obtain⟨p,⟨o,e⟩,st⟩:=x;exact⟨st _ _ p λo q=>k _ _ (.inl rfl) q,⟨o,k _ _ (.inl rfl) e⟩,st⟩
theorem HOk.lt (x:HOk P w H h)(e:H a=some o):a < h.objs.size:=(x a o e).lt
theorem HOk.fresh (x:HOk P w H h)(e:h.objs.size<=a):H a=none:=by
 cases q:H a with
 |none=>rfl
 |some u=>exact absurd (RX (x.lt q) e) (TU _)
theorem HOk.kept (x:HOk P w H h)(k:∀b u,h.get? b=some u->h'.get? b=some u):HOk P w H h':=λa o e =>
 (x a o e).Bv (λb u _ q=>k b u q) (λ_ q=>q) λ_ _ q=>q
theorem HOk.laid (x:HOk P w H h)(k:∀b u,h.get? b=some u->h'.get? b=some u)(hp:h.objs.size<=a)(new:dO P w (upd H a o) h' a o):HOk P w (upd H a o) h':=λb u e=>by
 have hn:=x.fresh hp
 by_cases hb:b=a
 ·subst hb;rw[ae]at e;cases e;exact new
 ·rw[ao hb]at e;exact(x b u e).Bv (λc v _ q=>k c v q) (λc q=>by rw[ao (az q hn)];exact q) λc xs q=>by rw[ao (az q hn)];exact q
end
def Rd (H:Hp)(a:Addr)(u:HO):Prop:=H a=some u\/∃o,H a=some (.frz o u)
theorem Rd.of {H:Hp}{a:Addr}{u:HO}(h:H a=some u):Rd H a u:=.inl h
theorem Rd.ok {P:kr}{w:World}{H:Hp}{h:Heap}{a:Addr}{u:HO}(r:Rd H a u)(x:HOk P w H h):dO P w H h a u:=by
 rcases r with r | ⟨o,r⟩
 ·exact x a u r
 ·obtain⟨_,q⟩:=x a _ r;exact q
def Mut:Option HO->Prop
 |some (.lst _)=>True
 |some (.dK _)=>True
 |some (.dT _)=>True
 |some (.set _ _)=>True
 |some (.ins _ _ _)=>True
 |some (.ext _)=>True
 |_=>False
section
variable{P:kr}{w:World}{H:Hp}{h h':Heap}{x e:Addr}{o':HO}
theorem HOk.write (ok:HOk P w H h)(mu:Mut (H x))(he:e=x\/H e=some (.own x))(k:∀b u,b≠e->h.get? b=some u->h'.get? b=some u)(heo:∃u,h'.get? e=some u)
  (new:dO P w (upd H x o') h' x o'):HOk P w (upd H x o') h':=λb u q=>by
 have Ou:∀c y,H c=some (.own y)->c≠x:=λc y r z=>by subst z;rw[r]at mu;exact mu
 have Qv:∀c xs,H c=some (.tup xs)->c≠x:=λc xs r z=>by subst z;rw[r]at mu;exact mu
 by_cases hb:b=x
 ·subst hb;rw[ae]at q;cases q;exact new
 ·rw[ao hb]at q
  by_cases hbe:b=e
  ·have q':H b=some (.own x):=by
    rcases he with z | z
    ·exact absurd (hbe.trans z) hb
    ·rw[hbe];exact z
   rw[q]at q';cases q';obtain⟨v,hv⟩:=heo;exact⟨v,by rw[hbe];exact hv⟩
  ·refine(ok b u q).Bv (λc v hc r=>k c v ?_ r) (λc r=>by rw[ao (Ou c b r)];exact r) λc xs r=>by rw[ao (Qv c xs r)];exact r
   rcases hc with rfl | hc
   ·exact hbe
   ·rintro rfl;rcases he with z | z
    ·exact Ou c b hc z
    ·rw[hc]at z;cases z;exact hb rfl
end
structure Un (fs ex:List Addr)(H H':Hp)(h h':Heap):Prop where
 keep:∀b o,h.get? b=some o->H b=none->b∉fs->b∉ex->h'.get? b=some o
 slot:∀b o,h.get? b=some o->H b=none->b∈fs->b∉ex->∃sl,h'.get? b=some { o with slots:=sl }
 free:∀b o,h.get? b=some o->H b=none->b∉ex->H' b=none
 there:∀b o,h.get? b=some o->b∉ex->∃o',h'.get? b=some o'
 sG:∀b xs,H b=some (.tup xs)->H' b=some (.tup xs)
 qY:∀b o u,H b=some (.frz o u)->H' b=some (.frz o u)
 sH:∀b ps,H b=some (.tbl ps)->∃more,H' b=some (.tbl (ps++more))
section
variable{fs fs' ex ex':List Addr}{H H1 H2:Hp}{h h1 h2 h':Heap}{a x e:Addr}{o:HO}
theorem Un.any (u:Un fs ex H H1 h h1){b:Addr}{ob:Obj}(q:h.get? b=some ob)(n:H b=none)(hx:b∉ex):∃sl,h1.get? b=some { ob with slots:=sl }:=by
 by_cases hb:b∈fs
 ·exact u.slot b ob q n hb hx
 ·exact⟨ob.slots,u.keep b ob q n hb hx⟩
theorem Un.trans (a:Un fs ex H H1 h h1)(b:Un fs ex H1 H2 h1 h2):Un fs ex H H2 h h2 where
 keep:=λc ob q n hc hx=>b.keep c ob (a.keep c ob q n hc hx) (a.free c ob q n hx) hc hx
 slot:=λc ob q n hc hx=>by
  obtain⟨sl,e1⟩:=a.slot c ob q n hc hx;obtain⟨sl',e2⟩:=b.slot c _ e1 (a.free c ob q n hx) hc hx;exact⟨sl',e2⟩
 free:=λc ob q n hx=>by
  obtain⟨o',e1⟩:=a.there c ob q hx;exact b.free c o' e1 (a.free c ob q n hx) hx
 there:=λc ob q hx=>by
  obtain⟨o',e1⟩:=a.there c ob q hx;exact b.there c o' e1 hx
 sG:=λc xs q=>b.sG c xs (a.sG c xs q)
 qY:=λc ob xs q=>b.qY c ob xs (a.qY c ob xs q)
 sH:=λc ps q=>by
  obtain⟨m1,e1⟩:=a.sH c ps q;obtain⟨m2,e2⟩:=b.sH c _ e1;exact⟨m1++m2,by rw[e2,Array.append_assoc]⟩
theorem Un.kept (k:∀b u,h.get? b=some u->h'.get? b=some u):Un fs ex H H h h' :=
 ⟨λb ob q _ _ _=>k b ob q,λb ob q _ _ _=>⟨ob.slots,k b ob q⟩,λ_ _ _ n _=>n,λb ob q _=>⟨ob,k b ob q⟩,λ_ _ q=>q,λ_ _ _ q=>q,λ_ ps q=>⟨#[],by rw[q];simp⟩⟩
theorem Un.refl:Un fs ex H H h h:=Un.kept λ_ _ q=>q
theorem Un.laid (k:∀b u,h.get? b=some u->h'.get? b=some u)(hp:h.objs.size<=a)(hn:H a=none):Un fs ex H (upd H a o) h h' where
 keep:=λb u q _ _ _=>k b u q
 slot:=λb u q _ _ _=>⟨u.slots,k b u q⟩
 free:=λb u q n _=>by rw[ao (wa (RX (kx q) hp))];exact n
 there:=λb u q _=>⟨u,k b u q⟩
 sG:=λb xs q=>by rw[ao (az q hn)];exact q
 qY:=λb u xs q=>by rw[ao (az q hn)];exact q
 sH:=λb ps q=>⟨#[],by rw[ao (az q hn),q];simp⟩
theorem Un.write (mu:Mut (H x))(he:e=x\/H e=some (.own x))(k:∀b u,b≠e->h.get? b=some u->h'.get? b=some u)(heo:∃u,h'.get? e=some u):Un fs ex H (upd H x o) h h':=by
 have hx:∀b,H b=none->b≠x:=λb n z=>by subst z;rw[n]at mu;exact mu
 have hb:∀b,H b=none->b≠e:=λb n z=>by
  subst z;rcases he with r | r
  ·exact hx b n r
  ·rw[n]at r;cases r
 have hm:∀b u,H b=some u->¬Mut (some u)->b≠x:=λb u q nm z=>by subst z;rw[q]at mu;exact nm mu
 refine⟨λb u q n _ _=>k b u (hb b n) q,λb u q n _ _=>⟨u.slots,k b u (hb b n) q⟩,λb u q n _=>by rw[ao (hx b n)];exact n,λb u q _=>?_,
  λb xs q=>by rw[ao (hm b _ q λz=>z)];exact q,λb u xs q=>by rw[ao (hm b _ q λz=>z)];exact q,λb ps q=>⟨#[],by rw[ao (hm b _ q λz=>z),q];simp⟩⟩
 by_cases hbe:b=e
 ·subst hbe;exact heo
 ·exact⟨u,k b u hbe q⟩
theorem Un.mono (u:Un fs ex H H1 h h1)(hs:∀b∈fs,b∈fs')(hx:∀b∈ex,b∈ex'):Un fs' ex' H H1 h h1 :=
 ⟨λb ob q n hb he=>u.keep b ob q n (λz=>hb (hs b z)) λz=>he (hx b z),λ_ _ q n _ he=>u.any q n λz=>he (hx _ z),λb ob q n he=>u.free b ob q n λz=>he (hx b z),λb ob q he=>u.there b ob q λz=>he (hx b z),u.sG,u.qY,u.sH⟩
end
def trk (h:Heap)(H:Hp):List Addr:=(TF h.objs.size).filter λa=>(H a).isSome
def Ac (h:Heap)(H:Hp):Heap:=PySem.W.hideAll h (trk h H)
theorem F2 (h:Heap)(H:Hp):(Ac h H).objs.size=h.objs.size:=PySem.W.hideAll_size _ _
theorem G8 {h:Heap}{H:Hp}{b:Addr}{o:Obj}(e:h.get? b=some o)(n:H b=none):(Ac h H).get? b=some o :=
 PySem.W.hideAll_get _ e λhm=>by
  have q:(H b).isSome=true:=(List.mem_filter.mp hm).2;rw[n]at q;simp at q
theorem J9 {h:Heap}{H:Hp}{b:Addr}{o:Obj}(e:(Ac h H).get? b=some o):h.get? b=some o/\H b=none:=by
 have e':h.get? b=some o:=PySem.W.of_hideAll (trk h H) e;refine⟨e',?_⟩;cases q:H b with
 |none=>rfl
 |some x =>
  have hm:b∈trk h H:=List.mem_filter.mpr ⟨List.mem_range.mpr (kx e'),by simp[q]⟩
  have z:(Ac h H).get? b=none:=PySem.W.hideAll_none (trk h H) hm;rw[z]at e;cases e
def Ka (g h:Heap)(L:Addr):List (Addr×Obj):=(TF h.objs.size).filterMap λa=>if a=L\/(g.get? a).isSome=true then none else (h.get? a).map λo=>(a,o)
def rest (g h:Heap)(L d:Addr):List (Addr×Obj):=(Ka g h L).filter λp=>decide (p.1≠d)
structure Mod (K:bo)(mg:Str->Option Value)(base:Heap):Prop where
 kin:K.In base
 glob:base.Ns mainGlobals mg
 blt:∃mb,base.Ns builtinsNs mb/\∀x:Str,x≠"__name__"->mb x=SR x
 nolimit:base.NoLimit
structure Cx where
 prog:kr
 w:World
 K:bo
 mg:Str->Option Value
 base:Heap
 A:Around
 N:List Str
 s₀:Shared
 H₀:Hp
 env:Env
 outer:List Env
 stack:List Env
 ex:List Addr
 fn:Str->Bool
 calm:Bool
 xc:Bool:=true
 pn:List (Addr×Obj)
 xe:Value->Shared->Prop
def frs (l:List Env):List Addr:=l.filterMap (·.frame)
abbrev Cx.fs (X:Cx):List Addr:=frs X.outer
def Vis (sc:Scope)(x:Str):Prop:=sc.names.lookup x=some .local\/sc.names.lookup x=some .cell\/sc.names.lookup x=some .free
def Loc (sc:Scope)(x:Str):Prop:=sc.names.lookup x=some .local\/sc.names.lookup x=some .cell
def Look (env:Env)(h:Heap)(m:Str->Option Value)(x:Str)(u:Value):Prop :=
 (env.kindOf x=some .local/\m x=some u)\/((env.kindOf x=some .cell\/env.kindOf x=some .free)/\∃c,env.cells.lookup x=some c/\h.IsCell c (some u))
structure Cx.Ok (X:Cx):Prop where
 mod:Mod X.K X.mg X.base
 kind:X.env.scope.kind=.function
 glob:X.env.globals=mainGlobals
 blt:X.env.builtins=builtinsNs
 above:X.s₀.heap.objs.size<=X.env.locals
 inj:∀x y c,X.env.cells.lookup x=some c->X.env.cells.lookup y=some c->x=y
 has:∀x,(X.env.kindOf x=some .cell\/X.env.kindOf x=some .free)->∃c,X.env.cells.lookup x=some c
 cab:∀x c,X.fn x=true->X.env.cells.lookup x=some c->X.s₀.heap.objs.size<=c
 hd:X.calm=true->X.A.handled=none
 frames:X.A.frames=some X.stack
 stk:X.stack=X.outer\/(X.stack=X.env::X.outer/\X.env.frame=some X.env.locals)
 exf:∀b∈X.ex,b≠X.env.locals/\∀x c,X.env.cells.lookup x=some c->c≠b
 bs:∀b o,X.base.get? b=some o->X.s₀.heap.get? b=some o/\X.H₀ b=none
 bsz:X.base.objs.size<=X.s₀.heap.objs.size
 Ad:∀b o,X.base.get? b=some o->b∉X.ex
 yu:∀b∈X.ex,b∉X.fs
 pD:X.s₀.heap.FunFrames X.base X.outer
 frf:∀b∈X.fs,X.H₀ b=none
structure Inv (X:Cx)(pins:List (Addr×Obj))(σ:List (Option V))(H:Hp)(s:Shared):Prop where
 ok:X.Ok
 os:s.os=X.s₀.os
 bare:AllBare s.gens
 base:Un X.fs X.ex X.H₀ H X.s₀.heap s.heap
 loc:∃m,s.heap.Ns X.env.locals m/\∀(i:Nat) (x:Str) (v:V),X.N[i]?=some x->σ[i]?=some (some v)->Vis X.env.scope x->∃u,RelV v u/\Look X.env s.heap m x u
 cell:∀x c,X.env.cells.lookup x=some c->∃v,s.heap.IsCell c v
 free:H X.env.locals=none
 kJ:∀x c,X.env.cells.lookup x=some c->H c=none
 pin:∀p∈X.pn++pins,s.heap.get? p.1=some p.2/\H p.1=none/\p.1≠X.env.locals/\p.1∉X.fs/\∀v,p.2.data≠.cell v
 hok:HOk X.prog X.w H s.heap
 len:σ.length=X.N.length
section
variable{X:Cx}{pins:List (Addr×Obj)}{σ:List (Option V)}{H H':Hp}{s:Shared}{h':Heap}
theorem Cx.Ok.Qw (ok:X.Ok){b:Addr}{o:Obj}(e:X.base.get? b=some o):b∉X.fs:=λhb=>by
 have:=(ok.pD.mem hb).1;rw[e]at this;cases this
theorem Inv.bs (I:Inv X pins σ H s):∀b o,X.base.get? b=some o->s.heap.get? b=some o/\H b=none:=λb o e =>
 ⟨I.base.keep b o (I.ok.bs b o e).1 (I.ok.bs b o e).2 (I.ok.Qw e) (I.ok.Ad b o e),I.base.free b o (I.ok.bs b o e).1 (I.ok.bs b o e).2 (I.ok.Ad b o e)⟩
theorem Inv.bk (I:Inv X pins σ H s):∀b o,X.base.get? b=some o->s.heap.get? b=some o:=λb o e=>(I.bs b o e).1
theorem Inv.mod (I:Inv X pins σ H s):Mod X.K X.mg X.base:=I.ok.mod
theorem Inv.kIn (I:Inv X pins σ H s):X.K.In s.heap:=I.ok.mod.kin.keeps I.bk
theorem Inv.nolimit (I:Inv X pins σ H s):s.heap.NoLimit:=I.ok.mod.nolimit.keeps I.bk
theorem Inv.fr (I:Inv X pins σ H s):∃m,Fr X.base X.env.locals s.heap m :=
 let ⟨m,hn,_⟩:=I.loc
 ⟨m,hn,I.bk,ku I.ok.bsz I.ok.above⟩
theorem Inv.lt (I:Inv X pins σ H s):X.env.locals < s.heap.objs.size:=let ⟨_,hn,_⟩:=I.loc;hn.lt
theorem Inv.sz (I:Inv X pins σ H s):X.s₀.heap.objs.size<=s.heap.objs.size:=ku I.ok.above (Nat.le_of_lt I.lt)
theorem Inv.Qx (I:Inv X pins σ H s){a:Addr}(h:s.heap.objs.size<=a):a∉X.fs:=λhb=>by
 obtain⟨_,o,ho,_⟩:=I.ok.pD.mem hb;exact absurd (RX (kx ho) (ku I.sz h)) (TU _)
theorem Inv.cne (I:Inv X pins σ H s):∀x c,X.env.cells.lookup x=some c->c≠X.env.locals:=λx c e z=>by
 obtain⟨v,o,ho,hd⟩:=I.cell x c e;obtain⟨m,⟨o',es,ep,ho',hd',_⟩,_⟩:=I.loc;rw[z,ho']at ho;cases ho;rw[hd']at hd;cases hd
theorem Inv.pD (I:Inv X pins σ H s):s.heap.FunFrames X.base X.outer:=by
 have all:∀(l:List Env),(∀b∈frs l,b∈X.fs)->X.s₀.heap.FunFrames X.base l->s.heap.FunFrames X.base l:=by
  intro l
  induction l with
  |nil=>intro _ _;trivial
  |cons env r ih =>
   intro hs hl;obtain⟨hk,⟨L,o,hf,hn,ho,hd⟩,hr⟩:=hl;have hL:L∈X.fs:=hs L (by unfold frs;rw[List.filterMap_cons,hf];exact eg)
   obtain⟨sl,e⟩:=I.base.slot L o ho (I.ok.frf L hL) hL λz=>I.ok.yu L z hL
   exact⟨hk,⟨L,_,hf,hn,e,hd⟩,ih (λb hb=>hs b (by unfold frs;rw[List.filterMap_cons,hf];exact km _ hb)) hr⟩
 exact all X.outer (λ_ hb=>hb) I.ok.pD
theorem Inv.stack (I:Inv X pins σ H s):s.heap.FunFrames X.base X.stack:=by
 rcases I.ok.stk with e | ⟨e,hf⟩
 ·rw[e];exact I.pD
 ·rw[e];obtain⟨m,hn,_⟩:=I.loc;refine .cons (by rw[I.ok.kind];decide) hf hn ?_ I.pD
  exact Heap.get?_none_of_le (ku I.ok.bsz I.ok.above)
theorem Inv.vB (I:Inv X pins σ H s):∀b∈frs X.stack,b∈X.env.locals::X.fs:=λb hb=>by
 rcases I.ok.stk with e | ⟨e,hf⟩
 ·rw[e]at hb;exact km _ hb
 ·rw[e]at hb;unfold frs at hb;rw[List.filterMap_cons,hf]at hb;exact hb
theorem Inv.vg (I:Inv X pins σ H s):∀b∈frs X.stack,H b=none:=λb hb=>by
 rcases List.mem_cons.mp (I.vB b hb) with e | hb
 ·rw[e];exact I.free
 ·obtain⟨_,o,ho,_⟩:=I.ok.pD.mem hb;exact I.base.free b o ho (I.ok.frf b hb) λz=>I.ok.yu b z hb
theorem Inv.step {g':Array GenState}{t':Nat}{d':Drawn}{ch:List Addr}(I:Inv X pins σ H s)
  (hch:∀b∈ch,(b∈X.ex\/X.s₀.heap.objs.size<=b)/\b≠X.env.locals/\(∀x c,X.env.cells.lookup x=some c->c≠b)/\∀p∈X.pn++pins,p.1≠b)
  (keep:∀b o,b≠X.env.locals->b∉X.fs->b∉ch->s.heap.get? b=some o->H b=none->h'.get? b=some o)
  (slot:∀b o,b≠X.env.locals->b∈X.fs->b∉ch->s.heap.get? b=some o->H b=none->∃sl,h'.get? b=some { o with slots:=sl }) (free:∀b o,b∉ch->s.heap.get? b=some o->H b=none->H' b=none)
  (there:∀b o,b∉ch->s.heap.get? b=some o->∃o',h'.get? b=some o')
  (sG:∀b xs,H b=some (.tup xs)->H' b=some (.tup xs)) (qY:∀b o u,H b=some (.frz o u)->H' b=some (.frz o u)) (sH:∀b ps,H b=some (.tbl ps)->∃more,H' b=some (.tbl (ps++more)))
  (ns:∀m,s.heap.Ns X.env.locals m->h'.Ns X.env.locals m) (hok:HOk X.prog X.w H' h') (hg:AllBare g') :
  Inv X pins σ H' { s with heap:=h',gens:=g',drawn:=d',toks:=t' }:=by
 have neL:∀b o,X.s₀.heap.get? b=some o->b≠X.env.locals:=λb o e=>wa (RX (kx e) I.ok.above)
 have neC:∀b o,X.s₀.heap.get? b=some o->b∉X.ex->b∉ch:=λb o e hx hb=>by
  rcases (hch b hb).1 with z | z
  ·exact hx z
  ·exact absurd (RX (kx e) z) (TU _)
 have cellK:∀x c,X.env.cells.lookup x=some c->∀v,s.heap.IsCell c v->h'.IsCell c v:=λx c e v ⟨o,ho,hd⟩=>by
  have nch:c∉ch:=λz=>(hch c z).2.2.1 x c e rfl
  by_cases hc:c∈X.fs
  ·obtain⟨sl,q⟩:=slot c o (I.cne x c e) hc nch ho (I.kJ x c e);exact⟨_,q,hd⟩
  ·exact⟨o,keep c o (I.cne x c e) hc nch ho (I.kJ x c e),hd⟩
 refine⟨I.ok,I.os,hg,⟨λb o e n hb hx=>?_,λb o e n hb hx=>?_,λb o e n hx=>?_,λb o e hx=>?_,λb xs e=>sG b xs (I.base.sG b xs e),λb o xs e=>qY b o xs (I.base.qY b o xs e),λb ps e=>?_⟩,?_,λx c e=>?_,?_,λx c e=>?_,λp hp=>?_,hok,I.len⟩
 ·exact keep b o (neL b o e) hb (neC b o e hx) (I.base.keep b o e n hb hx) (I.base.free b o e n hx)
 ·obtain⟨sl,e1⟩:=I.base.slot b o e n hb hx;obtain⟨sl',e2⟩:=slot b _ (neL b o e) hb (neC b o e hx) e1 (I.base.free b o e n hx);exact⟨sl',e2⟩
 ·obtain⟨o',e1⟩:=I.base.there b o e hx;exact free b o' (neC b o e hx) e1 (I.base.free b o e n hx)
 ·obtain⟨o',e1⟩:=I.base.there b o e hx;exact there b o' (neC b o e hx) e1
 ·obtain⟨m1,e1⟩:=I.base.sH b ps e;obtain⟨m2,e2⟩:=sH b _ e1;exact⟨m1++m2,by rw[e2,Array.append_assoc]⟩
 ·obtain⟨m,hn,hl⟩:=I.loc;refine⟨m,ns m hn,λi x v e1 e2 e3=>?_⟩
  obtain⟨u,r,l⟩:=hl i x v e1 e2 e3;refine⟨u,r,?_⟩;rcases l with l | ⟨k,c,e,z⟩
  ·exact .inl l
  ·exact .inr ⟨k,c,e,cellK x c e _ z⟩
 ·obtain⟨v,z⟩:=I.cell x c e;exact⟨v,cellK x c e v z⟩
 ·obtain⟨m,⟨o,_,_,ho,_⟩,_⟩:=I.loc;exact free _ o (λz=>(hch _ z).2.1 rfl) ho I.free
 ·obtain⟨v,o,ho,hd⟩:=I.cell x c e;exact free c o (λz=>(hch c z).2.2.1 x c e rfl) ho (I.kJ x c e)
 ·obtain⟨e,n,ne,nf,d⟩:=I.pin p hp;have nch:p.1∉ch:=λz=>(hch p.1 z).2.2.2 p hp rfl
  exact⟨keep p.1 p.2 ne nf nch e n,free p.1 p.2 nch e n,ne,nf,d⟩
theorem Inv.un {t':Nat}(I:Inv X pins σ H s)(u:Un X.fs [] H H' s.heap h')(hok:HOk X.prog X.w H' h'):Inv X pins σ H' { s with heap:=h',toks:=t' }:=by
 obtain⟨m,⟨o,es,ep,ho,r⟩,_⟩:=id I.loc;obtain⟨sl,hL⟩:=u.any ho I.free (by simp)
 exact I.step (g':=s.gens) (d':=s.drawn) (ch:=[]) (λ_ z=>nomatch z) (λb o _ hb _ e n=>u.keep b o e n hb (by simp)) (λb o _ hb _ e n=>u.slot b o e n hb (by simp)) (λb o _ e n=>u.free b o e n (by simp)) (λb o _ e=>u.there b o e (by simp)) u.sG u.qY u.sH (λm' hm=>by
  obtain⟨o',es',ep',ho',r'⟩:=hm;rw[ho]at ho';cases ho';exact⟨_,es',ep',hL,r'⟩) hok I.bare
theorem Inv.call {g':Array GenState}{t':Nat}{d':Drawn}{ch:List Addr}(I:Inv X pins σ H s)(u:Un (frs X.stack) ch H H' s.heap h')(hok:HOk X.prog X.w H' h')(hg:AllBare g')
  (hch:∀b∈ch,(b∈X.ex\/X.s₀.heap.objs.size<=b)/\b≠X.env.locals/\(∀x c,X.env.cells.lookup x=some c->c≠b)/\∀p∈X.pn++pins,p.1≠b) :
  Inv X pins σ H' { s with heap:=h',gens:=g',drawn:=d',toks:=t' }:=by
 obtain⟨m,⟨o,es,ep,ho,r⟩,_⟩:=id I.loc;obtain⟨sl,hL⟩:=u.any ho I.free λz=>(hch _ z).2.1 rfl
 exact I.step (ch:=ch) hch (λb o hL hb hc e n=>u.keep b o e n (λz=>(List.mem_cons.mp (I.vB b z)).elim hL hb) hc) (λb o _ _ hc e n=>u.any e n hc) (λb o hc e n=>u.free b o e n hc) (λb o hc e=>u.there b o e hc) u.sG u.qY u.sH (λm' hm=>by
  obtain⟨o',es',ep',ho',r'⟩:=hm;rw[ho]at ho';cases ho';exact⟨_,es',ep',hL,r'⟩) hok hg
theorem Inv.turned {t':Nat}{it:Addr}(I:Inv X pins σ H s)(k:∀b o,b≠it->s.heap.get? b=some o->h'.get? b=some o)(hn:H it=none)(hL:it≠X.env.locals)
  (h1:it∈X.ex\/X.s₀.heap.objs.size<=it) (h2:∀x c,X.env.cells.lookup x=some c->c≠it) (h3:∀p∈X.pn++pins,p.1≠it):Inv X pins σ H { s with heap:=h',toks:=t' }:=by
 have nit:∀b u,H b=some u->b≠it:=λb u e z=>by rw[z,hn]at e;cases e
 refine I.step (g':=s.gens) (d':=s.drawn) (ch:=[it]) (λb hb=>?_) (λb o _ _ hc e _=>k b o (λz=>hc (by simp[z])) e) (λb o _ _ hc e _=>⟨o.slots,k b o (λz=>hc (by simp[z])) e⟩) (λ_ _ _ _ n=>n)
  (λb o hc e=>⟨o,k b o (λz=>hc (by simp[z])) e⟩) (λ_ _ e=>e) (λ_ _ _ e=>e) (λb ps e=>⟨#[],by rw[e];simp⟩) (λm hm=>?_) (λb u e=>?_) I.bare
 ·have e:b=it:=by simpa using hb
  subst e;exact⟨h1,hL,h2,h3⟩
 ·obtain⟨o,es,ep,ho,r⟩:=hm;exact⟨o,es,ep,k _ o (R4 hL) ho,r⟩
 ·refine(I.hok b u e).Bv (λc v hc q=>k c v ?_ q) (λ_ q=>q) λ_ _ q=>q
  rcases hc with z | z
  ·rw[z];exact nit b u e
  ·exact nit c _ z
theorem Inv.tok (I:Inv X pins σ H s)(t:Nat):Inv X pins σ H { s with toks:=t }:=I.un (h':=s.heap) (t':=t) Un.refl I.hok
theorem Inv.kept {t':Nat}(I:Inv X pins σ H s)(k:∀b u,s.heap.get? b=some u->h'.get? b=some u):Inv X pins σ H { s with heap:=h',toks:=t' }:=I.un (Un.kept k) (I.hok.kept k)
theorem Inv.laid {a:Addr}{o:HO}{t':Nat}(I:Inv X pins σ H s)(k:∀b u,s.heap.get? b=some u->h'.get? b=some u)(hp:s.heap.objs.size<=a)(new:dO X.prog X.w (upd H a o) h' a o) :
  Inv X pins σ (upd H a o) { s with heap:=h',toks:=t' }:=I.un (Un.laid k hp (I.hok.fresh hp)) (I.hok.laid k hp new)
theorem Inv.write {x e:Addr}{o:HO}{t':Nat}(I:Inv X pins σ H s)(mu:Mut (H x))(he:e=x\/H e=some (.own x))(k:∀b u,b≠e->s.heap.get? b=some u->h'.get? b=some u)(heo:∃u,h'.get? e=some u)
  (new:dO X.prog X.w (upd H x o) h' x o):Inv X pins σ (upd H x o) { s with heap:=h',toks:=t' }:=I.un (Un.write mu he k heo) (I.hok.write mu he k heo new)
theorem Inv.qZ {LS:List (Addr×Obj)}(I:Inv X pins σ H s)(h:∀p∈LS,s.heap.get? p.1=some p.2/\H p.1=none/\p.1≠X.env.locals/\p.1∉X.fs/\∀v,p.2.data≠.cell v):Inv X LS σ H s :=
 ⟨I.ok,I.os,I.bare,I.base,I.loc,I.cell,I.free,I.kJ,λp hp=>(List.mem_append.mp hp).elim (λz=>I.pin p (Su _ z)) (h p),I.hok,I.len⟩
theorem Bw {N:List Str}(hN:N.Nodup){i j:Nat}{x:Str}(a:N[i]?=some x)(b:N[j]?=some x):i=j:=by
 obtain⟨h1,e1⟩:=List.getElem?_eq_some_iff.mp a;obtain⟨h2,e2⟩:=List.getElem?_eq_some_iff.mp b;exact(List.getElem_inj hN).mp (e1.trans e2.symm)
theorem F3 {M:Model}{A:Around}{E:Value->Shared->Prop}{i:Nat}{x:Str}{v:V}{u:Value}{Q:Unit->Shared->Prop}(I:Inv X pins σ H s)(hN:X.N.Nodup)(hi:X.N[i]?=some x)(hx:Loc X.env.scope x)(r:RelV v u)
  (h:∀s',Inv X pins (σ.set i (some v)) H s'->(∃a,Heap.SameBut a s.heap s'.heap/\(a=X.env.locals\/X.env.cells.lookup x=some a))->Q () s') (hf:X.fn x=true\/X.env.scope.names.lookup x=some .local:=by first | exact .inl rfl | exact .inr rfl | assumption):wpAny M A (storeName X.env x u) Q E s:=by
 obtain⟨m,hn,hl⟩:=id I.loc;have Qy:(X.env.scope.kind == .class || (X.env.scope.kind == .module && X.env.locals != X.env.globals))=false:=by rw[I.ok.kind];rfl
 have hiσ:i < σ.length:=by rw[I.len];exact(List.getElem?_eq_some_iff.mp hi).1
 have cne:=I.cne;have tracked:∀ {a:Addr} {h':Heap},(∃o,s.heap.get? a=some o/\H a=none)->Heap.SameBut a s.heap h'->HOk X.prog X.w H h':=λ{a h'} ha hs b ob e=>by
  obtain⟨_,_,LU⟩:=ha;refine(I.hok b ob e).Bv (λc w' hc q=>(hs.2 c ?_).trans q) (λ_ q=>q) λ_ _ q=>q
  rintro rfl;rcases hc with rfl | hc
  ·rw[LU]at e;cases e
  ·rw[LU]at hc;cases hc
 rcases hx with hk | hk
 ·refine wpAny_storeName_local hk hn (λh' hn' hs=>?_) Qy
  obtain⟨oL,_,_,hoL,_⟩:=id hn;refine h _ ⟨I.ok,I.os,I.bare,⟨λb o e n hb hx=>?_,λb o e n hb hx=>?_,I.base.free,λb o e hx=>?_,I.base.sG,I.base.qY,I.base.sH⟩,⟨_,hn',λj y v' e1 e2 e3=>?_⟩,λy c e=>?_,I.free,I.kJ,λp hp=>?_,tracked ⟨oL,hoL,I.free⟩ hs,by simpa using I.len⟩ ⟨_,hs,.inl rfl⟩
  ·exact(hs.2 b (wa (RX (kx e) I.ok.above))).trans (I.base.keep b o e n hb hx)
  ·obtain⟨sl,e1⟩:=I.base.slot b o e n hb hx;exact⟨sl,(hs.2 b (wa (RX (kx e) I.ok.above))).trans e1⟩
  ·obtain⟨o',e1⟩:=I.base.there b o e hx;exact⟨o',(hs.2 b (wa (RX (kx e) I.ok.above))).trans e1⟩
  ·by_cases hj:j=i
   ·subst hj;rw[hi]at e1;cases e1;rw[List.getElem?_set_self hiσ]at e2;cases e2;exact⟨u,r,.inl ⟨hk,by simp⟩⟩
   ·rw[List.getElem?_set_ne (R4 hj)]at e2;obtain⟨u',r',q⟩:=hl j y v' e1 e2 e3;refine⟨u',r',?_⟩;rcases q with ⟨k,e⟩ | ⟨k,c,e,z⟩
    ·refine .inl ⟨k,?_⟩;have:y≠x:=λe=>hj (Bw hN e1 (e▸hi))
     simp[this,e]
    ·exact .inr ⟨k,c,e,z.sameBut hs (cne y c e)⟩
  ·obtain⟨w',z⟩:=I.cell y c e;exact⟨w',z.sameBut hs (cne y c e)⟩
  ·obtain⟨e,n,ne,nf,d⟩:=I.pin p hp;exact⟨(hs.2 p.1 ne).trans e,n,ne,nf,d⟩
 ·have hfn:X.fn x=true:=by
   rcases hf with z | z
   ·exact z
   ·rw[z]at hk;cases hk
  obtain⟨c,hc⟩:=I.ok.has x (.inl hk);obtain⟨w',z⟩:=I.cell x c hc;refine wpAny_storeName_cell I.ok.kind hk hc z (λh' hc' hs=>?_)
  obtain⟨oc,hoc,Qz⟩:=id z;refine h { s with heap:=h' } ⟨I.ok,I.os,I.bare,⟨λb o e n hb hx=>?_,λb o e n hb hx=>?_,I.base.free,λb o e hx=>?_,I.base.sG,I.base.qY,I.base.sH⟩,⟨m,hn.sameBut hs (R4 (cne x c hc)),λj y v' e1 e2 e3=>?_⟩,λy c' e=>?_,I.free,I.kJ,λp hp=>?_,tracked ⟨oc,hoc,I.kJ x c hc⟩ hs,by simpa using I.len⟩ ⟨c,hs,.inr hc⟩
  ·exact(hs.2 b (wa (RX (kx e) (I.ok.cab x c hfn hc)))).trans (I.base.keep b o e n hb hx)
  ·obtain⟨sl,e1⟩:=I.base.slot b o e n hb hx;exact⟨sl,(hs.2 b (wa (RX (kx e) (I.ok.cab x c hfn hc)))).trans e1⟩
  ·obtain⟨o',e1⟩:=I.base.there b o e hx;exact⟨o',(hs.2 b (wa (RX (kx e) (I.ok.cab x c hfn hc)))).trans e1⟩
  ·by_cases hj:j=i
   ·subst hj;rw[hi]at e1;cases e1;rw[List.getElem?_set_self hiσ]at e2;cases e2;exact⟨u,r,.inr ⟨.inl hk,c,hc,hc'⟩⟩
   ·rw[List.getElem?_set_ne (R4 hj)]at e2;obtain⟨u',r',q⟩:=hl j y v' e1 e2 e3;refine⟨u',r',?_⟩;rcases q with q | ⟨k,c',e,z'⟩
    ·exact .inl q
    ·refine .inr ⟨k,c',e,z'.sameBut hs ?_⟩;rintro rfl;exact hj (Bw hN e1 (I.ok.inj _ _ _ e hc▸hi))
  ·by_cases hcc:c'=c
   ·subst hcc;exact⟨_,hc'⟩
   ·obtain⟨w2,z2⟩:=I.cell y c' e;exact⟨w2,z2.sameBut hs hcc⟩
  ·obtain⟨e,n,ne,nf,d⟩:=I.pin p hp;refine⟨(hs.2 p.1 ?_).trans e,n,ne,nf,d⟩;intro q;rw[q,hoc]at e;have q':oc=p.2:=si e;exact d w' (by rw[<-q'];exact Qz)
theorem kK {M:Model}{A:Around}{E:Value->Shared->Prop}{i:Nat}{x:Str}{v:V}{u:Value}{Q:Unit->Shared->Prop}(I:Inv X pins σ H s)(hN:X.N.Nodup)(hi:X.N[i]?=some x)(hx:Loc X.env.scope x)(r:RelV v u)
  (h:∀s',Inv X pins (σ.set i (some v)) H s'->Q () s') (hf:X.fn x=true\/X.env.scope.names.lookup x=some .local:=by first | exact .inl rfl | exact .inr rfl | assumption):wpAny M A (storeName X.env x u) Q E s :=
 F3 I hN hi hx r (λs' I' _=>h s' I') hf
theorem Inv.Bx {s':Shared}{ch:List Addr}(I:Inv X pins σ H s)(ho:s'.os=s.os)(u:Un (frs X.stack) ch H H' s.heap s'.heap)(hok:HOk X.prog X.w H' s'.heap)(hg:AllBare s'.gens)
  (hch:∀b∈ch,(b∈X.ex\/X.s₀.heap.objs.size<=b)/\b≠X.env.locals/\(∀x c,X.env.cells.lookup x=some c->c≠b)/\∀p∈X.pn++pins,p.1≠b):Inv X pins σ H' s':=by
 obtain⟨h',g',d',t',o'⟩:=s';have e:o'=s.os:=ho;subst e;exact I.call (g':=g') (t':=t') (d':=d') u hok hg hch
end
abbrev XK:=Value->Option Addr->Hp->Prop
abbrev St:=List (Option V)
abbrev VK:=V->Hp->Prop
abbrev TE:=St->Hp->VK->Prop
abbrev TT:=St->Hp->(Bool->Hp->Prop)->Prop
abbrev TA:=St->Hp->(List V->Hp->Prop)->Prop
structure Ends where
 nx:St->Hp->Prop
 rt:VK
 bk:St->Hp->Prop:=λ_ _=>False
 ct:St->Hp->Prop:=λ_ _=>False
abbrev TS:=Ends->St->Hp->Prop
def EP (X:Cx)(pins:List (Addr×Obj))(σ:St)(Q:VK)(u:Value)(s':Shared):Prop:=∃v H',Inv X pins σ H' s'/\RelV v u/\Q v H'
def TP (X:Cx)(pins:List (Addr×Obj))(σ:St)(Q:Bool->Hp->Prop)(b:Bool)(s':Shared):Prop:=∃H',Inv X pins σ H' s'/\Q b H'
def AP (X:Cx)(pins:List (Addr×Obj))(σ:St)(Q:List V->Hp->Prop)(us:List Value)(s':Shared):Prop:=∃vs H',Inv X pins σ H' s'/\Vals vs us/\Q vs H'
def SP (X:Cx)(pins:List (Addr×Obj))(D:Ends)(f:Flow)(s':Shared):Prop :=
 match f with
 | .next=>∃σ' H',Inv X pins σ' H' s'/\D.nx σ' H'
 | .brk=>∃σ' H',Inv X pins σ' H' s'/\D.bk σ' H'
 | .cont=>∃σ' H',Inv X pins σ' H' s'/\D.ct σ' H'
 | .ret u=>∃v σ' H',Inv X pins σ' H' s'/\RelV v u/\D.rt v H'
def PE (X:Cx)(e:Expr)(t:TE):Prop :=
 ∀(pins:List (Addr×Obj)) (s:Shared) (σ:St) (H:Hp) (Q:VK),Inv X pins σ H s->t σ H Q->wpAny (model X.prog X.w) X.A (eval e X.env) (EP X pins σ Q) X.xe s
def PT (X:Cx)(e:Expr)(t:TT):Prop :=
 ∀(pins:List (Addr×Obj)) (s:Shared) (σ:St) (H:Hp) (Q:Bool->Hp->Prop),Inv X pins σ H s->t σ H Q->wpAny (model X.prog X.w) X.A (isTrue e X.env (eval e X.env)) (TP X pins σ Q) X.xe s
def PW (X:Cx)(e:Expr)(t:TT):Prop :=
 ∀(whole:Sem Value) (pins:List (Addr×Obj)) (s:Shared) (σ:St) (H:Hp) (Q:Bool->Hp->Prop),Inv X pins σ H s->t σ H Q->wpAny (model X.prog X.w) X.A (isTrue e X.env whole) (TP X pins σ Q) X.xe s
theorem PW.pt {X:Cx}{e:Expr}{t:TT}(h:PW X e t):PT X e t:=h _
def PA (X:Cx)(es:List Expr)(t:TA):Prop :=
 ∀(pos:Pos) (pins:List (Addr×Obj)) (s:Shared) (σ:St) (H:Hp) (Q:List V->Hp->Prop),Inv X pins σ H s->t σ H Q->wpAny (model X.prog X.w) X.A (spliced (backTo pos (Lk es X.env))) (AP X pins σ Q) X.xe s
def PS (X:Cx)(st:Stmt)(t:TS):Prop :=
 ∀(pins:List (Addr×Obj)) (s:Shared) (σ:St) (H:Hp) (D:Ends),Inv X pins σ H s->t D σ H->wpAny (model X.prog X.w) X.A (exec st X.env) (SP X pins D) X.xe s
def PSs (X:Cx)(st:List Stmt)(t:TS):Prop :=
 ∀(pins:List (Addr×Obj)) (s:Shared) (σ:St) (H:Hp) (D:Ends),Inv X pins σ H s->t D σ H->wpAny (model X.prog X.w) X.A (execs st X.env) (SP X pins D) X.xe s
theorem thn {α:Type}{t:Sem α}{Q Q':α->Shared->Prop}{M:Model}{A:Around}{E:Value->Shared->Prop}{s:Shared}(h:wpAny M A t Q E s)(hQ:∀a s,Q a s->Q' a s):wpAny M A t Q' E s:=om h hQ λ_ _ x=>x
section
variable{X:Cx}
theorem bin {a b:Expr}{ta tb:TE}(ha:PE X a ta)(hb:PE X b tb){pins:List (Addr×Obj)}{s:Shared}{σ:St}{H:Hp}{R:V->V->Hp->Prop}(I:Inv X pins σ H s)(h:ta σ H λx H1=>tb σ H1 λy H2=>R x y H2)
  {α:Type} {Q:α->Shared->Prop} {f:Value->Value->Sem α}
  (hf:∀v u s2 x y H2,Inv X pins σ H2 s2->RelV x v->RelV y u->R x y H2->wpAny (model X.prog X.w) X.A (f v u) Q X.xe s2) :
  wpAny (model X.prog X.w) X.A (eval a X.env) (λv s₁=>wpAny (model X.prog X.w) X.A (eval b X.env) (λu s₂=>wpAny (model X.prog X.w) X.A (f v u) Q X.xe s₂) X.xe s₁) X.xe s:=by
 refine thn (ha pins s σ H _ I h) λv s1 ⟨x,H1,I1,r1,q1⟩=>?_
 refine thn (hb pins s1 σ H1 _ I1 q1) λu s2 ⟨y,H2,I2,r2,q2⟩=>?_
 exact hf v u s2 x y H2 I2 r1 r2 q2
def Ov (i:Nat):TE:=λσ H Q=>∃v,σ[i]?=some (some v)/\Q v H
def tC (v:V):TE:=λ_ H Q=>Q v H
theorem Mt {i:Nat}{x:Str}{pos:Pos}(hN:X.N[i]?=some x)(hv:Vis X.env.scope x)(hd:(x == ("__debug__":Str))=false:=by decide)(hcd:(x == ("__classdict__":Str))=false:=by decide):PE X (.Name x pos) (Ov i):=by
 intro pins s σ H Q I h;obtain⟨v,e,h⟩:=h;obtain⟨m,hn,hl⟩:=I.loc;obtain⟨u,r,l⟩:=hl i x v hN e hv;have fin:EP X pins σ Q u s:=⟨v,H,I,r,h⟩;rcases l with ⟨hk,hm⟩ | ⟨hk,c,hc,iA⟩
 ·exact wpAny_Name (wpAny_loadName_local I.ok.kind hk hn hm fin) hd
 ·rcases hk with hk | hk
  ·exact wpAny_Name (wpAny_loadName_cell I.ok.kind hk hc iA fin) hd
  ·exact wpAny_Name (wpAny_loadName_free I.ok.kind hk hc iA fin hcd) hd
theorem ag {i j pos}:PE X (.Constant (.int i) j pos) (tC (.int i)):=λ_ _ _ H _ I h=>wpAny_Constant_int ⟨.int i,H,I.tok _,⟨_,rfl⟩,h⟩
theorem gb {b j pos}:PE X (.Constant (.bool b) j pos) (tC (.bl b)):=λ_ _ _ H _ I h=>Constant_bool ⟨.bl b,H,I,rfl,h⟩
theorem vC {j pos}:PE X (.Constant .none j pos) (tC .non):=λ_ _ _ H _ I h=>Constant_none ⟨.non,H,I,rfl,h⟩
theorem aj {x j pos}:PE X (.Constant (.str x) j pos) (tC (.str x)):=λ_ _ _ H _ I h=>Calls.Constant_str ⟨.str x,H,I.tok _,⟨_,rfl⟩,h⟩
def Gl (X:Cx)(x:Str):Prop:=X.env.kindOf x=some .globalImplicit
theorem fG {E:Value->Shared->Prop}{pins:List (Addr×Obj)}{s:Shared}{σ:St}{H:Hp}{x:Str}{u:Value}{pos:Pos}{Q:Value->Shared->Prop}(I:Inv X pins σ H s)(hg:Gl X x)(hm:X.mg x=some u)(h:Q u s)
  (hd:(x == ("__debug__":Str))=false:=by decide):wpAny (model X.prog X.w) X.A (eval (.Name x pos) X.env) Q E s :=
 Calls.Name_function_global I.ok.kind hg (Calls.loadGlobal_global (by rw[I.ok.glob];exact I.mod.glob.keeps I.bk) hm h) hd
theorem Dp {E:Value->Shared->Prop}{pins:List (Addr×Obj)}{s:Shared}{σ:St}{H:Hp}{x:Str}{u:Value}{pos:Pos}{Q:Value->Shared->Prop}(I:Inv X pins σ H s)(hg:Gl X x)(hm:X.mg x=none)(hv:SR x=some u)(h:Q u s)
  (hn:x≠"__name__":=by decide) (hd:(x == ("__debug__":Str))=false:=by decide):wpAny (model X.prog X.w) X.A (eval (.Name x pos) X.env) Q E s:=by
 obtain⟨mb,h1,h2⟩:=I.mod.blt;exact Calls.Name_function_global I.ok.kind hg (Calls.loadGlobal_builtin (by rw[I.ok.glob];exact I.mod.glob.keeps I.bk) hm (by rw[I.ok.blt];exact h1.keeps I.bk) ((h2 x hn).trans hv) h) hd
theorem vh {x:Str}{v:V}{u:Value}{pos:Pos}(hg:Gl X x)(hm:X.mg x=some u)(r:RelV v u)(hd:(x == ("__debug__":Str))=false:=by decide):PE X (.Name x pos) (tC v) :=
 λ_ _ _ H _ I h=>fG I hg hm ⟨v,H,I,r,h⟩ hd
variable{a b:Expr}{ta tb:TE}{pos:Pos}
def PC (X:Cx)(op:CmpOp)(a b:Expr)(t:TE):Prop :=
 ∀(pins:List (Addr×Obj)) (s:Shared) (σ:St) (H:Hp) (Q:VK),Inv X pins σ H s->t σ H Q ->
  wpAny (model X.prog X.w) X.A (eval a X.env) (λv s₁=>wpAny (model X.prog X.w) X.A (eval b X.env) (λu s₂=>wpAny (model X.prog X.w) X.A (SH op v u) (EP X pins σ Q) X.xe s₂) X.xe s₁) X.xe s
theorem G9 (b:Expr){op:CmpOp}(h:op≠.In)(h2:op≠.NotIn):behindInMarks op b=false:=by
 have e1:(op == CmpOp.In)=false:=by cases op <;> first | rfl | exact absurd rfl h
 have e2:(op == CmpOp.NotIn)=false:=by cases op <;> first | rfl | exact absurd rfl h2
 cases b <;> simp[behindInMarks,e1,e2]
def tB (t:TE):TT:=λσ H Q=>t σ H λx H1=>∃c,x=.bl c/\Q c H1
theorem Dq {op:CmpOp}{t:TE}(h:PC X op a b t)(h1:behindInMarks op b=false:=by first | exact G9 _ (by decide) (by decide) | rfl):PT X (.Compare a [op] [b] pos) (tB t):=by
 intro pins s σ H Q I hw;refine wpAny_isTrue_Compare1 (thn (h pins s σ H _ I hw) λv s1 h1=>thn h1 λu s2 h2=>thn h2 λc s3 ⟨x,H1,I1,r1,q1⟩=>?_) h1
 obtain⟨d,rfl,q⟩:=q1;cases r1;exact wpAny_truthy_bool ⟨H1,I1,q⟩
theorem j3 {e:Expr}{t:TE}(h:PE X e t)(he:∀whole,isTrue e X.env whole=(do let v <-whole;standAt e.pos;holding [v] (truthy v)):=by intro _;rfl):PT X e (tB t):=by
 intro pins s σ H Q I hw;refine isTrue_plain (thn (h pins s σ H _ I hw) λv s1 ⟨x,H1,I1,r1,q1⟩=>?_) (he _)
 obtain⟨d,rfl,q⟩:=q1;cases r1;exact wpAny_truthy_bool ⟨H1,I1,q⟩
variable{tA tB':TT}{rest:List Expr}
def QA (t u:TT):TT:=λσ H Q=>t σ H λc H1=>if c=true then u σ H1 Q else Q false H1
def tOr (t u:TT):TT:=λσ H Q=>t σ H λc H1=>if c=true then Q true H1 else u σ H1 Q
def QB (t:TT):TT:=λσ H Q=>t σ H λc H1=>Q (!c) H1
theorem pw_and1 (ha:PT X a tA):PW X (.BoolOp .And [a] pos) tA:=by
 intro wh pins s σ H Q I h;refine isTrue_and (thn (ha pins s σ H Q I h) λc s1 e=>?_)
 cases c with
 |true=>exact isTrue_and_nil e
 |false=>exact e
theorem pw_or1 (ha:PT X a tA):PW X (.BoolOp .Or [a] pos) tA:=by
 intro wh pins s σ H Q I h;refine isTrue_or (thn (ha pins s σ H Q I h) λc s1 e=>?_)
 cases c with
 |false=>exact isTrue_or_nil e
 |true=>exact e
theorem pw_and (ha:PT X a tA)(hb:PW X (.BoolOp .And (b::rest) pos) tB'):PW X (.BoolOp .And (a::b::rest) pos) (QA tA tB'):=by
 intro wh pins s σ H Q I h;refine isTrue_and (thn (ha pins s σ H _ I h) λc s1 ⟨H1,I1,q1⟩=>?_)
 cases c with
 |true=>exact hb wh pins s1 σ H1 Q I1 q1
 |false=>exact⟨H1,I1,q1⟩
theorem pw_or (ha:PT X a tA)(hb:PW X (.BoolOp .Or (b::rest) pos) tB'):PW X (.BoolOp .Or (a::b::rest) pos) (tOr tA tB'):=by
 intro wh pins s σ H Q I h;refine isTrue_or (thn (ha pins s σ H _ I h) λc s1 ⟨H1,I1,q1⟩=>?_)
 cases c with
 |true=>exact⟨H1,I1,q1⟩
 |false=>exact hb wh pins s1 σ H1 Q I1 q1
theorem qh (ha:PT X a tA):PT X (.UnaryOp .Not a pos) (QB tA):=by
 intro pins s σ H Q I h;exact isTrue_not (ha pins s σ H (λc H1=>Q (!c) H1) I h)
def Ow (ta tb:TE):TE:=λσ H Q=>ta σ H λx H1=>∃c,x=.bl c/\if c=true then tb σ H1 Q else Q (.bl false) H1
def QC (ta tb:TE):TE:=λσ H Q=>ta σ H λx H1=>∃c,x=.bl c/\if c=true then Q (.bl true) H1 else tb σ H1 Q
theorem Dr {op}{t:TE}(h:PE X a t):PE X (.BoolOp op [a] pos) t:=λpins s σ H Q I hw=>BoolOp_one (h pins s σ H Q I hw)
theorem Hb (ha:PE X a ta)(hb:PE X (.BoolOp .And (b::rest) pos) tb):PE X (.BoolOp .And (a::b::rest) pos) (Ow ta tb):=by
 intro pins s σ H Q I h;refine BoolOp_and (thn (ha pins s σ H _ I h) λv s1 ⟨x,H1,I1,r1,q1⟩=>?_)
 obtain⟨c,rfl,q1⟩:=q1;cases r1;refine wpAny_truthy_bool ?_;cases c with
 |true=>exact hb pins s1 σ H1 Q I1 q1
 |false=>exact⟨.bl false,H1,I1,rfl,q1⟩
theorem Ox (ha:PE X a ta)(hb:PE X (.BoolOp .Or (b::rest) pos) tb):PE X (.BoolOp .Or (a::b::rest) pos) (QC ta tb):=by
 intro pins s σ H Q I h;refine BoolOp_or (thn (ha pins s σ H _ I h) λv s1 ⟨x,H1,I1,r1,q1⟩=>?_)
 obtain⟨c,rfl,q1⟩:=q1;cases r1;refine wpAny_truthy_bool ?_;cases c with
 |false=>exact hb pins s1 σ H1 Q I1 q1
 |true=>exact⟨.bl true,H1,I1,rfl,q1⟩
def tIf (t:TT)(ta tb:TE):TE:=λσ H Q=>t σ H λc H1=>if c=true then ta σ H1 Q else tb σ H1 Q
theorem By {c:Expr}(hc:PT X c tA)(ha:PE X a ta)(hb:PE X b tb):PE X (.IfExp c a b pos) (tIf tA ta tb):=by
 intro pins s σ H Q I h;refine wpAny_IfExp (thn (hc pins s σ H _ I h) λd s1 ⟨H1,I1,q1⟩=>?_)
 cases d with
 |true=>exact ha pins s1 σ H1 Q I1 q1
 |false=>exact hb pins s1 σ H1 Q I1 q1
end
def SqL (K:bo)(H:Hp)(a:Addr)(xs:List V):Prop :=
 Rd H a (.lst xs) \/
  ∃(o:Obj) (its:Array Value) (n:Nat),K.lookup a=some o/\o.cls=.type "list"/\o.dict=none/\o.data=.seq its n/\its.size<=fe/\Vals xs its.toList
def SqT (K:bo)(H:Hp)(a:Addr)(xs:List V):Prop :=
 Rd H a (.tup xs) \/
  ∃(o:Obj) (its:Array Value) (n:Nat),K.lookup a=some o/\o.cls=.type "tuple"/\o.data=.seq its n/\its.size<=fe/\Vals xs its.toList
def QD:Value->Option V
 | .none=>some .non
 | .bool b=>some (.bl b)
 | .int i _=>some (.int i)
 | .str x _=>some (.str x)
 | .bytes b _=>some (.byt b)
 | .float b _=>some (.flt b)
 | .ref a=>some (.ref a)
 | .type n=>some (.ty n)
 |_=>none
theorem RelV.abs {x:V}{u:Value}(r:RelV x u):QD u=some x:=by
 cases x with
 |non=>cases r;rfl
 |bl _=>cases r;rfl
 |int _=>obtain⟨t,rfl⟩:=r;rfl
 |str _=>obtain⟨t,rfl⟩:=r;rfl
 |byt _=>obtain⟨t,rfl⟩:=r;rfl
 |flt _=>obtain⟨t,rfl⟩:=r;rfl
 |ref _=>cases r;rfl
 |ty _=>cases r;rfl
theorem RelV.inj {x y:V}{u:Value}(r:RelV x u)(q:RelV y u):x=y:=si (r.abs.symm.trans q.abs)
theorem Vals.inj:∀ {xs ys:List V} {us:List Value},Vals xs us->Vals ys us->xs=ys
 |_,_,_,.nil,.nil=>rfl
 |_,_,_,.cons r t,.cons r' t'=>by rw[r.inj r',Vals.inj t t']
section
variable{X:Cx}{pins:List (Addr×Obj)}{σ:St}{H:Hp}{s:Shared}{a:Addr}{xs ys:List V}
theorem SqL.of {K:bo}(h:H a=some (.lst xs)):SqL K H a xs:=.inl (.inl h)
theorem SqT.of {K:bo}(h:H a=some (.tup xs)):SqT K H a xs:=.inl (.inl h)
theorem Inv.list (I:Inv X pins σ H s)(h:SqL X.K H a xs):∃its:List Value,Vals xs its/\PlainL s.heap a its.toArray/\xs.length<=fe:=by
 rcases h with h | ⟨o,its,n,hk,hc,hd,hs,hz,r⟩
 ·obtain⟨z,its,n,r,e⟩:=h.ok I.hok;exact⟨its,r,⟨_,n,e,rfl,rfl,rfl⟩,z⟩
 ·refine⟨its.toList,r,⟨o,n,I.kIn a o hk,hc,hd,by simpa using hs⟩,?_⟩
  have e:=r.length;simp only[TL]at e;omega
theorem Inv.tuple (I:Inv X pins σ H s)(h:SqT X.K H a xs):∃its:List Value,Vals xs its/\IsTup s.heap a its.toArray/\xs.length<=fe:=by
 rcases h with h | ⟨o,its,n,hk,hc,hs,hz,r⟩
 ·obtain⟨z,its,r,p⟩:=h.ok I.hok;exact⟨its,r,p,z⟩
 ·refine⟨its.toList,r,⟨o,I.kIn a o hk,hc,n,by simpa using hs⟩,?_⟩
  have e:=r.length;simp only[TL]at e;omega
theorem Inv.Hc (I:Inv X pins σ H s)(h:SqL X.K H a xs)(h':SqL X.K H a ys):xs=ys:=by
 obtain⟨its,r,⟨o,n,e,_,_,d⟩,_⟩:=I.list h;obtain⟨its',r',⟨o',n',e',_,_,d'⟩,_⟩:=I.list h';rw[e]at e';cases e';rw[d]at d';injection d' with d1 _
 have:its=its':=by simpa using congrArg Array.toList d1
 subst this;exact r.inj r'
theorem Inv.F4 (I:Inv X pins σ H s)(h:SqT X.K H a xs)(h':SqT X.K H a ys):xs=ys:=by
 obtain⟨its,r,⟨o,e,_,n,d⟩,_⟩:=I.tuple h;obtain⟨its',r',⟨o',e',_,n',d'⟩,_⟩:=I.tuple h';rw[e]at e';cases e';rw[d]at d';injection d' with d1 _
 have:its=its':=by simpa using congrArg Array.toList d1
 subst this;exact r.inj r'
end
abbrev Cx.j4 (X:Cx)(E:Value->Shared->Prop):Cx:={ X with xe:=E }
abbrev Cx.nox (X:Cx):Cx:=X.j4 λ_ _=>False
theorem Cx.Ok.j4 {X:Cx}(ok:X.Ok)(E:Value->Shared->Prop):(X.j4 E).Ok :=
 ⟨ok.mod,ok.kind,ok.glob,ok.blt,ok.above,ok.inj,ok.has,ok.cab,ok.hd,ok.frames,ok.stk,ok.exf,ok.bs,ok.bsz,ok.Ad,ok.yu,ok.pD,ok.frf⟩
theorem Cx.Ok.cO {X:Cx}{E:Value->Shared->Prop}(ok:(X.j4 E).Ok):X.Ok :=
 ⟨ok.mod,ok.kind,ok.glob,ok.blt,ok.above,ok.inj,ok.has,ok.cab,ok.hd,ok.frames,ok.stk,ok.exf,ok.bs,ok.bsz,ok.Ad,ok.yu,ok.pD,ok.frf⟩
section
variable{X:Cx}{pins:List (Addr×Obj)}{σ:St}{H:Hp}{s:Shared}{E:Value->Shared->Prop}
theorem Inv.j4 (I:Inv X pins σ H s)(E:Value->Shared->Prop):Inv (X.j4 E) pins σ H s:=⟨I.ok.j4 E,I.os,I.bare,I.base,I.loc,I.cell,I.free,I.kJ,I.pin,I.hok,I.len⟩
theorem Inv.cO (I:Inv (X.j4 E) pins σ H s):Inv X pins σ H s:=⟨I.ok.cO,I.os,I.bare,I.base,I.loc,I.cell,I.free,I.kJ,I.pin,I.hok,I.len⟩
theorem SP.cO {D:Ends}{f:Flow}{s':Shared}(h:SP (X.j4 E) pins D f s'):SP X pins D f s':=by
 cases f with
 |next=>obtain⟨σ',H',I,q⟩:=h;exact⟨σ',H',I.cO,q⟩
 |brk=>obtain⟨σ',H',I,q⟩:=h;exact⟨σ',H',I.cO,q⟩
 |cont=>obtain⟨σ',H',I,q⟩:=h;exact⟨σ',H',I.cO,q⟩
 |ret u=>obtain⟨v,σ',H',I,r,q⟩:=h;exact⟨v,σ',H',I.cO,r,q⟩
theorem PE.nox {e:Expr}{t:TE}(h:PE X.nox e t):PE X e t:=λpins s σ H Q I hw =>
 om (h pins s σ H Q (I.j4 _) hw) (λ_ _ ⟨v,H',I',r,q⟩=>⟨v,H',I'.cO,r,q⟩) λ_ _ z=>Sb z
theorem PT.nox {e:Expr}{t:TT}(h:PT X.nox e t):PT X e t:=λpins s σ H Q I hw =>
 om (h pins s σ H Q (I.j4 _) hw) (λ_ _ ⟨H',I',q⟩=>⟨H',I'.cO,q⟩) λ_ _ z=>Sb z
theorem PSs.nox {st:List Stmt}{t:TS}(h:PSs X.nox st t):PSs X st t:=λpins s σ H D I hw =>
 om (h pins s σ H D (I.j4 _) hw) (λ_ _ q=>q.cO) λ_ _ z=>Sb z
end
section
variable{X:Cx}{st:Stmt}{rest:List Stmt}{t u:TS}{e:Expr}{te:TE}{pos:Pos}
def Bz:TS:=λD σ H=>D.nx σ H
def Hd (t u:TS):TS:=λD σ H=>t { D with nx:=u D } σ H
theorem aJ:PSs X [] Bz:=λ_ _ σ H _ I h=>wpAny_execs_nil ⟨σ,H,I,h⟩
theorem ah (h1:PS X st t)(h2:PSs X rest u):PSs X (st::rest) (Hd t u):=by
 intro pins s σ H D I h;refine wpAny_execs_cons (thn (h1 pins s σ H { D with nx:=u D } I h) λf s1 q=>?_)
 cases f with
 |next =>
  obtain⟨σ',H',I',q⟩:=q;exact h2 pins s1 σ' H' D I' q
 |ret v=>exact q
 |brk=>exact q
 |cont=>exact q
theorem ai (h1:PS X st t):PSs X [st] t:=by
 intro pins s σ H D I h;refine wpAny_execs_cons (thn (h1 pins s σ H D I h) λf s1 q=>?_)
 cases f with
 |next=>exact wpAny_execs_nil q
 |ret v=>exact q
 |brk=>exact q
 |cont=>exact q
theorem Inv.quiet {pins:List (Addr×Obj)}{σ:St}{H:Hp}{s:Shared}(I:Inv X pins σ H s):interactive X.env=false:=by simp[interactive,I.ok.kind]
def Oy (te:TE):TS:=λD σ H=>te σ H λ_ H1=>D.nx σ H1
theorem bh (he:PE X e te)(hs:swapsWith e none pos.line X.env=pure false:=by rfl):PS X (.Expr e pos) (Oy te):=by
 intro pins s σ H D I h;exact wpAny_Expr_any (thn (he pins s σ H _ I h) λv s1 ⟨x,H1,I1,r1,q1⟩=>⟨σ,H1,I1,q1⟩) I.quiet hs
def QE (te:TE):TS:=λD σ H=>te σ H D.rt
theorem aI (he:PE X e te):PS X (.Return (some e) pos) (QE te):=by
 intro pins s σ H D I h;exact wpAny_Return_some (thn (he pins s σ H _ I h) λv s1 ⟨x,H1,I1,r1,q1⟩=>⟨x,σ,H1,I1,r1,q1⟩)
def QF (c:TT)(t u:TS):TS:=λD σ H=>c σ H λb H1=>if b=true then t D σ H1 else u D σ H1
theorem a4 {c:Expr}{a b:List Stmt}{tc:TT}(hc:PT X c tc)(ha:PSs X a t)(hb:PSs X b u):PS X (.If c a b pos) (QF tc t u):=by
 intro pins s σ H D I h;refine wpAny_If (thn (hc pins s σ H _ I h) λd s1 ⟨H1,I1,q1⟩=>?_)
 cases d with
 |true=>exact ha pins s1 σ H1 D I1 q1
 |false=>exact hb pins s1 σ H1 D I1 q1
end
abbrev TG:=V->St->Hp->(St->Hp->Prop)->Prop
abbrev TGs:=List V->St->Hp->(St->Hp->Prop)->Prop
def PG (X:Cx)(target:Expr)(t:TG):Prop :=
 ∀(pins:List (Addr×Obj)) (s:Shared) (σ:St) (H:Hp) (v:V) (u:Value) (Q:St->Hp->Prop),Inv X pins σ H s->RelV v u->t v σ H Q ->
  wpAny (model X.prog X.w) X.A (assign target X.env u) (λ_ s'=>∃σ' H',Inv X pins σ' H' s'/\Q σ' H') X.xe s
def PGs (X:Cx)(ts:List Expr)(t:TGs):Prop :=
 ∀(pins:List (Addr×Obj)) (s:Shared) (σ:St) (H:Hp) (vs:List V) (us:List Value) (Q:St->Hp->Prop),Inv X pins σ H s->Vals vs us->t vs σ H Q ->
  wpAny (model X.prog X.w) X.A (assignInOrder ((assignEach ts X.env).map (·.2)) us) (λ_ s'=>∃σ' H',Inv X pins σ' H' s'/\Q σ' H') X.xe s
abbrev Mu:=V->V->V->Hp->(Hp->Prop)->Prop
def Oz (X:Cx)(t:Mu):Prop :=
 ∀(pins:List (Addr×Obj)) (s:Shared) (σ:St) (H:Hp) (o i v:V) (ov iv u:Value) (Q:Hp->Prop),Inv X pins σ H s->RelV o ov->RelV i iv->RelV v u->t o i v H Q ->
  wpAny (model X.prog X.w) X.A (setItem ov iv u) (λ_ s'=>∃H',Inv X pins σ H' s'/\Q H') X.xe s
section
variable{X:Cx}{pos:Pos}
def cf (i:Nat):TG:=λv σ H Q=>Q (σ.set i (some v)) H
theorem ck {i:Nat}{x:Str}(hN:X.N.Nodup)(hi:X.N[i]?=some x)(hx:Loc X.env.scope x)(hf:X.fn x=true\/X.env.scope.names.lookup x=some .local:=by first | exact .inl rfl | exact .inr rfl | assumption):PG X (.Name x pos) (cf i):=by
 intro pins s σ H v u Q I r h;exact wpAny_assign_Name (kK I hN hi hx r (λs' I'=>⟨_,H,I',h⟩) hf)
def Mv:TGs:=λvs σ H Q=>vs=[]/\Q σ H
def yP (t:TG)(u:TGs):TGs:=λvs σ H Q=>∃v r,vs=v::r/\t v σ H λσ' H'=>u r σ' H' Q
theorem q0:PGs X [] Mv:=by
 intro pins s σ H vs us Q I r h;obtain⟨e,h⟩:=h;subst e;cases r;exact assignInOrder_nil ⟨σ,H,I,h⟩
theorem cY {e:Expr}{es:List Expr}{t:TG}{u:TGs}(h1:PG X e t)(h2:PGs X es u)
  (hs:(assignEach (e::es) X.env).map (·.2)=assign e X.env::(assignEach es X.env).map (·.2):=by rfl):PGs X (e::es) (yP t u):=by
 intro pins s σ H vs us Q I r h;obtain⟨v,vr,e1,h⟩:=h;subst e1;cases r with
 |cons r rr =>
  rw[hs];refine assignInOrder_cons (thn (h1 pins s σ H _ _ _ I r h) λ_ s1 ⟨σ1,H1,I1,q1⟩=>?_)
  exact h2 pins s1 σ1 H1 _ _ Q I1 rr q1
def Kb (K:bo)(n:Nat)(t:TGs):TG:=λv σ H Q=>∃a xs,v=.ref a/\SqT K H a xs/\xs.length=n/\t xs σ H Q
theorem Ae {es:List Expr}{k:Nat}{t:TGs}{n:Nat}(hc:X.calm=true)(h:PGs X es t)
  (hn:(assignEach es X.env).length=n:=by rfl) (hst:(assignEach es X.env).findIdx? (·.1)=none:=by rfl):PG X (.Tuple es k pos) (Kb X.K n t):=by
 intro pins s σ H v u Q I r hw;obtain⟨a,xs,e1,hq,hl,hw⟩:=hw;subst e1;cases r;obtain⟨its,rv,ht,hz⟩:=I.tuple hq;refine assign_Tuple_tuple (I.ok.hd hc) ht (by simp[hn,<-hl,rv.length]) hst λh' hx=>?_
 have I1:Inv X pins σ H { s with heap:=h' }:=I.kept (t':=s.toks) λb o e=>hx b o (wa (kx e)) e
 exact h pins _ σ H xs _ Q I1 (by simpa using rv) hw
def QG (to ti:TE)(t:Mu):TG:=λv σ H Q=>to σ H λo H1=>ti σ H1 λi H2=>t o i v H2 λH3=>Q σ H3
theorem Ds {o i:Expr}{to ti:TE}{t:Mu}(ho:PE X o to)(hi:PE X i ti)(hs:Oz X t)
  (ha:∀v,assign (.Subscript o i pos) X.env v=(do
   let ov <-holding [v] (eval o X.env)
   let iv <-holding [v,ov] (eval i X.env)
   standAt pos
   holding [v,ov,iv] (setItem ov iv v)
   release [v,ov,iv] []):=by intro _;rfl):PG X (.Subscript o i pos) (QG to ti t):=by
 intro pins s σ H v u Q I r h;rw[ha];refine cb (wpAny_holding (thn (ho pins s σ H _ I h) λov s1 ⟨x,H1,I1,r1,q1⟩=>?_))
 refine cb (wpAny_holding (thn (hi pins s1 σ H1 _ I1 q1) λiv s2 ⟨y,H2,I2,r2,q2⟩=>?_))
 refine cb (SD (cb (wpAny_holding (thn (hs pins s2 σ H2 x y v ov iv u _ I2 r1 r2 r q2) λ_ s3 ⟨H3,I3,q3⟩=>?_))))
 exact wpAny_release ⟨σ,H3,I3,q3⟩
def Mw (te:TE)(g:TG):TS:=λD σ H=>te σ H λx H1=>g x σ H1 D.nx
theorem vD {tg e:Expr}{te:TE}{g:TG}(he:PE X e te)(hg:PG X tg g)(hs:swapsWithSole [tg] e pos.line X.env=pure false:=by rfl)(hw:swappedStores [tg] e X.env=pure none:=by rfl)
  (h1:(assignEach [tg] X.env).map (·.2)=[assign tg X.env]:=by rfl):PS X (.Assign [tg] e pos) (Mw te g):=by
 intro pins s σ H D I h;refine wpAny_Assign_stores (thn (he pins s σ H _ I h) λv s1 ⟨x,H1,I1,r1,q1⟩=>?_) hs hw
 rw[h1];exact thn (hg pins s1 σ H1 x v _ I1 r1 q1) λ_ s2 q=>q
theorem aZ {i:Nat}{x:Str}{e:Expr}{te:TE}{pos':Pos}(hN:X.N.Nodup)(hi:X.N[i]?=some x)(hx:Loc X.env.scope x)(he:PE X e te)(hs:swapsWith e (some (.Name x pos')) pos.line X.env=pure false:=by rfl)(hf:X.fn x=true\/X.env.scope.names.lookup x=some .local:=by first | exact .inl rfl | exact .inr rfl | assumption) :
  PS X (.Assign [.Name x pos'] e pos) (Mw te (cf i)):=by
 intro pins s σ H D I h;refine wpAny_Assign_Name (thn (he pins s σ H _ I h) λv s1 ⟨y,H1,I1,r1,q1⟩=>?_) hs
 exact kK I1 hN hi hx r1 (λs2 I2=>⟨_,H1,I2,q1⟩) hf
end
structure It where
 go:Nat->Hp->Prop
 yld:Nat->Hp->V->Hp->Prop
 stop:Nat->Hp->Prop
def dU (X:Cx)(pins:List (Addr×Obj))(H:Hp)(b:Addr):Prop :=
 H b=none/\b≠X.env.locals/\b∉X.fs/\(b∈X.ex\/X.s₀.heap.objs.size<=b)/\(∀x c,X.env.cells.lookup x=some c->c≠b)/\∀p∈X.pn++pins,p.1≠b
theorem Inv.sI {X:Cx}{pins:List (Addr×Obj)}{σ:St}{H H':Hp}{s:Shared}{b:Addr}(I:Inv X pins σ H s)(hb:s.heap.objs.size<=b)(hn:H' b=none):dU X pins H' b:=by
 refine⟨hn,Nat.ne_of_gt (RX I.lt hb),I.Qx hb,.inr (ku I.sz hb),λx c e z=>?_,λp hp z=>?_⟩
 ·obtain⟨v,q⟩:=I.cell x c e;exact absurd (RX q.lt (by rw[z];exact hb)) (TU _)
 ·exact absurd (RX (kx (I.pin p hp).1) (by rw[z];exact hb)) (TU _)
structure Turn (P:kr)(w:World)(K:bo)(tg:Expr)(J:It)(fp:List Addr)(it:Addr)(tn:Nat->Heap->Prop):Prop where
 mem:it∈fp
 obj:∀i h,tn i h->∀b∈fp,∃o,h.get? b=some o/\∀v,o.data≠.cell v
 keep:∀i h h',tn i h->(∀b∈fp,∀o,h.get? b=some o->h'.get? b=some o)->tn i h'
 item:∀(X:Cx),X.prog=P->X.w=w->X.K=K->X.calm=true->∀(i:Nat) (pins:List (Addr×Obj)) (s:Shared) (σ:St) (H:Hp) (E:Value->Shared->Prop),Inv X pins σ H s->(∀b∈fp,dU X pins H b)->tn i s.heap->J.go i H ->
  wpAny (model P w) X.A (pyNext (.ref it)) (λr s1=>∃u,r=some u /\
   wpAny (model P w) X.A (letOwnedTupleGo tg (.ref it) u) (λ_ s2=>∃x H',Inv X pins σ H' s2/\RelV x u/\J.yld i H x H'/\tn (i+1) s2.heap/\∀b∈fp,H' b=none) E s1) E s
 done:∀(X:Cx),X.prog=P->X.w=w->X.K=K->X.calm=true->∀(i:Nat) (pins:List (Addr×Obj)) (s:Shared) (σ:St) (H:Hp) (E:Value->Shared->Prop),Inv X pins σ H s->(∀b∈fp,dU X pins H b)->tn i s.heap->J.stop i H ->
  wpAny (model P w) X.A (pyNext (.ref it)) (λr s1=>r=none/\Inv X pins σ H s1) E s
 self:∀(A:Around) (i:Nat) (s:Shared) (Q:Value->Shared->Prop) (E:Value->Shared->Prop),tn i s.heap->Q (.ref it) s->wpAny (model P w) A (pyIter (.ref it)) Q E s
abbrev TI:=St->Hp->(It->Hp->Prop)->Prop
def PIE (X:Cx)(pins:List (Addr×Obj))(σ:St)(tg:Expr)(R:It->Hp->Prop)(itv:Value)(s2:Shared):Prop :=
 ∃(it:Addr) (fp:List Addr) (tn:Nat->Heap->Prop) (J:It) (H':Hp),itv=.ref it/\Inv X pins σ H' s2/\Turn X.prog X.w X.K tg J fp it tn/\tn 0 s2.heap/\(∀b∈fp,dU X pins H' b)/\R J H'
def PI (X:Cx)(tg iter:Expr)(wi:TI):Prop :=
 ∀(pins:List (Addr×Obj)) (s:Shared) (σ:St) (H:Hp) (R:It->Hp->Prop),Inv X pins σ H s->wi σ H R ->
  wpAny (model X.prog X.w) X.A (eval iter X.env) (λv s1=>wpAny (model X.prog X.w) X.A (pyIter v) (PIE X pins σ tg R) X.xe s1) X.xe s
theorem E3 {M:Model}{A:Around}{E:Value->Shared->Prop}{s:Shared}{tg:Expr}{it:Addr}{u:Value}{o:Obj}{n:String}{vs:Array Value}{Q:Unit->Shared->Prop}(ho:s.heap.get? it=some o)(hc:o.cls=.type n)(hd:o.data=.fields vs)
    (hn:["enumerate","zip","dict_itemiterator","dict_reverseitemiterator","odict_iterator","itertools.zip_longest","itertools.pairwise"].contains n=false) (hQ:Q () s):wpAny M A (letOwnedTupleGo tg (.ref it) u) Q E s:=by
  unfold letOwnedTupleGo
  cases tg <;> first
    |exact me hQ
    | (cases u <;> first
        |exact me hQ
        | (refine cb (wpAny_load ho ?_)
           rw[hc,hd]
           show wpAny M A (if (["enumerate","zip","dict_itemiterator","dict_reverseitemiterator","odict_iterator","itertools.zip_longest","itertools.pairwise"].contains n && vs[0]? == some (rawInt _))=true then _ else _) Q E s
           rw[if_neg (by intro h;rw[hn,Bool.false_and]at h;cases h)]
           exact me hQ))
def Itl (K:bo)(a:Addr):It :=
 ⟨λi H=>∃xs x,SqL K H a xs/\xs[i]?=some x,λi H x H'=>H'=H/\∀xs,SqL K H a xs->xs[i]?=some x,λi H=>∃xs,SqL K H a xs/\xs.length<=i⟩
def Itt (K:bo)(a:Addr):It :=
 ⟨λi H=>∃xs x,SqT K H a xs/\xs[i]?=some x,λi H x H'=>H'=H/\∀xs,SqT K H a xs->xs[i]?=some x,λi H=>∃xs,SqT K H a xs/\xs.length<=i⟩
def Itr (lo:Int)(n:Nat):It:=⟨λi _=>i < n,λi H x H'=>H'=H/\x=.int (lo+i),λi _=>n<=i⟩
theorem F5 {P:kr}{w:World}{K:bo}{tg:Expr}(a it:Addr):Turn P w K tg (Itl K a) [it] it (λi h=>h.IsListIter it a i) where
 mem:=by simp
 obj:=λi h st b hb=>by
  have e:b=it:=by simpa using hb
  subst e;obtain⟨o,e,c,d⟩:=st;exact⟨o,e,λv z=>by rw[d]at z;cases z⟩
 keep:=λi h h' st k=>st.at λo e=>k it (by simp) o e
 item:=by
  intro X hP hw hK hc i pins s σ H E I hf st hg;subst hP hw hK;obtain⟨xs,x,hq,hx⟩:=hg;obtain⟨its,rv,p,hz⟩:=I.list hq;obtain⟨u,hu,ru⟩:=rv.get hx;obtain⟨f0,f1,f2,f3,f4,f5⟩:=hf it (by simp)
  refine wpAny_pyNext_list_item st p.isList (x:=u) (by simpa using hu) λh' st' sb=>?_
  have I1:Inv X pins σ H { s with heap:=h' }:=I.turned (t':=s.toks) (λb o hb e=>(sb.2 b hb).trans e) f0 f1 f3 f4 f5
  obtain⟨o,e,c,d⟩:=id st';exact⟨u,rfl,E3 (s:={ s with heap:=h' }) e c d (by decide) ⟨x,H,I1,ru,⟨rfl,λys hy=>by rw[I.Hc hy hq];exact hx⟩,st',λb hb=>(hf b hb).1⟩⟩
 done:=by
  intro X hP hw hK hc i pins s σ H E I hf st hg;subst hP hw hK;obtain⟨xs,hq,hx⟩:=hg;obtain⟨its,rv,p,hz⟩:=I.list hq;obtain⟨f0,f1,f2,f3,f4,f5⟩:=hf it (by simp)
  have hl:=rv.length;exact wpAny_pyNext_list_end (I.ok.hd hc) st p.isList (by simp;omega) λh' eb=>⟨rfl,I.turned (t':=s.toks) (λb o hb e=>eb b o hb e) f0 f1 f3 f4 f5⟩
 self:=λ_ _ _ _ _ st h=>wpAny_pyIter_listiter st h
theorem Dt {P:kr}{w:World}{K:bo}{tg:Expr}(a it:Addr):Turn P w K tg (Itt K a) [it] it (λi h=>h.IsTupleIter it a i) where
 mem:=by simp
 obj:=λi h st b hb=>by
  have e:b=it:=by simpa using hb
  subst e;obtain⟨o,e,c,d⟩:=st;exact⟨o,e,λv z=>by rw[d]at z;cases z⟩
 keep:=λi h h' st k=>st.at λo e=>k it (by simp) o e
 item:=by
  intro X hP hw hK hc i pins s σ H E I hf st hg;subst hP hw hK;obtain⟨xs,x,hq,hx⟩:=hg;obtain⟨its,rv,p,hz⟩:=I.tuple hq;obtain⟨u,hu,ru⟩:=rv.get hx;obtain⟨f0,f1,f2,f3,f4,f5⟩:=hf it (by simp)
  refine wpAny_pyNext_tuple_item st (show s.heap.IsTuple a its.toArray from p) (x:=u) (by simpa using hu) λh' st' sb=>?_
  have I1:Inv X pins σ H { s with heap:=h' }:=I.turned (t':=s.toks) (λb o hb e=>(sb.2 b hb).trans e) f0 f1 f3 f4 f5
  obtain⟨o,e,c,d⟩:=id st';exact⟨u,rfl,E3 (s:={ s with heap:=h' }) e c d (by decide) ⟨x,H,I1,ru,⟨rfl,λys hy=>by rw[I.F4 hy hq];exact hx⟩,st',λb hb=>(hf b hb).1⟩⟩
 done:=by
  intro X hP hw hK hc i pins s σ H E I hf st hg;subst hP hw hK;obtain⟨xs,hq,hx⟩:=hg;obtain⟨its,rv,p,hz⟩:=I.tuple hq;obtain⟨f0,f1,f2,f3,f4,f5⟩:=hf it (by simp)
  have hl:=rv.length;exact wpAny_pyNext_tuple_end (I.ok.hd hc) st (show s.heap.IsTuple a its.toArray from p) (by simp;omega) λh' eb=>⟨rfl,I.turned (t':=s.toks) (λb o hb e=>eb b o hb e) f0 f1 f3 f4 f5⟩
 self:=λ_ _ _ _ _ st h=>wpAny_pyIter_tupleiter st h
theorem Du {P:kr}{w:World}{K:bo}{tg:Expr}(it:Addr)(lo:Int)(n:Nat):Turn P w K tg (Itr lo n) [it] it (λi h=>IsRangeIter h it (lo+(i:Nat) * 1) ((n:Int) - (i:Nat)) 1) where
 mem:=by simp
 obj:=λi h st b hb=>by
  have e:b=it:=by simpa using hb
  subst e;exact⟨_,st,λv z=>by
   have z':Data.fields _=Data.cell v:=z;cases z'⟩
 keep:=λi h h' st k=>k it (by simp) _ st
 item:=by
  intro X hP hw hK hc i pins s σ H E I hf st hg;subst hP hw hK;obtain⟨f0,f1,f2,f3,f4,f5⟩:=hf it (by simp)
  have W:=Walks.range (prog:=X.prog) (w:=X.w) (I.ok.hd hc) it lo 1 n;refine W.item i s _ _ hg st λv h' tk hv st' kk=>?_
  obtain⟨t,rfl⟩:=hv;have I1:Inv X pins σ H { s with heap:=h',toks:=tk }:=I.turned (λb o hb e=>kk b o (by simpa using hb) e) f0 f1 f3 f4 f5
  refine⟨_,rfl,E3 (s:={ s with heap:=h',toks:=tk }) (n:="range_iterator") st' rfl rfl (by decide) ⟨.int (lo+i),H,I1,⟨t,?_⟩,⟨rfl,rfl⟩,st',λb hb=>(hf b hb).1⟩⟩
  rw[Int.mul_one]
 done:=by
  intro X hP hw hK hc i pins s σ H E I hf st hg;subst hP hw hK;obtain⟨f0,f1,f2,f3,f4,f5⟩:=hf it (by simp)
  exact wpAny_pyNext_range_end (I.ok.hd hc) st (by have:n<=i:=hg;omega) λh' eb=>⟨rfl,I.turned (t':=s.toks) (λb o hb e=>eb b o hb e) f0 f1 f3 f4 f5⟩
 self:=λ_ _ _ _ _ st h=>wpAny_pyIter_rangeiter st h
section
variable{X:Cx}{tg:Expr}
def OA (K:bo)(tl:TE):TI:=λσ H R=>tl σ H λx H1=>∃a,x=.ref a/\(∃xs,SqL K H1 a xs)/\R (Itl K a) H1
def QH (K:bo)(tl:TE):TI:=λσ H R=>tl σ H λx H1=>∃a,x=.ref a/\(∃xs,SqT K H1 a xs)/\R (Itt K a) H1
theorem eW {l:Expr}{tl:TE}(hl:PE X l tl):PI X tg l (OA X.K tl):=by
 intro pins s σ H R I h;refine thn (hl pins s σ H _ I h) λv s1 ⟨x,H1,I1,r1,q1⟩=>?_
 obtain⟨a,e,⟨xs,hq⟩,q⟩:=q1;subst e;cases r1;obtain⟨its,rv,p,hz⟩:=I1.list hq;refine wpAny_pyIter_list p.isList ?_;refine⟨s1.heap.objs.size,[s1.heap.objs.size],_,_,H1,rfl,I1.kept (t':=s1.toks) λb o e=>da _ e,F5 a _,⟨_,wt _ rfl,rfl,rfl⟩,λb hb=>?_,q⟩
 have e:b=s1.heap.objs.size:=by simpa using hb
 subst e;exact I1.sI (gn _) (I1.hok.fresh (gn _))
theorem He {l:Expr}{tl:TE}(hl:PE X l tl):PI X tg l (QH X.K tl):=by
 intro pins s σ H R I h;refine thn (hl pins s σ H _ I h) λv s1 ⟨x,H1,I1,r1,q1⟩=>?_
 obtain⟨a,e,⟨xs,hq⟩,q⟩:=q1;subst e;cases r1;obtain⟨its,rv,p,hz⟩:=I1.tuple hq;refine wpAny_pyIter_tuple (show s1.heap.IsTuple a its.toArray from p) ?_
 refine⟨s1.heap.objs.size,[s1.heap.objs.size],_,_,H1,rfl,I1.kept (t':=s1.toks) λb o e=>da _ e,Dt a _,⟨_,wt _ rfl,rfl,rfl⟩,λb hb=>?_,q⟩
 have e:b=s1.heap.objs.size:=by simpa using hb
 subst e;exact I1.sI (gn _) (I1.hok.fresh (gn _))
theorem Hf {pins:List (Addr×Obj)}{σ:St}{H:Hp}{s:Shared}{R:It->Hp->Prop}{E:Value->Shared->Prop}{lo hi:Int}{t u v:Tok}{tk:Nat}(I:Inv X pins σ H s)(h1:-(2 ^ 62)<=lo)(h2:lo < 2 ^ 62)(h3:-(2 ^ 62)<=hi)(h4:hi < 2 ^ 62)
  (q:R (Itr lo (hi - lo).toNat) H):wpAny (model X.prog X.w) X.A (pyIter (.ref s.heap.objs.size)) (PIE X pins σ tg R) E { s with heap:=s.heap.push { cls:=.type "range",data:=.fields #[.int lo t,.int hi u,.int 1 v] },toks:=tk }:=by
 refine wpAny_pyIter_range (IsRange.new ..) (small_one h1 h2 h3 h4) ?_;have I1:Inv X pins σ H { s with heap:=s.heap.push { cls:=.type "range",data:=.fields #[.int lo t,.int hi u,.int 1 v] },toks:=tk }:=I.kept λb o e=>da _ e
 refine⟨(s.heap.push { cls:=.type "range",data:=.fields #[.int lo t,.int hi u,.int 1 v] }).objs.size,[(s.heap.push { cls:=.type "range",data:=.fields #[.int lo t,.int hi u,.int 1 v] }).objs.size],_,_,H,rfl,
  I1.kept (t':=tk) λb o e=>da _ e,Du _ lo (hi - lo).toNat,?_,λb hb=>?_,q⟩
 ·have e1:lo+((0:Nat):Int) * 1=lo:=by simp
  have e2:(((hi - lo).toNat:Nat):Int) - ((0:Nat):Int)=Builtin.Range.rangeSize lo hi 1:=by rw[rangeSize_one];split <;> omega
  show IsRangeIter _ _ (lo+((0:Nat):Int) * 1) ((((hi - lo).toNat:Nat):Int) - ((0:Nat):Int)) 1;rw[e1,e2];exact wt _ rfl
 ·have e:b=(s.heap.push { cls:=.type "range",data:=.fields #[.int lo t,.int hi u,.int 1 v] }).objs.size:=by simpa using hb
  subst e;exact I1.sI (gn _) (I1.hok.fresh (gn _))
def OB (ta:TA):TI:=λσ H R=>ta σ H λvs H1=>∃j:Int,vs=[.int j]/\-(2 ^ 62)<=j/\j < 2 ^ 62/\R (Itr 0 j.toNat) H1
theorem oN {a:Expr}{ta:TA}{p pos:Pos}(hg:Gl X "range")(hm:X.mg "range"=none)(ha:PA X [a] ta)(hs:Lk [a] X.env=[(false,eval a X.env)]:=by rfl):PI X tg (.Call (.Name "range" p) [a] [] pos) (OB ta):=by
 intro pins s σ H R I h;refine Call_ (Dp I hg hm boot_range (PyProof.Rows.callWith_type1 (thn (ha pos pins s σ H _ I h) λus s1 ⟨vs,H1,I1,r1,q1⟩=>?_) hs rfl))
 obtain⟨j,e,q1,q2,q⟩:=q1;subst e;cases r1 with
 |cons r rr =>
  cases rr;obtain⟨t,rfl⟩:=r;exact call_range_1 (Hf I1 (by omega) (by omega) q1 q2 (by simpa using q))
def QI (wi:TI)(g:TG)(tb:TS):TS:=λD σ H=>wi σ H λJ H1=>∃W:Nat->Nat->St->Hp->Prop,(∃m,W 0 m σ H1)/\∀i m σ H,W i m σ H ->
 (J.stop i H/\D.nx σ H)\/(J.go i H/\∃N:St->Hp->Prop,(∀σ' H',N σ' H'->∃m',m' < m/\W (i+1) m' σ' H')/\∀x H',J.yld i H x H'->g x σ H' λσ2 H2=>tb { D with nx:=N,ct:=N,bk:=D.nx } σ2 H2)
def Af (fp:List Addr)(h:Heap):List (Addr×Obj):=fp.filterMap λb=>(h.get? b).map λo=>(b,o)
theorem cP {fp:List Addr}{h:Heap}{b:Addr}{o:Obj}(hb:b∈fp)(e:h.get? b=some o):(b,o)∈Af fp h:=List.mem_filterMap.mpr ⟨b,hb,by rw[e];rfl⟩
theorem F6 {fp:List Addr}{h:Heap}{p:Addr×Obj}(hp:p∈Af fp h):p.1∈fp/\h.get? p.1=some p.2:=by
 obtain⟨b,hb,e⟩:=List.mem_filterMap.mp hp;cases q:h.get? b with
 |none=>rw[q]at e;cases e
 |some o =>
  rw[q]at e;have e':(b,o)=p:=si e;subst e';exact⟨hb,q⟩
theorem Inv.pinned {pins:List (Addr×Obj)}{σ:St}{H:Hp}{s:Shared}{fp:List Addr}(I:Inv X pins σ H s)(hf:∀b∈fp,dU X pins H b)(ho:∀b∈fp,∃o,s.heap.get? b=some o/\∀v,o.data≠.cell v):Inv X (pins++Af fp s.heap) σ H s :=
 I.qZ λp hp=>(List.mem_append.mp hp).elim (λz=>I.pin p (de _ z)) λz=>by
  obtain⟨hb,e⟩:=F6 z;obtain⟨f0,f1,f2,_⟩:=hf p.1 hb;obtain⟨o,e',d⟩:=ho p.1 hb;rw[e]at e';cases e';exact⟨e,f0,f1,f2,d⟩
theorem Inv.cI {pins pl:List (Addr×Obj)}{σ:St}{H:Hp}{s:Shared}(I:Inv X (pins++pl) σ H s):Inv X pins σ H s:=I.qZ λp hp=>I.pin p (de _ (Su _ hp))
theorem ng {iter:Expr}{body:List Stmt}{wi:TI}{g:TG}{tb:TS}{pos:Pos}(hp:PassesOwn (model X.prog X.w) X.A X.env X.xe)(hc:X.calm=true)(hi:PI X tg iter wi)(hg:PG X tg g)(hb:PSs X body tb)
  (hs:∀x,foldedSetIterable iter X.env x=pure x:=by intro _;rfl):PS X (.For tg iter body [] pos) (QI wi g tb):=by
 intro pins s σ H D I h;refine wpAny_For (thn (hi pins s σ H _ I h) λv s1 h1=>thn h1 λitv s2 h2=>?_) hs
 obtain⟨it,fp,tn,J,H2,e,I2,T,st2,f2,W,⟨m0,w0⟩,turn⟩:=h2;subst e;have stat:∀ {H':Hp},(∀b∈fp,H' b=none)->∀b∈fp,dU X pins H' b:=λhn b hb=>⟨hn b hb,(f2 b hb).2⟩
 refine codeAny_forLoop_any (λn s'=>∃i σ' H',Inv X pins σ' H' s'/\tn i s'.heap/\(∀b∈fp,H' b=none)/\W i n σ' H') ?_ m0 ⟨0,σ,H2,I2,st2,λb hb=>(f2 b hb).1,w0⟩
 rintro n s3 ⟨i,σ3,H3,I3,st3,fr3,w3⟩;rcases turn i n σ3 H3 w3 with ⟨stop,qn⟩ | ⟨go,N,hN,step⟩
 ·refine wpAny_passesOwn hp (thn (T.done X rfl rfl rfl hc i pins s3 σ3 H3 X.xe I3 (stat fr3) st3 stop) λr s4 ⟨hr,I4⟩=>?_)
  subst hr;exact wpAny_execs_nil ⟨σ3,H3,I4,qn⟩
 ·refine wpAny_passesOwn hp (thn (T.item X rfl rfl rfl hc i pins s3 σ3 H3 X.xe I3 (stat fr3) st3 go) λr s4 ⟨u,hr,h4⟩=>?_)
  subst hr;refine wpAny_passesOwn hp (thn h4 λ_ s5 ⟨x,H5,I5,r5,y5,st5,fr5⟩=>?_)
  have I5':=I5.pinned (stat fr5) (T.obj _ _ st5);refine wpAny_passesOwn hp (thn (hg _ s5 σ3 H5 x u _ I5' r5 (step x H5 y5)) λ_ s6 ⟨σ6,H6,I6,q6⟩=>?_)
  refine wpAny_passesOwn hp (thn (hb _ s6 σ6 H6 _ I6 q6) λf s7 q7=>?_)
  have again:∀ {σ7:St} {H7:Hp},Inv X (pins++Af fp s5.heap) σ7 H7 s7->N σ7 H7->∃m,m < n/\∃i σ' H',Inv X pins σ' H' s7/\tn i s7.heap/\(∀b∈fp,H' b=none)/\W i m σ' H':=λ{σ7 H7} I7 n7=>by
   obtain⟨m',hm,w7⟩:=hN σ7 H7 n7;refine⟨m',hm,i+1,σ7,H7,I7.cI,T.keep _ _ _ st5 λb hb o e=>(I7.pin (b,o) (de _ (de _ (cP hb e)))).1,λb hb=>?_,w7⟩
   obtain⟨o,e,d⟩:=T.obj _ _ st5 b hb;exact(I7.pin (b,o) (de _ (de _ (cP hb e)))).2.1
  cases f with
  |next=>obtain⟨σ7,H7,I7,n7⟩:=q7;exact again I7 n7
  |cont=>obtain⟨σ7,H7,I7,n7⟩:=q7;exact again I7 n7
  |brk=>obtain⟨σ7,H7,I7,q7⟩:=q7;exact⟨σ7,H7,I7.cI,q7⟩
  |ret v=>obtain⟨x7,σ7,H7,I7,r7,q7⟩:=q7;exact⟨x7,σ7,H7,I7.cI,r7,q7⟩
end
theorem kL {K:bo}{a:Addr}{xs:List V}{g:TG}{tb:TS}{D:Ends}{σ:St}{H:Hp}(Pv:Nat->St->Hp->Prop)(h0:Pv 0 σ H)(hl:∀i σ H,i<=xs.length->Pv i σ H->SqL K H a xs)
  (hs:∀i x σ H,xs[i]?=some x->Pv i σ H->g x σ H λσ2 H2=>tb { D with nx:=Pv (i+1),ct:=Pv (i+1),bk:=D.nx } σ2 H2) (hd:∀σ H,Pv xs.length σ H->D.nx σ H) :
  ∃W:Nat->Nat->St->Hp->Prop,(∃m,W 0 m σ H)/\∀i m σ H,W i m σ H ->
   ((Itl K a).stop i H/\D.nx σ H)\/((Itl K a).go i H/\∃N:St->Hp->Prop,(∀σ' H',N σ' H'->∃m',m' < m/\W (i+1) m' σ' H')/\∀x H',(Itl K a).yld i H x H'->g x σ H' λσ2 H2=>tb { D with nx:=N,ct:=N,bk:=D.nx } σ2 H2):=by
 refine⟨λi m σ H=>m=xs.length - i/\i<=xs.length/\Pv i σ H,⟨xs.length,by simp,Sl _,h0⟩,?_⟩
 rintro i m σ H ⟨rfl,hi,p⟩;have q:=hl i σ H hi p
 by_cases hlt:i < xs.length
 ·refine .inr ⟨⟨xs,xs[i],q,by simp[hlt]⟩,Pv (i+1),λσ' H' p'=>⟨xs.length - (i+1),by omega,rfl,hlt,p'⟩,λx H' y=>?_⟩
  obtain⟨e,y⟩:=y;subst e;exact hs i x σ _ (y xs q) p
 ·have e:i=xs.length:=by omega
  subst e;exact .inl ⟨⟨xs,q,gn _⟩,hd σ H p⟩
theorem yQ {lo:Int}{n:Nat}{g:TG}{tb:TS}{D:Ends}{σ:St}{H:Hp}(Pv:Nat->St->Hp->Prop)(h0:Pv 0 σ H)
  (hs:∀i σ H,i < n->Pv i σ H->g (.int (lo+i)) σ H λσ2 H2=>tb { D with nx:=Pv (i+1),ct:=Pv (i+1),bk:=D.nx } σ2 H2) (hd:∀σ H,Pv n σ H->D.nx σ H) :
  ∃W:Nat->Nat->St->Hp->Prop,(∃m,W 0 m σ H)/\∀i m σ H,W i m σ H ->
   ((Itr lo n).stop i H/\D.nx σ H)\/((Itr lo n).go i H/\∃N:St->Hp->Prop,(∀σ' H',N σ' H'->∃m',m' < m/\W (i+1) m' σ' H')/\∀x H',(Itr lo n).yld i H x H'->g x σ H' λσ2 H2=>tb { D with nx:=N,ct:=N,bk:=D.nx } σ2 H2):=by
 refine⟨λi m σ H=>m=n - i/\i<=n/\Pv i σ H,⟨n,by simp,Sl _,h0⟩,?_⟩
 rintro i m σ H ⟨rfl,hi,p⟩
 by_cases hlt:i < n
 ·refine .inr ⟨hlt,Pv (i+1),λσ' H' p'=>⟨n - (i+1),by omega,rfl,hlt,p'⟩,λx H' y=>?_⟩
  obtain⟨e,y⟩:=y;subst e y;exact hs i σ _ hlt p
 ·have e:i=n:=by omega
  subst e;exact .inl ⟨gn _,hd σ H p⟩
abbrev R2:=V->V->Hp->VK->Prop
def OpR (X:Cx)(f:Value->Value->Sem Value)(r:R2):Prop :=
 ∀(pins:List (Addr×Obj)) (s:Shared) (σ:St) (H:Hp) (x y:V) (v u:Value) (Q:VK),Inv X pins σ H s->RelV x v->RelV y u->r x y H Q ->
  wpAny (model X.prog X.w) X.A (f v u) (EP X pins σ Q) X.xe s
def UnR (X:Cx)(f:Value->Sem Value)(r:V->Hp->VK->Prop):Prop :=
 ∀(pins:List (Addr×Obj)) (s:Shared) (σ:St) (H:Hp) (x:V) (v:Value) (Q:VK),Inv X pins σ H s->RelV x v->r x H Q ->
  wpAny (model X.prog X.w) X.A (f v) (EP X pins σ Q) X.xe s
def gS (X:Cx)(f:Value)(r:List V->Hp->VK->Prop):Prop :=
 ∀(pins:List (Addr×Obj)) (s:Shared) (σ:St) (H:Hp) (xs:List V) (us:List Value) (Q:VK),Inv X pins σ H s->Vals xs us->r xs H Q ->
  wpAny (model X.prog X.w) X.A (call f us) (EP X pins σ Q) X.xe s
def QJ (X:Cx)(r:V->Hp->(Bool->Hp->Prop)->Prop):Prop :=
 ∀(pins:List (Addr×Obj)) (s:Shared) (σ:St) (H:Hp) (x:V) (v:Value) (Q:Bool->Hp->Prop),Inv X pins σ H s->RelV x v->r x H Q ->
  wpAny (model X.prog X.w) X.A (truthy v) (TP X pins σ Q) X.xe s
def tOp (r:R2)(ta tb:TE):TE:=λσ H Q=>ta σ H λx H1=>tb σ H1 λy H2=>r x y H2 Q
def tUn (r:V->Hp->VK->Prop)(ta:TE):TE:=λσ H Q=>ta σ H λx H1=>r x H1 Q
def rI (C:Int->Int->Prop)(g:Int->Int->V):R2:=λx y H Q=>∃i j,x=.int i/\y=.int j/\C i j/\Q (g i j) H
def rI0 (g:Int->Int->V):R2:=λx y H Q=>∃i j,x=.int i/\y=.int j/\Q (g i j) H
def rU (g:Int->V):V->Hp->VK->Prop:=λx H Q=>∃i,x=.int i/\Q (g i) H
section
variable{X:Cx}{a b c:Expr}{ta tb tc:TE}{pos:Pos}
theorem Mx (ha:PE X a ta)(hb:PE X b tb){pins:List (Addr×Obj)}{s:Shared}{σ:St}{H:Hp}{R:V->V->Hp->Prop}(I:Inv X pins σ H s)
  (h:ta σ H λx H1=>tb σ H1 λy H2=>R x y H2) {Q:Value->Shared->Prop} {f:Value->Value->Sem Value}
  (hf:∀v u s2 x y H2,Inv X pins σ H2 s2->RelV x v->RelV y u->R x y H2->wpAny (model X.prog X.w) X.A (f v u) Q X.xe s2) :
  wpAny (model X.prog X.w) X.A (eval a X.env) (λv s₁=>wpAny (model X.prog X.w) X.A (eval b X.env) (λu s₂=>wpAny (model X.prog X.w) X.A (f v u) Q X.xe s₂) X.xe s₁) X.xe s:=by
 refine thn (ha pins s σ H _ I h) λv s1 ⟨x,H1,I1,r1,q1⟩=>?_
 refine thn (hb pins s1 σ H1 _ I1 q1) λu s2 ⟨y,H2,I2,r2,q2⟩=>?_
 exact hf v u s2 x y H2 I2 r1 r2 q2
theorem aW {op:Operator}{r:R2}(ho:OpR X (binaryOp op) r)(ha:PE X a ta)(hb:PE X b tb):PE X (.BinOp a op b pos) (tOp r ta tb):=by
 intro pins s σ H Q I h;exact wpAny_BinOp (Mx ha hb I h λv u s2 x y H2 I2 rx ry q=>ho pins s2 σ H2 x y v u Q I2 rx ry q)
theorem kM {op:UnaryOp}{r:V->Hp->VK->Prop}(ho:UnR X (unaryOp op) r)(ha:PE X a ta):PE X (.UnaryOp op a pos) (tUn r ta):=by
 intro pins s σ H Q I h;exact UnaryOp_ (thn (ha pins s σ H _ I h) λv s1 ⟨x,H1,I1,r1,q1⟩=>ho pins s1 σ H1 x v Q I1 r1 q1)
theorem opI {f:Value->Value->Sem Value}{C:Int->Int->Prop}{g:Int->Int->Int}
  (rule:∀(i j:Int) (t u:Tok) (s:Shared) (Q:Value->Shared->Prop) (E:Value->Shared->Prop),C i j->Q (.int (g i j) s.toks) { s with toks:=s.toks+1 }->wpAny (model X.prog X.w) X.A (f (.int i t) (.int j u)) Q E s) :
  OpR X f (rI C λi j=>.int (g i j)):=by
 intro pins s σ H x y v u Q I rx ry h;obtain⟨i,j,rfl,rfl,hc,q⟩:=h;obtain⟨t,rfl⟩:=rx;obtain⟨t',rfl⟩:=ry;exact rule i j t t' s _ _ hc ⟨.int (g i j),H,I.tok _,⟨_,rfl⟩,q⟩
theorem OC {f:Value->Value->Sem Value}{g:Int->Int->Int}
  (rule:∀(i j:Int) (t u:Tok) (s:Shared) (Q:Value->Shared->Prop) (E:Value->Shared->Prop),Q (.int (g i j) s.toks) { s with toks:=s.toks+1 }->wpAny (model X.prog X.w) X.A (f (.int i t) (.int j u)) Q E s) :
  OpR X f (rI0 λi j=>.int (g i j)):=by
 intro pins s σ H x y v u Q I rx ry h;obtain⟨i,j,rfl,rfl,q⟩:=h;obtain⟨t,rfl⟩:=rx;obtain⟨t',rfl⟩:=ry;exact rule i j t t' s _ _ ⟨.int (g i j),H,I.tok _,⟨_,rfl⟩,q⟩
theorem Kc {f:Value->Value->Sem Value}{g:Int->Int->Bool}
  (rule:∀(i j:Int) (t u:Tok) (s:Shared) (Q:Value->Shared->Prop) (E:Value->Shared->Prop),Q (.bool (g i j)) s->wpAny (model X.prog X.w) X.A (f (.int i t) (.int j u)) Q E s) :
  OpR X f (rI0 λi j=>.bl (g i j)):=by
 intro pins s σ H x y v u Q I rx ry h;obtain⟨i,j,rfl,rfl,q⟩:=h;obtain⟨t,rfl⟩:=rx;obtain⟨t',rfl⟩:=ry;exact rule i j t t' s _ _ ⟨.bl (g i j),H,I,rfl,q⟩
def QK (i j:Int):Prop:=0 < j/\j < 1073741824
def QL (i j:Int):Prop:=0<=j/\j<=1000000/\i.natAbs < 2 ^ 64
def Mz (i j:Int):Prop:=(-(2 ^ 64) < i/\i < 2 ^ 64)\/(-(2 ^ 64) < j/\j < 2 ^ 64)
theorem Mz.ok {i j:Int}(h:Mz i j):IntMulOk i j:=by
 rcases h with ⟨h1,h2⟩ | ⟨h1,h2⟩
 ·exact .of_left (intBits_le_64 h1 h2)
 ·exact .of_right (intBits_le_64 h1 h2)
theorem cF:OpR X (binaryOp .Add) (rI0 λi j=>.int (i+j)):=OC λ_ _ _ _ _ _ _ q=>add_int q
theorem i3:OpR X (binaryOp .Sub) (rI0 λi j=>.int (i - j)):=OC λ_ _ _ _ _ _ _ q=>sub_int q
theorem sJ:OpR X (binaryOp .Mult) (rI Mz λi j=>.int (i * j)):=opI λ_ _ _ _ _ _ _ hc q=>mul_int q hc.ok
theorem bU:OpR X (binaryOp .FloorDiv) (rI QK λi j=>.int (i / j)):=opI λi j _ _ _ _ _ hc q=>by
 have h1:(0:Int) < j:=hc.1;have h2:j < 1073741824:=hc.2;exact floordiv_int (by omega) (by rw[Int.fdiv_eq_ediv_of_nonneg i (by omega)];exact q) (.inl (PyProof.noPylong_small (by omega)))
theorem bH:OpR X (binaryOp .Mod) (rI (λ_ j=>0 < j) λi j=>.int (i % j)):=opI λi j _ _ _ _ _ hc q=>by
 have h1:(0:Int) < j:=hc;exact mod_int' (by omega) (by rw[Int.fmod_eq_emod_of_nonneg i (by omega)];exact q)
theorem MA:OpR X (binaryOp .Pow) (rI QL λi j=>.int (i ^ j.toNat)):=opI λ_ _ _ _ _ _ _ hc q=>pow_int_small hc.1 hc.2.1 hc.2.2 q
theorem unI {f:Value->Sem Value}{g:Int->Int}
  (rule:∀(i:Int) (t:Tok) (s:Shared) (Q:Value->Shared->Prop) (E:Value->Shared->Prop),Q (.int (g i) s.toks) { s with toks:=s.toks+1 }->wpAny (model X.prog X.w) X.A (f (.int i t)) Q E s) :
  UnR X f (rU λi=>.int (g i)):=by
 intro pins s σ H x v Q I rx h;obtain⟨i,rfl,q⟩:=h;obtain⟨t,rfl⟩:=rx;exact rule i t s _ _ ⟨.int (g i),H,I.tok _,⟨_,rfl⟩,q⟩
theorem gi:UnR X (unaryOp .USub) (rU λi=>.int (-i)):=unI λ_ _ _ _ _ q=>neg_int q
end
def OD:V->V->Bool
 | .non,.non=>true | .non,.int _=>true | .int _,.non=>true | .non,.bl _=>true | .bl _,.non=>true | .non,.str _=>true | .str _,.non=>true
 | .int _,.int _=>true | .bl _,.bl _=>true | .str _,.str _=>true | .byt _,.byt _=>true
 | .int _,.str _=>true | .str _,.int _=>true | .bl _,.str _=>true | .str _,.bl _=>true
 |_,_=>false
def rEq:R2:=λx y H Q=>OD x y=true/\Q (.bl (decide (x=y))) H
def rNe:R2:=λx y H Q=>OD x y=true/\Q (.bl (!decide (x=y))) H
theorem E4 {i j:Int}:decide (V.int i=V.int j)=(i == j):=by
 rw[Bool.eq_iff_iff];simp
theorem Hg {i j:Bool}:decide (V.bl i=V.bl j)=(i == j):=by
 rw[Bool.eq_iff_iff];simp
theorem E5 {i j:Str}:decide (V.str i=V.str j)=(i == j):=by
 rw[Bool.eq_iff_iff];simp
theorem E6 {i j:Array UInt8}:decide (V.byt i=V.byt j)=(i.toList == j.toList):=by
 rw[Bool.eq_iff_iff];cases i;cases j;simp
section
variable{X:Cx}{a b c:Expr}{ta tb tc:TE}{pos:Pos}
theorem bR {pins:List (Addr×Obj)}{σ:St}{H:Hp}{s:Shared}{Q:VK}{k k':Bool}(I:Inv X pins σ H s)(q:Q (.bl k) H)(e:k=k'):EP X pins σ Q (.bool k') s:=by
 subst e;exact⟨.bl k,H,I,rfl,q⟩
theorem bf:OpR X (SH .Eq) rEq:=by
 intro pins s σ H x y v u Q I rx ry h;obtain⟨hs,q⟩:=h;cases x with
 |non =>
  cases rx;cases y with
  |non=>cases ry;exact PySem.EqNone.eq_none_none (bR I q (by simp))
  |bl j=>cases ry;exact PySem.EqNone.eq_none_bool (bR I q (by simp))
  |int j=>obtain⟨t',rfl⟩:=ry;exact PySem.EqNone.eq_none_int (bR I q (by simp))
  |str j=>obtain⟨t',rfl⟩:=ry;exact PySem.EqNone.eq_none_str (bR I q (by simp))
  |_=>exact absurd (show false=true from hs) kj
 |bl i =>
  cases rx;cases y with
  |non=>cases ry;exact PySem.EqNone.eq_bool_none (bR I q (by simp))
  |bl j=>cases ry;exact eq_bool (bR I q Hg)
  |str j=>obtain⟨t',rfl⟩:=ry;exact PySem.EqMixed.eq_bool_str (bR I q (by simp))
  |_=>exact absurd (show false=true from hs) kj
 |int i =>
  obtain⟨t,rfl⟩:=rx;cases y with
  |non=>cases ry;exact PySem.EqNone.eq_int_none (bR I q (by simp))
  |int j=>obtain⟨t',rfl⟩:=ry;exact eq_int (bR I q E4)
  |str j=>obtain⟨t',rfl⟩:=ry;exact PySem.EqMixed.eq_int_str (bR I q (by simp))
  |_=>exact absurd (show false=true from hs) kj
 |str i =>
  obtain⟨t,rfl⟩:=rx;cases y with
  |non=>cases ry;exact PySem.EqNone.eq_str_none (bR I q (by simp))
  |bl j=>cases ry;exact PySem.EqMixed.eq_str_bool (bR I q (by simp))
  |int j=>obtain⟨t',rfl⟩:=ry;exact PySem.EqMixed.eq_str_int (bR I q (by simp))
  |str j=>obtain⟨t',rfl⟩:=ry;exact eq_str (bR I q E5)
  |_=>exact absurd (show false=true from hs) kj
 |byt i =>
  obtain⟨t,rfl⟩:=rx;cases y with
  |byt j=>obtain⟨t',rfl⟩:=ry;exact PySem.W.eq_bytes (bR I q E6)
  |_=>exact absurd (show false=true from hs) kj
 |_=>cases y <;> exact absurd (show false=true from hs) kj
theorem um:OpR X (SH .NotEq) rNe:=by
 intro pins s σ H x y v u Q I rx ry h;obtain⟨hs,q⟩:=h;cases x with
 |non =>
  cases rx;cases y with
  |non=>cases ry;exact PySem.EqNone.ne_none_none (bR I q (by simp))
  |bl j=>cases ry;exact PySem.EqNone.ne_none_bool (bR I q (by simp))
  |int j=>obtain⟨t',rfl⟩:=ry;exact PySem.EqNone.ne_none_int (bR I q (by simp))
  |str j=>obtain⟨t',rfl⟩:=ry;exact PySem.EqNone.ne_none_str (bR I q (by simp))
  |_=>exact absurd (show false=true from hs) kj
 |bl i =>
  cases rx;cases y with
  |non=>cases ry;exact PySem.EqNone.ne_bool_none (bR I q (by simp))
  |bl j=>cases ry;exact ne_bool (bR I q (congrArg not Hg))
  |str j=>obtain⟨t',rfl⟩:=ry;exact PySem.EqMixed.ne_bool_str (bR I q (by simp))
  |_=>exact absurd (show false=true from hs) kj
 |int i =>
  obtain⟨t,rfl⟩:=rx;cases y with
  |non=>cases ry;exact PySem.EqNone.ne_int_none (bR I q (by simp))
  |int j=>obtain⟨t',rfl⟩:=ry;exact ne_int (bR I q (congrArg not E4))
  |str j=>obtain⟨t',rfl⟩:=ry;exact PySem.EqMixed.ne_int_str (bR I q (by simp))
  |_=>exact absurd (show false=true from hs) kj
 |str i =>
  obtain⟨t,rfl⟩:=rx;cases y with
  |non=>cases ry;exact PySem.EqNone.ne_str_none (bR I q (by simp))
  |bl j=>cases ry;exact PySem.EqMixed.ne_str_bool (bR I q (by simp))
  |int j=>obtain⟨t',rfl⟩:=ry;exact PySem.EqMixed.ne_str_int (bR I q (by simp))
  |str j=>obtain⟨t',rfl⟩:=ry;exact ne_str (bR I q (congrArg not E5))
  |_=>exact absurd (show false=true from hs) kj
 |byt i =>
  obtain⟨t,rfl⟩:=rx;cases y with
  |byt j=>obtain⟨t',rfl⟩:=ry;exact PySem.W.ne_bytes (bR I q (congrArg not E6))
  |_=>exact absurd (show false=true from hs) kj
 |_=>cases y <;> exact absurd (show false=true from hs) kj
theorem nh:OpR X (SH .Lt) (rI0 λi j=>.bl (decide (i < j))):=Kc λ_ _ _ _ _ _ _ q=>lt_int q
theorem q5:OpR X (SH .LtE) (rI0 λi j=>.bl (decide (i<=j))):=Kc λ_ _ _ _ _ _ _ q=>le_int q
theorem yR:OpR X (SH .Gt) (rI0 λi j=>.bl (decide (j < i))):=Kc λ_ _ _ _ _ _ _ q=>gt_int q
theorem LV:OpR X (SH .GtE) (rI0 λi j=>.bl (decide (j<=i))):=Kc λ_ _ _ _ _ _ _ q=>ge_int q
theorem Kd:OpR X (SH .IsNot) (λx y H Q=>y=.non/\Q (.bl (!decide (x=.non))) H):=by
 intro pins s σ H x y v u Q I rx ry h;obtain⟨rfl,q⟩:=h;cases ry;refine isnot_none_gen (bR I q ?_);cases x <;> first
  | (cases rx;rfl)
  | (obtain⟨t,rfl⟩:=rx;rfl)
theorem OpR.or {f:Value->Value->Sem Value}{r r':R2}(h:OpR X f r)(h':OpR X f r'):OpR X f (λx y H Q=>r x y H Q\/r' x y H Q):=by
 intro pins s σ H x y v u Q I rx ry q;rcases q with q | q
 ·exact h pins s σ H x y v u Q I rx ry q
 ·exact h' pins s σ H x y v u Q I rx ry q
theorem aN (b:Expr){op:CmpOp}(h:op≠.In:=by decide)(h2:op≠.NotIn:=by decide):behindInMarks op b=false:=by
 have e1:(op == CmpOp.In)=false:=by cases op <;> first | rfl | exact absurd rfl h
 have e2:(op == CmpOp.NotIn)=false:=by cases op <;> first | rfl | exact absurd rfl h2
 cases b <;> simp[behindInMarks,e1,e2]
theorem gO {op:CmpOp}{r:R2}(ho:OpR X (SH op) r)(ha:PE X a ta)(hb:PE X b tb)(hm:behindInMarks op b=false):PE X (.Compare a [op] [b] pos) (tOp r ta tb):=by
 intro pins s σ H Q I h;exact wpAny_Compare1 (Mx ha hb I h λv u s2 x y H2 I2 rx ry q=>ho pins s2 σ H2 x y v u Q I2 rx ry q) hm
def OE (t:TE):TT:=λσ H Q=>t σ H λx H'=>∃k,x=.bl k/\Q k H'
theorem aC {op:CmpOp}{r:R2}(ho:OpR X (SH op) r)(ha:PE X a ta)(hb:PE X b tb)(hm:behindInMarks op b=false):PT X (.Compare a [op] [b] pos) (OE (tOp r ta tb)):=by
 intro pins s σ H Q I h;refine wpAny_isTrue_Compare1 (thn (ha pins s σ H _ I h) λv s1 ⟨x,H1,I1,r1,q1⟩=>thn (hb pins s1 σ H1 _ I1 q1) λu s2 ⟨y,H2,I2,r2,q2⟩ =>
  thn (ho pins s2 σ H2 x y v u _ I2 r1 r2 q2) λc s3 ⟨z,H3,I3,r3,k,e,q3⟩=>?_) hm
 subst e;cases r3;exact wpAny_truthy_bool ⟨H3,I3,q3⟩
def MB (r r':R2)(ta tb tc:TE):TE:=λσ H Q=>ta σ H λx H1=>tb σ H1 λy H2=>r x y H2 λz H3=>∃k,z=.bl k /\
 (if k=true then tc σ H3 λw' H4=>r' y w' H4 Q else Q (.bl false) H3)
theorem vE {op op':CmpOp}{r r':R2}(ho:OpR X (SH op) r)(ho':OpR X (SH op') r')(ha:PE X a ta)(hb:PE X b tb)(hc:PE X c tc)
  (hm:lastMarks [op,op'] [b,c]=false:=by with_unfolding_all rfl):PE X (.Compare a [op,op'] [b,c] pos) (MB r r' ta tb tc):=by
 intro pins s σ H Q I h;refine Compare_chain (thn (ha pins s σ H _ I h) λv s1 ⟨x,H1,I1,r1,q1⟩=>chain_link (thn (hb pins s1 σ H1 _ I1 q1) λu s2 ⟨y,H2,I2,r2,q2⟩ =>
  thn (ho pins s2 σ H2 x y v u _ I2 r1 r2 q2) λd s3 ⟨z,H3,I3,r3,k,e,q3⟩=>?_)) hm
 subst e;cases r3;refine wpAny_truthy_bool ?_;cases k with
 |false=>exact ite_ff ⟨.bl false,H3,I3,rfl,q3⟩
 |true=>exact ite_tt (chain_last (thn (hc pins s3 σ H3 _ I3 q3) λw' s4 ⟨z',H4,I4,r4,q4⟩=>ho' pins s4 σ H4 y z' u w' Q I4 r2 r4 q4))
def OF (K:bo)(x:V)(H:Hp)(k:Bool):Prop :=
 match x with
 | .non=>k=false
 | .bl b=>k=b
 | .int i=>k=(i != 0)
 | .str y=>y.length<=fe/\k=((y.length:Int) != 0)
 | .byt y=>y.size<=fe/\k=((y.size:Int) != 0)
 | .ref p=>(∃xs,SqL K H p xs/\k=!xs.isEmpty)\/(∃xs,SqT K H p xs/\k=!xs.isEmpty)\/∃kvs,H p=some (.dK kvs)/\k=!kvs.isEmpty
 |_=>False
theorem Dv {κ:Type}{kvs:List (κ×V)}{vs:List (κ×Value)}(r:KV kvs vs):(!vs.isEmpty)=!kvs.isEmpty:=by
 cases r <;> rfl
theorem vF {xs:List V}{its:List Value}(r:Vals xs its):(!its.toArray.isEmpty)=!xs.isEmpty:=by
 cases r <;> simp
theorem qi:(fe:Nat) < 2 ^ 63:=by rw[sizeLine_eq];decide
theorem MC:QJ X (λx H Q=>∃k,OF X.K x H k/\Q k H):=by
 intro pins s σ H x v Q I rx h;obtain⟨k,e,q⟩:=h;have hl:=qi;have hs:fe=16777216:=sizeLine_eq;cases x with
 |non =>
  cases rx;have e':k=false:=e;subst e';exact truthy_none ⟨H,I,q⟩
 |bl b =>
  cases rx;have e':k=b:=e;subst e';exact wpAny_truthy_bool ⟨H,I,q⟩
 |int i =>
  obtain⟨t,rfl⟩:=rx;have e':k=(i != 0):=e;subst e';exact PySem.P.truthy_int ⟨H,I,q⟩
 |str y =>
  obtain⟨t,rfl⟩:=rx;obtain⟨hy,e'⟩:y.length<=fe/\k=((y.length:Int) != 0):=e;subst e';exact PySem.P.truthy_str (by omega) ⟨H,I.tok _,q⟩
 |byt y =>
  obtain⟨t,rfl⟩:=rx;obtain⟨hy,e'⟩:y.size<=fe/\k=((y.size:Int) != 0):=e;subst e';exact PySem.W.truthy_bytes (by omega) ⟨H,I.tok _,q⟩
 |ref p =>
  cases rx;have e':(∃xs,SqL X.K H p xs/\k=!xs.isEmpty)\/(∃xs,SqT X.K H p xs/\k=!xs.isEmpty)\/∃kvs,H p=some (.dK kvs)/\k=!kvs.isEmpty:=e;rcases e' with ⟨xs,hx,e'⟩ | ⟨xs,hx,e'⟩ | ⟨kvs,hx,e'⟩
  ·subst e';obtain⟨its,r,pl,hz⟩:=I.list hx;have hlen:=r.length;exact wpAny_truthy_list pl.isList (by simp only[kf];omega) ⟨H,I.tok _,by rw[vF r];exact q⟩
  ·subst e';obtain⟨its,r,pl,hz⟩:=I.tuple hx;have hlen:=r.length;exact truthy_tuple pl (by simp only[kf];omega) ⟨H,I.tok _,by rw[vF r];exact q⟩
  ·subst e';obtain⟨hz,hS,vs,r,m⟩:kvs.length<=fe/\(p == Ti)=false/\∃vs,KV kvs vs/\s.heap.DictOf (b8 X.prog X.w) p vs:=I.hok p _ hx;have hlen:kvs.length=vs.length:=Paired.length r;exact wpAny_truthy_dict hS m (by omega) ⟨H,I.tok _,by rw[Dv r];exact q⟩
 |_=>exact(show False from e).elim
theorem ni (ha:PE X a ta)(he:∀whole,isTrue a X.env whole=(do let v <-whole;standAt a.pos;holding [v] (truthy v))) :
  PT X a (λσ H Q=>ta σ H λx H'=>∃k,OF X.K x H' k/\Q k H'):=by
 intro pins s σ H Q I h;exact isTrue_plain (thn (ha pins s σ H _ I h) λv s1 ⟨x,H1,I1,r1,q1⟩=>MC pins s1 σ H1 x v Q I1 r1 q1) (he _)
theorem Dw:OpR X (binaryOp .Add) (λx y H Q=>∃i j,x=.str i/\y=.str j/\i.length+j.length<=fe/\Q (.str (i++j)) H):=by
 intro pins s σ H x y v u Q I rx ry h;obtain⟨i,j,rfl,rfl,hz,q⟩:=h;obtain⟨t,rfl⟩:=rx;obtain⟨t',rfl⟩:=ry;exact add_str (λt' tk=>⟨.str (i++j),H,I.tok _,⟨_,rfl⟩,q⟩) hz
theorem vals1 {x:V}{us:List Value}(r:Vals [x] us):∃u,us=[u]/\RelV x u:=by
 cases r with
 |cons r1 r2=>cases r2;exact⟨_,rfl,r1⟩
theorem vals2 {x y:V}{us:List Value}(r:Vals [x,y] us):∃u w',us=[u,w']/\RelV x u/\RelV y w':=by
 cases r with
 |cons r1 r2 =>
  cases r2 with
  |cons r3 r4=>cases r4;exact⟨_,_,rfl,r1,r3⟩
theorem oO (hc:X.calm=true):gS X (.builtin "max") (λxs H Q=>∃i j,xs=[.int i,.int j]/\Q (.int (if j > i then j else i)) H):=by
 intro pins s σ H xs us Q I r h;obtain⟨i,j,rfl,q⟩:=h;obtain⟨u,w',rfl,⟨t,rfl⟩,⟨t',rfl⟩⟩:=vals2 r;refine max_two_ints (I.ok.hd hc) λh' tk k=>⟨_,H,I.kept k,?_,q⟩
 by_cases hj:j > i
 ·rw[if_pos hj,if_pos hj];exact⟨_,rfl⟩
 ·rw[if_neg hj,if_neg hj];exact⟨_,rfl⟩
theorem yS:gS X (.type "int") (λxs H Q=>(∃i,xs=[.int i]/\Q (.int i) H)\/∃k,xs=[.bl k]/\Q (.int (if k then 1 else 0)) H):=by
 intro pins s σ H xs us Q I r h;rcases h with ⟨i,rfl,q⟩ | ⟨k,rfl,q⟩
 ·obtain⟨u,rfl,t,rfl⟩:=vals1 r;exact call_int_int ⟨.int i,H,I,⟨_,rfl⟩,q⟩
 ·obtain⟨u,rfl,r1⟩:=vals1 r;cases r1;exact call_int_bool ⟨.int (if k then 1 else 0),H,I.tok _,⟨_,rfl⟩,q⟩
theorem iL:gS X (.type "str") (λxs H Q=>∃i,xs=[.int i]/\i.natAbs.log2 < 1920/\Q (.str (toString i)) H):=by
 intro pins s σ H xs us Q I r h;obtain⟨i,rfl,hz,q⟩:=h;obtain⟨u,rfl,t,rfl⟩:=vals1 r;exact PySem.P.str_of_int hz ⟨.str _,H,I.tok _,⟨_,rfl⟩,q⟩
end
structure Dx (h:Heap)(x dx C:Addr)(mA:Str->Option Value):Prop where
 obj:h.get? x=some (Sm C dx)
 ns:h.Ns1 dx mA
 ne:dx≠x
theorem F7 {h:Heap}{dx:Addr}{mA:Str->Option Value}(n:h.Ns1 dx mA):∃od,h.get? dx=some od/\∀name,PySem.W.lookIn name od=some (mA name):=by
 obtain⟨o,es,ep,ho,hd,hk,_,hm⟩:=n;refine⟨o,ho,λname=>?_⟩
 have e:=hm name;unfold nsFind findBy at e;rw[<-Array.find?_toList]at e;unfold PySem.W.lookIn;rw[hd];dsimp only;split
 ·rename_i y q;rw[q]at e;exact congrArg some e
 ·rename_i q;rw[q]at e;have a:es.toList.any (·.refKey)=false:=by
   rw[List.any_eq_false];intro y hy;obtain⟨z,t,QM⟩:=hk y (Array.mem_toList_iff.mp hy);simp[DictEntry.refKey,QM]
  have a':¬es.toList.any (·.refKey)=true:=by rw[a];exact kj
  rw[if_neg a'];exact congrArg some e
theorem Dx.look {h:Heap}{x dx C:Addr}{mA:Str->Option Value}(I:Dx h x dx C mA):∃od,PySem.W.InstAt h x (Sm C dx) C (some od)/\∀name,PySem.W.lookIn name od=some (mA name) :=
 let ⟨od,ho,hl⟩:=F7 I.ns
 ⟨od,⟨I.obj,rfl,rfl,ho⟩,hl⟩
section
variable{prog:kr}{w:World}{A:Around}{E:Value->Shared->Prop}{s:Shared}{K:bo}{x dx C f:Addr}{mA:Str->Option Value}{name:Str}{v:Value}
theorem get_map {expr:Bool}{Q:Value->Shared->Prop}(X:K.In s.heap)(I:Dx s.heap x dx C mA)(hg:PySem.W.plainGet K C name=true)(hh:PySem.W.hasDictIn K C=true)
  (ha:RU K (.ref C) name=some none) (hv:mA name=some v) (hv':PySem.W.handedIn v=true) (h:Q v { s with toks:=s.toks+1 }) :
  wpAny (model prog w) A (getAttr (.ref x) name expr) Q E s:=by
 obtain⟨od,J,hl⟩:=I.look;exact PySem.W.get_value X J (PySem.W.plainGet_of hg).1 (PySem.W.findObj_own hh ha rfl (by rw[hl,hv])) hv' h
theorem Hh {pl:Sem Bool}{Q:Value×List Value->Shared->Prop}(X:K.In s.heap)(I:Dx s.heap x dx C mA)(hg:PySem.W.plainGet K C name=true)
  (hf:RU K (.ref C) name=some (some (.ref f))) (ht:PySem.W.isFn K (.ref f)=true) (hv:mA name=none) (h:Q (.ref f,[.ref x]) s) :
  wpAny (model prog w) A (getMethod (.ref x) name pl) Q E s:=by
 obtain⟨od,J,hl⟩:=I.look;exact PySem.W.method_fn X J (PySem.W.plainGet_of hg).1 (PySem.W.plainGet_of hg).2 hf (beq_iff_eq.mp ht) (by show (PySem.W.lookIn name od).map (·.isSome)=some false;rw[hl,hv];rfl) h
theorem Ke {ns:List Str}{Q:Unit->Shared->Prop}(X:K.In s.heap)(I:Dx s.heap x dx C mA)
  (hs:RU K (.ref C) "__setattr__"=some (some (.builtin "object.__setattr__"))) (hp:PySem.W.plainOver K C=true) (ht:PySem.W.takerIn K C name=some none) (hh:PySem.W.hasDictIn K C=true)
  (hw:PySem.Within mA ns) (hsz:ns.length<=fe)
  (h:∀h',Dx h' x dx C (λy=>if y=name then some v else mA y)->Heap.SameBut dx s.heap h'->Q () { s with heap:=h',toks:=s.toks+2 }) :
  wpAny (model prog w) A (setAttr (.ref x) name v) Q E s:=by
 obtain⟨od,J,hl⟩:=I.look;refine PySem.W.set_plain X J hs (PySem.W.osa_open (s:={ s with toks:=s.toks+1 }) (r:=none) X J hp ht λb=>?_)
 obtain⟨cd,hc,hd'⟩:=PySem.W.any_some hh;have hx:s.heap.get? x=some ⟨.ref C,some dx,.plain,#[]⟩:=I.obj;refine cb (me (cb (cb (wpAny_loadPart hx (cb (PySem.W.Looks.here (s:={ s with toks:=s.toks+1 }) (PySem.W.looks_clsIn X hc) ?_))))))
 rw[hd'];refine me (a:=some dx) (cb (me (cb ?_)));refine wpAny_nsSet1 (s:={ s with toks:=s.toks+1 }) I.ns λh' hn2 hs2=>?_
 obtain⟨oD,esD,epD,hoD,hdD,hcD⟩:=hn2.count (PySem.Within.cons name v hw);refine cb (wpAny_lookBehind hoD (by rw[hdD];exact pastItsLine_dict (ku hcD (by rw[rf];omega))) ?_)
 exact me (h _ ⟨(hs2.2 _ (R4 I.ne)).trans I.obj,hn2,I.ne⟩ hs2)
theorem Hi {R:Result->Shared->Prop}{vs:List Value}{kw:List (Str×Value)}(X:K.In s.heap)(hm:PySem.W.makesIn K C=true)
  (hi:RU K (.ref C) "__init__"=some (some (.ref f))) (hf:PySem.W.typeIn K (.ref f)=some (.type "function"))
  (h:codeAny (model prog w) (A.under (.builtin "type.__call__" ⟨.ref C::vs,kw⟩)) (.call (.ref f) ⟨.ref (s.heap.objs.size+1)::vs,kw⟩) (PySem.W.InitBack (s.heap.objs.size+1) R)
   { s with heap:=(s.heap.push Si).push (Sm C s.heap.objs.size) }) :
  codeAny (model prog w) A (.call (.ref C) ⟨vs,kw⟩) R s:=by
 obtain⟨hh,g,d,t,os⟩:=s;exact PySem.W.make_core (PySem.W.makes_of X hm) (PySem.W.looks_findIn X hi) (λself=>PySem.W.bind_fn X self hf) (.inl rfl) h
end
def dW (f:Str)(v:V):List (Str×V)->List (Str×V)
 |[]=>[(f,v)]
 | (g,x)::r=>if g=f then (g,v)::r else (g,x)::dW f v r
theorem uo (f g:Str)(v:V):∀fs:List (Str×V),(dW f v fs).lookup g=if g=f then some v else fs.lookup g
 |[]=>by
  show Sv g [(f,v)]=_
  by_cases h:g=f
  ·have hb:(g == f)=true:=beq_iff_eq.mpr h;simp only[Sv,hb,if_pos h]
  ·have hb:(g == f)=false:=beq_eq_false_iff_ne.mpr h;simp only[Sv,hb,if_neg h]
 | (k,x)::r=>by
  have ih:=uo f g v r;rw[show dW f v ((k,x)::r)=(if k=f then (k,v)::r else (k,x)::dW f v r) from rfl]
  by_cases hk:k=f
  ·rw[if_pos hk]
   by_cases h:g=k
   ·have hb:(g == k)=true:=beq_iff_eq.mpr h;simp only[Sv,hb,if_pos (h.trans hk)]
   ·have hb:(g == k)=false:=beq_eq_false_iff_ne.mpr h;simp only[Sv,hb,if_neg (λe:g=f=>h (e.trans hk.symm))]
  ·rw[if_neg hk]
   by_cases h:g=k
   ·have hb:(g == k)=true:=beq_iff_eq.mpr h;simp only[Sv,hb,if_neg (λe:g=f=>hk (h.symm.trans e))]
   ·have hb:(g == k)=false:=beq_eq_false_iff_ne.mpr h;simp only[Sv,hb];exact ih
theorem sL (f:Str)(v:V):∀fs:List (Str×V),f∈(dW f v fs).map (·.1)/\∀g,g∈fs.map (·.1)->g∈(dW f v fs).map (·.1)
 |[]=>⟨by simp[dW],λg h=>by simp at h⟩
 | (k,x)::r=>by
  obtain⟨i1,i2⟩:=sL f v r;rw[show dW f v ((k,x)::r)=(if k=f then (k,v)::r else (k,x)::dW f v r) from rfl]
  by_cases hk:k=f
  ·rw[if_pos hk];subst hk;exact⟨by simp,λg h=>by simpa using h⟩
  ·rw[if_neg hk];refine⟨?_,λg h=>?_⟩
   ·rw[gr];exact km _ i1
   ·rw[gr]at h ⊢;rcases List.mem_cons.mp h with e | e
    ·exact List.mem_cons.mpr (.inl e)
    ·exact km _ (i2 g e)
theorem uq (f:Str)(v:V):∀fs:List (Str×V),(dW f v fs).length<=fs.length+1
 |[]=>by simp[dW]
 | (k,x)::r=>by
  have ih:=uq f v r;rw[show dW f v ((k,x)::r)=(if k=f then (k,v)::r else (k,x)::dW f v r) from rfl]
  by_cases hk:k=f
  ·rw[if_pos hk,rf,rf];omega
  ·rw[if_neg hk,rf,rf];omega
theorem l5.some_of {v:V}{o:Option Value}(r:l5 (some v) o):∃u,o=some u/\RelV v u:=by
 cases o with
 |none=>exact(show False from r).elim
 |some u=>exact⟨u,rfl,r⟩
theorem l5.none_of {o:Option Value}(r:l5 none o):o=none:=by
 cases o with
 |none=>rfl
 |some u=>exact(show False from r).elim
theorem F8 {v:V}{u:Value}(r:RelV v u):PySem.W.handedIn u=true:=by
 cases v with
 |non=>cases (show u=Tp from r);rfl
 |bl b=>cases (show u=Tq b from r);rfl
 |int i=>obtain⟨t,e⟩:=(show ∃t,u=Value.int i t from r);cases e;rfl
 |str x=>obtain⟨t,e⟩:=(show ∃t,u=Value.str x t from r);cases e;rfl
 |byt b=>obtain⟨t,e⟩:=(show ∃t,u=Value.bytes b t from r);cases e;rfl
 |flt b=>obtain⟨t,e⟩:=(show ∃t,u=Value.float b t from r);cases e;rfl
 |ref a=>cases (show u=RZ a from r);rfl
 |ty n=>cases (show u=Value.type n from r);rfl
section
variable{P:kr}{w:World}{H H':Hp}{h h':Heap}{a C dx:Addr}{fs fs':List (Str×V)}
theorem Ag (hok:HOk P w H h)(e:H a=some (.ins C dx fs)):∃mA,Dx h a dx C mA/\(∀f,l5 (fs.lookup f) (mA f))/\PySem.Within mA (fs.map (·.1))/\fs.length<=1000/\H dx=some (.own a):=by
 obtain⟨d,z,ne,ob,mA,n,r,q⟩:=(show dO P w H h a (.ins C dx fs) from hok a _ e)
 exact⟨mA,⟨ob,n,ne⟩,r,q,z,d⟩
end
structure Cls (K:bo)(C:Addr):Prop where
 pg:PySem.W.plainGet K C SI=true
 hd:PySem.W.hasDictIn K C=true
 po:PySem.W.plainOver K C=true
 sa:RU K (.ref C) "__setattr__"=some (some (.builtin "object.__setattr__"))
theorem Cls.get {K:bo}{C:Addr}(c:Cls K C)(f:Str):PySem.W.plainGet K C f=true:=c.pg
def cn (K:bo)(C:Addr)(f:Str):Prop:=RU K (.ref C) f=some none
theorem cn.OG {K:bo}{C:Addr}{f:Str}(n:cn K C f):PySem.W.takerIn K C f=some none:=by
 unfold PySem.W.takerIn;rw[show RU K (.ref C) f=some none from n]
 rfl
structure Con (K:bo)(C:Addr)(f:Str)(v:V)(u:Value):Prop where
 at_:RU K (.ref C) f=some (some u)
 rel:RelV v u
 get:PySem.W.specialIn K u "__get__"=some none
 cp:PySem.W.copiedNames.contains f=false
structure Meth (K:bo)(C:Addr)(m:Str)(f:Addr):Prop where
 at_:RU K (.ref C) m=some (some (.ref f))
 fn:PySem.W.isFn K (.ref f)=true
 kp:Tr K (.ref f)=true
section
variable{X:Cx}{pins:List (Addr×Obj)}{σ:St}{H:Hp}{s:Shared}{a C dx:Addr}{fs:List (Str×V)}{f:Str}{v:V}{A:Around}{E:Value->Shared->Prop}
theorem Dy {b:Bool}{Q:Value->Shared->Prop}(I:Inv X pins σ H s)(e:H a=some (.ins C dx fs))(c:Cls X.K C)(n:cn X.K C f)(l:fs.lookup f=some v)
  (h:∀u s',Inv X pins σ H s'->RelV v u->Q u s'):wpAny (model X.prog X.w) A (getAttr (.ref a) f b) Q E s:=by
 obtain⟨mA,O,r,_,_,_⟩:=Ag I.hok e;obtain⟨u,hu,ru⟩:=l5.some_of (v:=v) (o:=mA f) (by rw[<-l];exact r f)
 exact get_map I.kIn O (c.get f) c.hd n hu (F8 ru) (h u _ (I.tok _) ru)
theorem gj {m:Str}{g:Addr}{pl:Sem Bool}{Q:Value×List Value->Shared->Prop}(I:Inv X pins σ H s)(e:H a=some (.ins C dx fs))(c:Cls X.K C)(k:Meth X.K C m g)(l:fs.lookup m=none)
  (h:Q (.ref g,[.ref a]) s):wpAny (model X.prog X.w) A (getMethod (.ref a) m pl) Q E s:=by
 obtain⟨mA,O,r,_,_,_⟩:=Ag I.hok e;have hn:mA m=none:=l5.none_of (by rw[<-l];exact r m)
 exact Hh I.kIn O (c.get m) k.at_ k.fn hn h
theorem Dz {y:V}{u:Value}{Q:Unit->Shared->Prop}(I:Inv X pins σ H s)(e:H a=some (.ins C dx fs))(c:Cls X.K C)(n:cn X.K C f)(hl:fs.length < 1000)(ry:RelV y u)
  (h:∀s',Inv X pins σ (upd H a (.ins C dx (dW f y fs))) s'->Q () s'):wpAny (model X.prog X.w) A (setAttr (.ref a) f u) Q E s:=by
 obtain⟨mA,O,r,wi,_,ho⟩:=Ag I.hok e;have hz:(fs.map (·.1)).length<=fe:=by rw[ba,sizeLine_eq];omega
 refine Ke I.kIn O c.sa c.po n.OG c.hd wi hz λh' O' sb=>h _ ?_
 have hd:∃o,h'.get? dx=some o:=let ⟨o,_,_,e',_⟩:=O'.ns;⟨o,e'⟩
 refine I.write (x:=a) (e:=dx) (by rw[e];exact Ts) (.inr ho) (λb q hb z=>(sb.2 b hb).trans z) hd ?_
 refine⟨by rw[ao O.ne];exact ho,?_,O.ne,O'.obj,_,O'.ns,λg=>?_,λg hg=>?_⟩
 ·have:=uq f y fs;omega
 ·show l5 ((dW f y fs).lookup g) (if g=f then some u else mA g)
  rw[uo]
  by_cases q:g=f
  ·rw[if_pos q,if_pos q];exact ry
  ·rw[if_neg q,if_neg q];exact r g
 ·by_cases q:g=f
  ·rw[q];exact(sL f y fs).1
  ·refine(sL f y fs).2 g (wi g λz=>hg ?_)
   show (if g=f then some u else mA g)=none
   rw[if_neg q];exact z
theorem Inv.made (I:Inv X pins σ H s):Inv X pins σ (upd (upd H s.heap.objs.size (.own (s.heap.objs.size+1))) (s.heap.objs.size+1) (.ins C s.heap.objs.size []))
  { s with heap:=(s.heap.push Si).push (Sm C s.heap.objs.size) }:=by
 have e1:(s.heap.push Si).get? s.heap.objs.size=some Si:=wt s.heap rfl;have e2:((s.heap.push Si).push (Sm C s.heap.objs.size)).get? (s.heap.objs.size+1)=some (Sm C s.heap.objs.size):=by
  have:=wt (s.heap.push Si) (o:=Sm C s.heap.objs.size) rfl
  rwa [Tt]at this
 have e3:(s.heap.push Si).Ns s.heap.objs.size (λ_=>none):=⟨Si,#[],_,e1,rfl,(λe he=>absurd he (by simp)),λ_=>rfl⟩
 have I1:=I.laid (a:=s.heap.objs.size) (o:=.own (s.heap.objs.size+1)) (h':=s.heap.push Si) (t':=s.toks) (λb u q=>da _ q) (gn _) ⟨_,e1⟩
 refine I1.laid (a:=s.heap.objs.size+1) (o:=.ins C s.heap.objs.size []) (t':=s.toks) (λb u q=>da _ q) (Nat.le_of_eq (Tt _ _)) ?_
 have ne:s.heap.objs.size≠s.heap.objs.size+1:=wa (TN _);refine⟨by rw[ao ne,ae],Sl _,ne,e2,λ_=>none,(Heap.Ns1.of_empty e3).at λo q=>da _ q,λ_=>Ts,λy hy=>absurd rfl hy⟩
theorem Kf {prog:kr}{w:World}{env:Env}{e:Expr}{f:Str}{pos:Pos}{s:Shared}{Q:Value->Shared->Prop}(hb:attributeBase e f env (eval e env)=eval e env)
  (h:wpAny (model prog w) A (eval e env) (λo s₁=>wpAny (model prog w) A (getAttr o f true) Q E s₁) E s):wpAny (model prog w) A (eval (.Attribute e f pos) env) Q E s :=
 Attribute_any_ h (by rw[arm_eval_Attribute,hb])
end
def OH (K:bo)(ta:TE)(f:Str):TE:=λσ H Q=>ta σ H λx H1=>∃a C dx fs v,x=.ref a/\H1 a=some (.ins C dx fs)/\Cls K C/\cn K C f/\fs.lookup f=some v/\Q v H1
def QN (K:bo)(ta tv:TE)(f:Str):TS:=λD σ H=>tv σ H λy H1=>ta σ H1 λx H2=>∃a C dx fs,x=.ref a/\H2 a=some (.ins C dx fs)/\Cls K C/\cn K C f/\fs.length < 1000 /\
 D.nx σ (upd H2 a (.ins C dx (dW f y fs)))
section
variable{X:Cx}{o e value:Expr}{f:Str}{pos pos' QO:Pos}{ta tv:TE}
theorem a9 (he:PE X e ta)(hb:attributeBase e f X.env (eval e X.env)=eval e X.env):PE X (.Attribute e f pos) (OH X.K ta f):=by
 intro pins s σ H Q I h;refine Kf hb (thn (he pins s σ H _ I h) λu s1 ⟨x,H1,I1,rx,a,C,dx,fs,v,ex,ea,c,n,l,q⟩=>?_)
 subst ex;obtain rfl:u=RZ a:=rx;exact Dy I1 ea c n l λu' s2 I2 ru=>⟨v,H1,I2,ru,q⟩
theorem cZ (ha:PE X o ta)(hv:PE X value tv)(hs:swapsWith value (some (.Attribute o f pos')) pos.line X.env=pure false):PS X (.Assign [.Attribute o f pos'] value pos) (QN X.K ta tv f):=by
 intro pins s σ H D I h;refine plainObj_wpAny_Assign_Attribute (thn (hv pins s σ H _ I h) λu s1 ⟨y,H1,I1,ry,q⟩=>thn (ha pins s1 σ H1 _ I1 q) λov s2 ⟨x,H2,I2,rx,a,C,dx,fs,ex,ea,c,n,l,q2⟩=>?_) hs
 subst ex;obtain rfl:ov=RZ a:=rx;exact Dz I2 ea c n l ry λs3 I3=>⟨σ,_,I3,q2⟩
theorem LW {pl:Sem Bool}{m:Str}{apos:Pos}{args:List Expr}{pins:List (Addr×Obj)}{s:Shared}{σ:St}{H:Hp}{Q:Value->Shared->Prop}{te:TE}(he:PE X e te)(I:Inv X pins σ H s)
  (h:te σ H λx H1=>∃a C dx fs g,x=.ref a/\H1 a=some (.ins C dx fs)/\Cls X.K C/\Meth X.K C m g/\fs.lookup m=none /\
   ∀s1,Inv X pins σ H1 s1->wpAny (model X.prog X.w) X.A (callWith pos (.ref g) [.ref a] (backTo pos (Lk args X.env)) (backToKw pos (keywordEach [] X.env))) Q X.xe s1)
  (ht:eval (.Call (.Attribute e m apos) args [] pos) X.env=(do
   let ov <-eval e X.env
   standAt apos.atName
   let (f,first) <-holding [ov] (getMethod ov m pl)
   callWith pos f first (backTo pos (Lk args X.env)) (backToKw pos (keywordEach [] X.env)))) :
  wpAny (model X.prog X.w) X.A (eval (.Call (.Attribute e m apos) args [] pos) X.env) Q X.xe s:=by
 refine SJ (pl:=pl) (thn (he pins s σ H _ I h) λu s1 ⟨x,H1,I1,rx,a,C,dx,fs,g,ex,ea,c,k,l,q⟩=>?_) ht
 subst ex;obtain rfl:u=RZ a:=rx;exact gj I1 ea c k l (q s1 I1)
end
section
variable{X:Cx}{pins:List (Addr×Obj)}{σ:St}{H:Hp}{s:Shared}{A:Around}{E:Value->Shared->Prop}{Q:Value->Shared->Prop}{c:Value}{b:Bool}
inductive vG (K:bo)(H:Hp):V->Value->Prop where
 |non:vG K H .non (.type "NoneType")
 |bl (x:Bool):vG K H (.bl x) (.type "bool")
 |int (i:Int):vG K H (.int i) (.type "int")
 |str (x:Str):vG K H (.str x) (.type "str")
 |flt (x:UInt64):vG K H (.flt x) (.type "float")
 |lst {a:Addr} {xs:List V} (e:H a=some (.lst xs)):vG K H (.ref a) (.type "list")
 |frz {a:Addr} {o:Obj} {xs:List V} (e:H a=some (.frz o (.lst xs))):vG K H (.ref a) (.type "list")
 |tup {a:Addr} {xs:List V} (e:H a=some (.tup xs)):vG K H (.ref a) (.type "tuple")
 |dK {a:Addr} {kvs:List (Key×V)} (e:H a=some (.dK kvs)):vG K H (.ref a) (.type "dict")
 |dT {a:Addr} {kvs:List (List Key×V)} (e:H a=some (.dT kvs)):vG K H (.ref a) (.type "dict")
 |ins {a C dx:Addr} {fs:List (Str×V)} (e:H a=some (.ins C dx fs)) (cl:Cls K C) (ha:RU K (.ref C) "__class__"=some (some (.builtin "object.__class__")))
   (hn:PySem.W.specialIn K (.builtin "object.__class__") "__get__"=some (some (.builtin "getset_descriptor.__get__"))) (htk:PySem.W.takesIn K (.builtin "object.__class__")=some true)
   (hm:TV K C (.type "object")=some true):vG K H (.ref a) (.ref C)
end
structure Room (k:Nat)(A:Around):Prop where
 hd:A.handled=none
 dp:A.depth+3 * k+5 < recursionLimit
 un:A.units+16 * k+200 < cLine
 gd:A.guards=some []
theorem Room.mono {j k:Nat}{A:Around}(r:Room k A)(h:j<=k):Room j A:=⟨r.hd,by have:=r.dp;omega,by have:=r.un;omega,r.gd⟩
theorem Room.deeper {k:Nat}{A:Around}(r:Room (k+1) A)(env:Env):Room k (A.deeper env) :=
 ⟨r.hd,by have:=r.dp;show A.depth+1+3 * k+5 < _;omega,by have:=r.un;show A.units+3+16 * k+200 < _;omega,r.gd⟩
theorem Room.in1 {k:Nat}{A:Around}(r:Room (k+1) A):Room k A.in1 :=
 ⟨r.hd,by have:=r.dp;show A.depth+3 * k+5 < _;omega,by have:=r.un;show A.units+1+16 * k+200 < _;omega,r.gd⟩
theorem DA {A:Around}{C:Addr}{us:List Value}{kw:List (Str×Value)}:(A.under (.builtin "type.__call__" ⟨.ref C::us,kw⟩)).depth=A.depth+1:=by
 first | rfl | simp[Around.under,Code.weight,Code.isCreation,Code.isGuard,Code.isCaller,Code.frames,Code.isFrame,guardIds]
theorem DB {A:Around}{C:Addr}{us:List Value}{kw:List (Str×Value)}:(A.under (.builtin "type.__call__" ⟨.ref C::us,kw⟩)).units=A.units+1:=by
 first | rfl | simp[Around.under,Code.cUnits,Code.frames,Code.isFrame]
theorem Room.make {k:Nat}{A:Around}(r:Room (k+1) A)(C:Addr)(us:List Value)(kw:List (Str×Value)):Room k (A.under (.builtin "type.__call__" ⟨.ref C::us,kw⟩)) :=
 ⟨r.hd,by have:=r.dp;rw[DA];omega,by have:=r.un;rw[DB];omega,by
  have g:=r.gd
  first | exact g | simp[Around.under,Code.guards,Code.isGuard,guardIds,pushGuards,g]⟩
theorem Room.depth {k:Nat}{A:Around}(r:Room k A):A.depth < recursionLimit:=by have:=r.dp;omega
theorem Room.units {k:Nat}{A:Around}(r:Room k A):A.units+64 < cLine:=by have:=r.un;omega
def MD:TA:=λ_ H Q=>Q [] H
def OI (ta:TE)(tr:TA):TA:=λσ H Q=>ta σ H λx H1=>tr σ H1 λxs H2=>Q (x::xs) H2
section
variable{X:Cx}{e:Expr}{es:List Expr}{te:TE}{t:TA}{pos:Pos}
theorem af:PA X [] MD:=λ_ _ _ _ H Q I h=>Calls.spliced_nil ⟨[],H,I,.nil,h⟩
theorem aa (ha:PE X e te)(hr:PA X es t)(hs:Lk (e::es) X.env=(false,eval e X.env)::Lk es X.env:=by rfl):PA X (e::es) (OI te t):=by
 intro pos pins s σ H Q I h;rw[hs];show wpAny _ _ (spliced ((false,eval e X.env)::backTo pos (Lk es X.env))) _ _ s;refine Calls.spliced_cons (thn (ha pins s σ H _ I h) λu s1 ⟨x,H1,I1,r1,q1⟩=>?_)
 exact thn (hr pos pins s1 σ H1 _ I1 q1) λus s2 ⟨xs,H2,I2,r2,q2⟩=>⟨x::xs,H2,I2,.cons r1 r2,q2⟩
def QP (t:TA):TE:=λσ H Q=>t σ H λxs H1=>xs.length<=fe/\∀p,H1 p=none->Q (.ref p) (upd H1 p (.tup xs))
def QQ (t:TA):TE:=λσ H Q=>t σ H λxs H1=>xs.length<=fe/\∀p,H1 p=none->Q (.ref p) (upd H1 p (.lst xs))
theorem a8 {x1}(h:PA X es t):PE X (.Tuple es x1 pos) (QP t):=by
 intro pins s σ H Q I hq;refine wpAny_Tuple_spliced (thn (h pos pins s σ H _ I hq) λus s1 ⟨xs,H1,I1,r,z,q⟩=>⟨by rw[<-r.length];exact z,?_⟩)
 have hf:H1 s1.heap.objs.size=none:=I1.hok.fresh (gn _);refine⟨.ref s1.heap.objs.size,upd H1 s1.heap.objs.size (.tup xs),I1.laid (t':=s1.toks) (λb u e=>da _ e) (gn _) ?_,rfl,q _ hf⟩
 exact⟨z,us,r,⟨_,wt _ rfl,rfl,_,rfl⟩⟩
theorem bq (h:PA X es t):PE X (.List es pos) (QQ t):=by
 intro pins s σ H Q I hq;refine wpAny_List_spliced (thn (h pos pins s σ H _ I hq) λus s1 ⟨xs,H1,I1,r,z,q⟩=>⟨by rw[<-r.length];exact z,?_⟩)
 have hf:H1 s1.heap.objs.size=none:=I1.hok.fresh (gn _);refine⟨.ref s1.heap.objs.size,upd H1 s1.heap.objs.size (.lst xs),I1.laid (t':=s1.toks) (λb u e=>da _ e) (gn _) ?_,rfl,q _ hf⟩
 exact⟨z,us,0,r,wt _ rfl⟩
end
abbrev Sp:=List V->Hp->VK->XK->Prop
abbrev CXT:=List Env->Hp->Shared->XK->Value->Shared->Prop
structure vH (P:kr)(w:World)(K:bo)(mg:Str->Option Value)(base:Heap)(A:Around)(outer:List Env)(s:Shared)(H:Hp):Prop where
 frames:A.frames=some outer
 mod:Mod K mg base
 bs:∀b o,base.get? b=some o->s.heap.get? b=some o/\H b=none
 bsz:base.objs.size<=s.heap.objs.size
 pD:s.heap.FunFrames base outer
 frf:∀b∈frs outer,H b=none
 hok:HOk P w H s.heap
 bare:AllBare s.gens
def CE (outer:List Env)(P:kr)(w:World)(H:Hp)(s:Shared)(Q:VK)(u:Value)(s':Shared):Prop :=
 ∃v H',s'.os=s.os/\AllBare s'.gens/\Un (frs outer) [] H H' s.heap s'.heap/\HOk P w H' s'.heap/\RelV v u/\Q v H'
def CR (CX:CXT)(outer:List Env)(P:kr)(w:World)(H:Hp)(s:Shared)(Q:VK)(E:XK)(r:Result)(s':Shared):Prop :=
 match r with
 | .ok (.ret u)=>CE outer P w H s Q u s'
 | .ok _=>False
 | .error e=>CX outer H s E e s'
structure aX (P:kr)(w:World)(K:bo)(mg:Str->Option Value)(base:Heap)(CX:CXT)(k:Nat)(f:Addr)(fd:fi)(ps:List Str)(sp:Sp):Prop where
 len:∀vs H Q E,sp vs H Q E->vs.length=ps.length
 run:∀(A:Around) (outer:List Env) (s:Shared) (H:Hp) (args:Args) (us:List Value) (vs:List V) (Q:VK) (E:XK),Room k A->vH P w K mg base A outer s H->BindsTo s fd args (ps.zip us)->Vals vs us->sp vs H Q E ->
  codeAny (model P w) A (.call (.ref f) args) (CR CX outer P w H s Q E) s
theorem aX.mono {P:kr}{w:World}{K:bo}{mg:Str->Option Value}{base:Heap}{CX:CXT}{j k:Nat}{f:Addr}{fd:fi}{ps:List Str}{sp:Sp}(F:aX P w K mg base CX j f fd ps sp)(h:j<=k) :
  aX P w K mg base CX k f fd ps sp:=⟨F.len,λA outer s H args us vs Q E hr=>F.run A outer s H args us vs Q E (hr.mono h)⟩
theorem aX.imp {P:kr}{w:World}{K:bo}{mg:Str->Option Value}{base:Heap}{CX:CXT}{k:Nat}{f:Addr}{fd:fi}{ps:List Str}{sp sp':Sp}(F:aX P w K mg base CX k f fd ps sp)
  (h:∀vs H Q E,sp' vs H Q E->sp vs H Q E):aX P w K mg base CX k f fd ps sp' :=
 ⟨λvs H Q E q=>F.len vs H Q E (h _ _ _ _ q),λA outer s H args us vs Q E hr he hb hv hs=>F.run A outer s H args us vs Q E hr he hb hv (h _ _ _ _ hs)⟩
theorem vH.make {P:kr}{w:World}{K:bo}{mg:Str->Option Value}{base:Heap}{A:Around}{outer:List Env}{s:Shared}{H:Hp}(e:vH P w K mg base A outer s H)(C:Addr)(us:List Value)(kw:List (Str×Value)) :
  vH P w K mg base (A.under (.builtin "type.__call__" ⟨.ref C::us,kw⟩)) outer s H:=⟨by first | exact e.frames | (simpa [Around.under,Code.envs,Code.isFrame,pushEnvs] using e.frames),e.mod,e.bs,e.bsz,e.pD,e.frf,e.hok,e.bare⟩
theorem vH.in1 {P:kr}{w:World}{K:bo}{mg:Str->Option Value}{base:Heap}{A:Around}{outer:List Env}{s:Shared}{H:Hp}(e:vH P w K mg base A outer s H) :
  vH P w K mg base A.in1 outer s H:=⟨e.frames,e.mod,e.bs,e.bsz,e.pD,e.frf,e.hok,e.bare⟩
section
variable{X:Cx}{pins:List (Addr×Obj)}{σ:St}{H:Hp}{s s':Shared}
theorem Inv.Kg (I:Inv X pins σ H s):vH X.prog X.w X.K X.mg X.base X.A X.stack s H :=
 ⟨I.ok.frames,I.ok.mod,I.bs,ku I.ok.bsz I.sz,I.stack,I.vg,I.hok,I.bare⟩
theorem Inv.after {Q:VK}{u:Value}(I:Inv X pins σ H s)(h:CE X.stack X.prog X.w H s Q u s'):EP X pins σ Q u s':=by
 obtain⟨v,H',os,bare,un,hok,r,q⟩:=h;obtain⟨hh,g,d,t,os'⟩:=s';obtain rfl:os'=s.os:=os;exact⟨v,H',I.call (h':=hh) (g':=g) (d':=d) (t':=t) (ch:=[]) un hok bare (λb z=>absurd z (by simp)),r,q⟩
end
def LX (sp:Sp)(dvs:List V)(E:XK)(t:TA):TE:=λσ H Q=>t σ H λvs H1=>sp (vs++dvs) H1 Q E
def LY (C:Addr)(m:Str)(sp:Sp)(dvs:List V)(E:XK)(ta:TE)(t:TA):TE:=λσ H Q=>ta σ H λx H1=>∃a dx fs,x=.ref a/\H1 a=some (.ins C dx fs)/\fs.lookup m=none /\
 t σ H1 λvs H2=>sp (x::(vs++dvs)) H2 Q E
def OJ (C:Addr)(sp:Sp)(dvs:List V)(E:XK)(t:TA):TE:=λσ H Q=>t σ H λvs H1=>∀x dx,H1 x=none->H1 dx=none->dx≠x ->
 sp (.ref x::(vs++dvs)) (upd (upd H1 dx (.own x)) x (.ins C dx [])) (λv H2=>v=.non/\Q (.ref x) H2) E
def Binds (K:bo)(fd:fi)(ps:List Str)(ds:List Value):Prop :=
 ∀(s:Shared) (us:List Value),K.In s.heap->(us++ds).length=ps.length->BindsTo s fd ⟨us,[]⟩ (ps.zip (us++ds))
theorem Binds.all {K:bo}{fd:fi}{ps:List Str}(h:∀us:List Value,us.length=ps.length->bindArgs fd ⟨us,[]⟩=pure (ps.zip us)):Binds K fd ps []:=λs us _ hl=>by
 rw[S6]at hl ⊢;exact .of_eq (h us hl)
def Passes (CX:CXT)(X:Cx)(E:XK):Prop:=∀(pins:List (Addr×Obj)) (σ:St) (H:Hp) (s:Shared) (e:Value) (s':Shared),Inv X pins σ H s->CX X.stack H s E e s'->X.xe e s'
section
variable{X:Cx}{CX:CXT}{k:Nat}{f C:Addr}{fd:fi}{ps:List Str}{sp:Sp}{dvs:List V}{ds:List Value}{E:XK}{x m:Str}{p pos apos:Pos}{e o:Expr}{es:List Expr}{ta:TE}{t:TA}
theorem vI {pins:List (Addr×Obj)}{σ:St}{H:Hp}{s:Shared}{Q:VK}{us:List Value}{vs:List V}(F:aX X.prog X.w X.K X.mg X.base CX k f fd ps sp)(hr:Room k X.A)(hb:Binds X.K fd ps ds)(hd:Vals dvs ds)(hx:Passes CX X E)
  (I:Inv X pins σ H s) (r:Vals vs us) (h:sp (vs++dvs) H Q E):wpAny (model X.prog X.w) X.A (call (.ref f) us) (EP X pins σ Q) X.xe s:=by
 have r2:Vals (vs++dvs) (us++ds):=r.append hd;have hl:(us++ds).length=ps.length:=by rw[<-r2.length];exact F.len _ _ _ _ h
 refine wpAny_call (codeAny_mono (F.run X.A X.stack s H ⟨us,[]⟩ (us++ds) (vs++dvs) Q E hr I.Kg (hb s us I.kIn hl) r2 h) λr s' hq=>?_)
 cases r with
 |error e=>exact hx pins σ H s e s' I hq
 |ok fl =>
  cases fl with
  |ret u=>exact I.after hq
  |next=>exact Sb hq
  |brk=>exact Sb hq
  |cont=>exact Sb hq
theorem aU (F:aX X.prog X.w X.K X.mg X.base CX k f fd ps sp)(hr:Room k X.A)(hg:Gl X x)(hm:X.mg x=some (.ref f))(hk:Tr X.K (.ref f)=true)(hb:Binds X.K fd ps ds)(hd:Vals dvs ds)(hx:Passes CX X E)
  (ha:PA X (e::es) t) (hdb:(x == ("__debug__":Str))=false:=by decide) (he:Lk (e::es) X.env=(false,eval e X.env)::Lk es X.env:=by rfl) (hpl:(backTo pos (Lk es X.env)).any (·.1)=false:=by rfl) :
  PE X (.Call (.Name x p) (e::es) [] pos) (LX sp dvs E t):=by
 intro pins s σ H Q I h;refine wpAny_Call_Name_kw (fG I hg hm ?_ hdb);refine TQ (h₀:=X.base) I.ok.mod.kin hk (thn (ha pos pins s σ H _ I h) λus s1 ⟨vs,H1,I1,r,q⟩=>⟨I1.kIn,?_⟩) he hpl
 exact vI F hr hb hd hx I1 r q
theorem BA (F:aX X.prog X.w X.K X.mg X.base CX k f fd ps sp)(hr:Room k X.A)(hg:Gl X x)(hm:X.mg x=some (.ref f))(hk:Tr X.K (.ref f)=true)(hb:Binds X.K fd ps ds)(hd:Vals dvs ds)(hx:Passes CX X E)
  (hdb:(x == ("__debug__":Str))=false:=by decide):PE X (.Call (.Name x p) [] [] pos) (LX sp dvs E MD):=by
 intro pins s σ H Q I h;refine wpAny_Call_Name_kw (fG I hg hm ?_ hdb);exact TM I.kIn hk (vI (us:=[]) F hr hb hd hx I .nil h)
theorem fH {pl:Sem Bool}(he:PE X o ta)(c:Cls X.K C)(hm:Meth X.K C m f)(F:aX X.prog X.w X.K X.mg X.base CX k f fd ps sp)(hr:Room k X.A)(hb:Binds X.K fd ps ds)(hd:Vals dvs ds)(hx:Passes CX X E)(ha:PA X (e::es) t)
  (hst:Lk (e::es) X.env=(false,eval e X.env)::Lk es X.env:=by rfl) (hpl:(backTo pos (Lk es X.env)).any (·.1)=false:=by rfl)
  (ht:eval (.Call (.Attribute o m apos) (e::es) [] pos) X.env=(do
   let ov <-eval o X.env
   standAt apos.atName
   let (f,first) <-holding [ov] (getMethod ov m pl)
   callWith pos f first (backTo pos (Lk (e::es) X.env)) (backToKw pos (keywordEach [] X.env))):=by rfl) :
  PE X (.Call (.Attribute o m apos) (e::es) [] pos) (LY C m sp dvs E ta t):=by
 intro pins s σ H Q I h;refine SJ (pl:=pl) (thn (he pins s σ H _ I h) λu s1 ⟨x,H1,I1,rx,a,dx,fs,ex,ea,l,q⟩=>?_) ht
 subst ex;obtain rfl:u=RZ a:=rx;refine gj I1 ea c hm l ?_;refine TQ (first:=[.ref a]) (h₀:=X.base) I.ok.mod.kin hm.kp (thn (ha pos pins s1 σ H1 _ I1 q) λus s2 ⟨vs,H2,I2,r,q2⟩=>⟨I2.kIn,?_⟩) hst hpl
 exact vI (us:=.ref a::us) (vs:=.ref a::vs) F hr hb hd hx I2 (.cons rfl r) q2
theorem cA {pl:Sem Bool}(he:PE X o ta)(c:Cls X.K C)(hm:Meth X.K C m f)(F:aX X.prog X.w X.K X.mg X.base CX k f fd ps sp)(hr:Room k X.A)(hb:Binds X.K fd ps ds)(hd:Vals dvs ds)(hx:Passes CX X E)
  (ht:eval (.Call (.Attribute o m apos) [] [] pos) X.env=(do
   let ov <-eval o X.env
   standAt apos.atName
   let (f,first) <-holding [ov] (getMethod ov m pl)
   callWith pos f first (backTo pos (Lk [] X.env)) (backToKw pos (keywordEach [] X.env))):=by rfl) :
  PE X (.Call (.Attribute o m apos) [] [] pos) (LY C m sp dvs E ta MD):=by
 intro pins s σ H Q I h;refine SJ (pl:=pl) (thn (he pins s σ H _ I h) λu s1 ⟨x,H1,I1,rx,a,dx,fs,ex,ea,l,q⟩=>?_) ht
 subst ex;obtain rfl:u=RZ a:=rx;refine gj I1 ea c hm l ?_;exact TM (first:=[.ref a]) I1.kIn hm.kp (vI (us:=[.ref a]) (vs:=[.ref a]) F hr hb hd hx I1 (.cons rfl .nil) q)
structure Mk (K:bo)(C f:Addr):Prop where
 makes:PySem.W.makesIn K C=true
 init:RU K (.ref C) "__init__"=some (some (.ref f))
 fn:PySem.W.isFn K (.ref f)=true
 kp:Tr K (.ref C)=true
theorem Hk {pins:List (Addr×Obj)}{σ:St}{H:Hp}{s:Shared}{Q:VK}{us:List Value}{vs:List V}(M:Mk X.K C f)(F:aX X.prog X.w X.K X.mg X.base CX k f fd ps sp)(hr:Room (k+1) X.A)(hb:Binds X.K fd ps ds)(hd:Vals dvs ds)
  (hx:Passes CX X E) (I:Inv X pins σ H s) (r:Vals vs us)
  (h:∀x dx,H x=none->H dx=none->dx≠x->sp (.ref x::(vs++dvs)) (upd (upd H dx (.own x)) x (.ins C dx [])) (λv H2=>v=.non/\Q (.ref x) H2) E) :
  wpAny (model X.prog X.w) X.A (call (.ref C) us) (EP X pins σ Q) X.xe s:=by
 have hq:=h (s.heap.objs.size+1) s.heap.objs.size (I.hok.fresh (SG _)) (I.hok.fresh (gn _)) (wa (TN _));have I2:=Inv.made (C:=C) I;have r2:Vals (V.ref (s.heap.objs.size+1)::(vs++dvs)) (RZ (s.heap.objs.size+1)::(us++ds)):=.cons rfl (r.append hd);have hl:(RZ (s.heap.objs.size+1)::us++ds).length=ps.length:=by
  have e:=r2.length;rw[F.len _ _ _ _ hq]at e;exact e.symm
 refine wpAny_call (Hi (f:=f) I.kIn M.makes M.init (beq_iff_eq.mp M.fn) (codeAny_mono (F.run _ X.stack _ _ ⟨RZ (s.heap.objs.size+1)::us,[]⟩ (RZ (s.heap.objs.size+1)::(us++ds)) _ _ E (hr.make C us [])
  (I2.Kg.make C us []) (hb _ (RZ (s.heap.objs.size+1)::us) I2.kIn hl) r2 hq) λr s' hq'=>?_))
 cases r with
 |error e=>exact hx pins σ _ _ e s' I2 hq'
 |ok fl =>
  cases fl with
  |ret u =>
   obtain⟨v,H',I3,rv,ev,q3⟩:=I2.after hq';subst ev;exact⟨rv,⟨V.ref (s.heap.objs.size+1),H',I3,rfl,q3⟩⟩
  |next=>exact Sb hq'
  |brk=>exact Sb hq'
  |cont=>exact Sb hq'
theorem dP (M:Mk X.K C f)(F:aX X.prog X.w X.K X.mg X.base CX k f fd ps sp)(hr:Room (k+1) X.A)(hg:Gl X x)(hm:X.mg x=some (.ref C))(hb:Binds X.K fd ps ds)(hd:Vals dvs ds)(hx:Passes CX X E)
  (ha:PA X (e::es) t) (hdb:(x == ("__debug__":Str))=false:=by decide) (he:Lk (e::es) X.env=(false,eval e X.env)::Lk es X.env:=by rfl) (hpl:(backTo pos (Lk es X.env)).any (·.1)=false:=by rfl) :
  PE X (.Call (.Name x p) (e::es) [] pos) (OJ C sp dvs E t):=by
 intro pins s σ H Q I h;refine wpAny_Call_Name_kw (fG I hg hm ?_ hdb);refine TQ (h₀:=X.base) I.ok.mod.kin M.kp (thn (ha pos pins s σ H _ I h) λus s1 ⟨vs,H1,I1,r,q⟩=>⟨I1.kIn,?_⟩) he hpl
 exact Hk M F hr hb hd hx I1 r q
end
section
variable{X:Cx}{CX:CXT}{k:Nat}{f C:Addr}{fd:fi}{ps ks:List Str}{sp:Sp}{E:XK}{x m:Str}{p pos apos RP:Pos}{e o:Expr}{es:List Expr}{kws:List Keyword}{te ta:TE}{t tk:TA}{nm:Option Str}
structure QR (K:bo)(fd:fi)(ps ks:List Str)(g:List Value->List Value->List Value)(gV:List V->List V->List V):Prop where
 to:∀(s:Shared) (us ws:List Value),K.In s.heap->(g us ws).length=ps.length->BindsTo s fd ⟨us,ks.zip ws⟩ (ps.zip (g us ws))
 rel:∀ {vs:List V} {us:List Value} {zs:List V} {ws:List Value},Vals vs us->Vals zs ws->Vals (gV vs zs) (g us ws)
variable{g:List Value->List Value->List Value}{gV:List V->List V->List V}
end
structure aO (N P:List Str)(sc:Scope):Prop where
 kind:sc.kind=.function
 co:sc.isCoroutine=false
 gen:sc.isGenerator=false
 nd:N.Nodup
 pre:N.take P.length=P
 par:∀x∈P,sc.names.lookup x=some .local\/sc.names.lookup x=some .cell
 ME:∀y∈sc.names,y.2≠.free
theorem yT {kindOf:Str->Option NameKind}{x:Str}:∀ {binds:List (Str×Value)} {m:Str->Option Value},(∀v,(x,v)∉binds)->bindL kindOf binds m x=m x
 |[],_,_=>rfl
 | (n,v)::r,m,h=>by
  unfold bindL;rw[yT λw hw=>h w (km _ hw)]
  split
  ·have:x≠n:=by rintro rfl;exact h v eg
   simp[this]
  ·rfl
theorem yU {kindOf:Str->Option NameKind}{x:Str}:∀ {binds:List (Str×Value)} {m:Str->Option Value},(∀v,(x,v)∉binds)->bindC kindOf binds m x=m x
 |[],_,_=>rfl
 | (n,v)::r,m,h=>by
  unfold bindC;rw[yU λw hw=>h w (km _ hw)]
  split
  ·rfl
  ·have:x≠n:=by rintro rfl;exact h v eg
   simp[this]
theorem yV {kindOf:Str->Option NameKind}{x:Str}{v:Value}:∀ {P:List Str} {vs:List Value} {i:Nat} {m:Str->Option Value},P.Nodup->P[i]?=some x->vs[i]?=some v->kindOf x=some .local ->
  bindL kindOf (P.zip vs) m x=some v
 |[],_,_,_,_,h,_,_=>by simp at h
 |_::_,[],_,_,_,_,h,_=>by simp at h
 |p::P,w::vs,0,m,nd,h1,h2,hk=>by
  simp at h1 h2;subst h1;subst h2;show bindL kindOf ((p,w)::P.zip vs) m p=_;unfold bindL;rw[yT λv hv=>(List.nodup_cons.mp nd).1 (List.of_mem_zip hv).1,if_pos hk]
  simp
 |p::P,w::vs,i+1,m,nd,h1,h2,hk=>by
  show bindL kindOf ((p,w)::P.zip vs) m x=_;unfold bindL;exact yV (i:=i) (List.nodup_cons.mp nd).2 (by simpa using h1) (by simpa using h2) hk
theorem yW {kindOf:Str->Option NameKind}{x:Str}{v:Value}:∀ {P:List Str} {vs:List Value} {i:Nat} {m:Str->Option Value},P.Nodup->P[i]?=some x->vs[i]?=some v->kindOf x≠some .local ->
  bindC kindOf (P.zip vs) m x=some v
 |[],_,_,_,_,h,_,_=>by simp at h
 |_::_,[],_,_,_,_,h,_=>by simp at h
 |p::P,w::vs,0,m,nd,h1,h2,hk=>by
  simp at h1 h2;subst h1;subst h2;show bindC kindOf ((p,w)::P.zip vs) m p=_;unfold bindC;rw[yU λv hv=>(List.nodup_cons.mp nd).1 (List.of_mem_zip hv).1,if_neg hk]
  simp
 |p::P,w::vs,i+1,m,nd,h1,h2,hk=>by
  show bindC kindOf ((p,w)::P.zip vs) m x=_;unfold bindC;exact yW (i:=i) (List.nodup_cons.mp nd).2 (by simpa using h1) (by simpa using h2) hk
def start (N:List Str)(vs:List V):St:=vs.map some++Tc (N.length - vs.length) none
def bt (CX:CXT)(P:kr)(w:World)(K:bo)(mg:Str->Option Value)(base:Heap)(N:List Str)(qual:Str)(scope:Scope)(f:Addr)(cd:Value)(A:Around)(outer:List Env)(s:Shared)(H:Hp)(E:XK):Cx where
 prog:=P
 w:=w
 K:=K
 mg:=mg
 base:=base
 A:=A.deeper (envOfC qual scope s.heap.objs.size f cd)
 N:=N
 s₀:=s
 H₀:=H
 env:=envOfC qual scope s.heap.objs.size f cd
 outer:=outer
 stack:=envOfC qual scope s.heap.objs.size f cd::outer
 ex:=[]
 calm:=true
 fn:=λ_=>true
 pn:=[]
 xe:=λe s'=>wpAny (model P w) (A.deeper (envOfC qual scope s.heap.objs.size f cd)) (leaving (envOfC qual scope s.heap.objs.size f cd) e) (λ_ s''=>CX outer H s E e s'') (λe' s''=>CX outer H s E e' s'') s'
theorem BB {sc:Scope}{n:Nat}{x:Str}(h:sc.names.lookup x=some .cell):∃c,(cellsFrom n sc.names []).lookup x=some c:=by
 have q:=PySem.W.cellsFrom_some sc.names n [] (.inl h);exact Option.isSome_iff_exists.mp q
theorem F9 {CX:CXT}{P:kr}{w:World}{K:bo}{mg:Str->Option Value}{base:Heap}{N ps:List Str}{qual:Str}{scope:Scope}{f:Addr}{cd:Value}{A:Around}{outer:List Env}{s s1:Shared}{H:Hp}{E:XK}{us:List Value}{vs:List V}
  (S:aO N ps scope) (hd:A.handled=none) (e0:vH P w K mg base A outer s H) (hl:vs.length=ps.length) (r:Vals vs us)
  (x:InCallC s s.heap.objs.size (bindL (envOfC qual scope s.heap.objs.size f cd).kindOf (ps.zip us) λ_=>none) (cellsFrom (s.heap.objs.size+1) scope.names []) (bindC (envOfC qual scope s.heap.objs.size f cd).kindOf (ps.zip us) λ_=>none) s1) :
  Inv (bt CX P w K mg base N qual scope f cd A outer s H E) [] (start N vs) H s1:=by
 have hpl:ps.length<=N.length:=by have:=congrArg List.length S.pre;rw[Sj]at this;omega
 obtain⟨h1,tk,rfl,hk⟩:=x.done;have noA:∀b:Addr,b∉(bt CX P w K mg base N qual scope f cd A outer s H E).ex:=λb z=>absurd (show b∈([]:List Addr) from z) (by simp)
 refine⟨⟨e0.mod,S.kind,rfl,rfl,gn _,λy z c h1 h2=>?_,λy hy=>?_,λy c _ h=>?_,λ_=>hd,Around.frames_deeper e0.frames,.inr ⟨rfl,rfl⟩,λb z=>absurd z (noA b),e0.bs,e0.bsz,λb _ _=>noA b,λb z=>absurd z (noA b),e0.pD,e0.frf⟩,
  rfl,e0.bare,Un.kept hk,⟨_,x.toInCall.ns,λi y v h1 h2 h3=>?_⟩,λy c h=>⟨_,x.cell y c h⟩,e0.hok.fresh (gn _),λy c h=>?_,λp hp=>absurd (show p∈([]:List (Addr×Obj)) from hp) (by simp),e0.hok.kept hk,?_⟩
 ·exact name_of_addr x.apart (S0 h1) (S0 h2)
 ·have hy:scope.names.lookup y=some .cell\/scope.names.lookup y=some .free:=hy;rcases hy with hy | hy
  ·exact BB hy
  ·exact absurd rfl (S.ME _ (S0 hy))
 ·exact Nat.le_of_lt (x.above y c (S0 h))
 ·have hi:i < vs.length:=by
   unfold start at h2
   by_cases hi:i < vs.length
   ·exact hi
   ·rw[Tu (by simpa using hi)]at h2
    rw[List.getElem?_replicate]at h2;split at h2 <;> cases h2
  have ha:vs[i]?=some v:=by
   unfold start at h2;rw[List.getElem?_append_left (by simpa using hi),R0]at h2
   cases e:vs[i]? with
   |none=>rw[e]at h2;cases h2
   |some a=>rw[e]at h2;cases h2;rfl
  obtain⟨u,hu,rv⟩:=r.get ha;have hp:ps[i]?=some y:=by
   rw[<-S.pre,List.getElem?_take_of_lt (by omega)];exact h1
  have ndP:ps.Nodup:=by rw[<-S.pre];exact S.nd.sublist (List.take_sublist _ _)
  refine⟨u,rv,?_⟩;rcases S.par y (RV hp) with k | k
  ·exact .inl ⟨k,yV ndP hp hu k⟩
  ·obtain⟨c,e⟩:=BB (n:=s.heap.objs.size+1) k;refine .inr ⟨.inl k,c,e,?_⟩;have q:=x.cell y c e;rw[yW ndP hp hu (by show scope.names.lookup y≠_;rw[k];decide)]at q
   exact q
 ·exact e0.hok.fresh (Nat.le_of_lt (x.above y c (S0 h)))
 ·unfold start;show _=N.length;rw[ka,ba,SK];omega
theorem LZ {CX:CXT}{P:kr}{w:World}{K:bo}{mg:Str->Option Value}{base:Heap}{k:Nat}{f:Addr}{name qual:Str}{params:Arguments}{body:List Stmt}{scope:Scope}{dV kV doc pm cdv ct oc:Value}{an od:Option Addr}
  {osl:Array (Option Value)} {N ps:List Str} {sp:Sp} (lk:K.lookup f=some ⟨oc,od,.func (PySem.W.fnOf name qual params body scope dV kV doc pm an cdv ct),osl⟩) (hcd:PySem.W.codeIn K cdv qual=true) (S:aO N ps scope)
  (len:∀vs H Q E,sp vs H Q E->vs.length=ps.length)
  (BC:∀(A:Around) (outer:List Env) (s:Shared) (H:Hp) (vs:List V) (Q:VK) (E:XK),Room k (A.deeper (envOfC qual scope s.heap.objs.size f cdv))->sp vs H Q E ->
   ∃t,PSs (bt CX P w K mg base N qual scope f cdv A outer s H E) body t/\t { nx:=λ_ H'=>Q .non H',rt:=Q } (start N vs) H) :
  aX P w K mg base CX (k+1) f (PySem.W.fnOf name qual params body scope dV kV doc pm an cdv ct) ps sp:=by
 refine⟨len,λA outer s H args us vs Q E hr e0 hb r hsp=>?_⟩
 have hl:=len _ _ _ _ hsp;have KX:K.In s.heap:=e0.mod.kin.keeps λb o e=>(e0.bs b o e).1
 have lim:s.heap.NoLimit:=e0.mod.nolimit.keeps λb o e=>(e0.bs b o e).1
 have OK:∀y∈ps.zip us,scope.names.lookup y.1=some .local\/(scope.names.lookup y.1=some .cell/\((cellsFrom (s.heap.objs.size+1) scope.names []).lookup y.1).isSome=true):=λ⟨n,v⟩ hy=>by
  rcases S.par n (List.of_mem_zip hy).1 with q | q
  ·exact .inl q
  ·exact .inr ⟨q,PySem.W.cellsFrom_some _ _ _ (.inl q)⟩
 refine codeAny_call_function hr.depth (KX _ _ lk) rfl S.co S.gen rfl (PySem.W.codeRec_of KX hcd) (hb _ _ _ _ ?_);refine wpAny_newFunctionEnv_cells S.kind OK λenv he s1 x=>?_
 subst he;refine⟨lim.keeps x.toInCall.keep,codeAny_func ?_⟩;obtain⟨t,ht,hq⟩:=BC A outer s H vs Q E (hr.deeper _) hsp;have I:Inv (bt CX P w K mg base N qual scope f cdv A outer s H E) [] (start N vs) H s1:=F9 S hr.hd e0 hl r x;refine om (ht [] s1 (start N vs) H _ I hq) (λfl s' hs=>?_) λe s' hs=>hs
 have fin:∀ {σ':St} {H':Hp} {v:V} {u:Value},Inv (bt CX P w K mg base N qual scope f cdv A outer s H E) [] σ' H' s'->RelV v u->Q v H'->CE outer P w H s Q u s' :=
  λ{σ' H' v u} J rv q=>⟨v,H',J.os,J.bare,J.base,J.hok,rv,q⟩
 cases fl with
 |ret u =>
  obtain⟨v,σ',H',J,rv,q⟩:=hs;exact fin J rv q
 |next =>
  obtain⟨σ',H',J,q⟩:=hs;exact fin (v:=V.non) (u:=Tp) J rfl q
 |brk =>
  obtain⟨_,_,_,q⟩:=hs;exact Sb q
 |cont =>
  obtain⟨_,_,_,q⟩:=hs;exact Sb q
section
variable{X:Cx}{x:Str}{p pos:Pos}{e:Expr}{es:List Expr}{t:TA}{id T:String}{r:List V->Hp->VK->Prop}
def tCB (r:List V->Hp->VK->Prop)(t:TA):TE:=λσ H Q=>t σ H λvs H1=>r vs H1 Q
theorem bQ (hc:gS X (.builtin id) r)(hg:Gl X x)(hm:X.mg x=none)(hv:SR x=some (.builtin id))(ha:PA X (e::es) t)(hn:x≠"__name__":=by decide)(hdb:(x == ("__debug__":Str))=false:=by decide)
  (he:Lk (e::es) X.env=(false,eval e X.env)::Lk es X.env:=by rfl) (hpl:(backTo pos (Lk es X.env)).any (·.1)=false:=by rfl):PE X (.Call (.Name x p) (e::es) [] pos) (tCB r t):=by
 intro pins s σ H Q I h;refine wpAny_Call_Name_kw (Dp I hg hm hv ?_ hn hdb);exact PyProof.Rows.callWith_builtin1 (thn (ha pos pins s σ H _ I h) λus s1 ⟨vs,H1,I1,r1,q1⟩=>hc pins s1 σ H1 vs us Q I1 r1 q1) he hpl
theorem bD (hc:gS X (.type T) r)(hg:Gl X x)(hm:X.mg x=none)(hv:SR x=some (.type T))(ha:PA X (e::es) t)(hn:x≠"__name__":=by decide)(hdb:(x == ("__debug__":Str))=false:=by decide)
  (he:Lk (e::es) X.env=(false,eval e X.env)::Lk es X.env:=by rfl) (hpl:(backTo pos (Lk es X.env)).any (·.1)=false:=by rfl):PE X (.Call (.Name x p) (e::es) [] pos) (tCB r t):=by
 intro pins s σ H Q I h;refine wpAny_Call_Name_kw (Dp I hg hm hv ?_ hn hdb);exact PyProof.Rows.callWith_type1 (thn (ha pos pins s σ H _ I h) λus s1 ⟨vs,H1,I1,r1,q1⟩=>hc pins s1 σ H1 vs us Q I1 r1 q1) he hpl
end
end L2
namespace HT
open PySem PyProof.Rows
section
open PySem.SeqAt
open PySem.AutoSeq1 (wpAny_loadPart')
open PySem.MeetsSeq PySem.MeetsSeq2 PySem.MeetsSeq3
end
section
variable{prog:kr}{w:World}{A:Around}{E:Value->Shared->Prop}{s:Shared}
theorem Kh {t b:Addr}{vs ws:List Value}{Q:Value->Shared->Prop}(ht:IsTup s.heap t vs.toArray)(hb:IsTup s.heap b ws.toArray)(hv:vs≠[])
  (h1:ws=[]->Q (.ref t) s) (h2:ws≠[]->Q (.ref s.heap.objs.size) { s with heap:=s.heap.push { cls:=.type "tuple",data:=.seq (vs++ws).toArray } })
  (hsz:vs.length+ws.length<=fe):wpAny (model prog w) A (binaryOp .Add (.ref t) (.ref b)) Q E s:=by
 obtain⟨⟨cls,dd,data,sl⟩,ho,hc,n,hd⟩:=id ht;obtain⟨⟨RQ,dd2,data2,sl2⟩,ho2,hc2,n2,hd2⟩:=id hb;simp only at hc hd hc2 hd2;subst hc hd hc2 hd2;have e:vs.toArray++ws.toArray=(vs++ws).toArray:=by simp
 by_cases hw:ws=[]
 ·exact concat_meets ⟨_,ho,rfl⟩ ⟨_,ho2,rfl⟩ noFill_tuple_add seq_tuple_add PySem.F.slot_tuple_add PySem.F.entry_tuple_add (PySem.F.args_tuple_add_2 _ _)
   (tuple_addW1 t b vs.toArray ws.toArray n n2 dd dd2 sl sl2 (by simpa using hv) (by simp[hw])) ⟨ho,ho2,h1 hw⟩
 ·refine concat_meets ⟨_,ho,rfl⟩ ⟨_,ho2,rfl⟩ noFill_tuple_add seq_tuple_add PySem.F.slot_tuple_add PySem.F.entry_tuple_add (PySem.F.args_tuple_add_2 _ _)
   (tuple_addW2 t b vs.toArray ws.toArray n n2 dd dd2 sl sl2 (by simpa using hv) (by simpa using hw) (by rw[kf,kf];exact hsz)) ⟨ho,ho2,?_⟩
  rw[e];exact h2 hw
def sIx (n d:Nat):Option Int->Nat
 |none=>d
 |some v=>if v < 0 then (v+(n:Int)).toNat else min v.toNat n
theorem BD (n d:Nat):sIx n d none=d:=rfl
theorem oQ (n d k:Nat):sIx n d (some (k:Int))=min k n:=by
 show (if (k:Int) < 0 then ((k:Int)+(n:Int)).toNat else min (k:Int).toNat n)=min k n
 rw[if_neg (by omega),Tz]
theorem MF (n d:Nat)(hd:d<=n)(o:Option Int):sIx n d o<=n:=by
 cases o with
 |none=>exact hd
 |some v =>
  show (if v < 0 then (v+(n:Int)).toNat else min v.toNat n)<=n
  by_cases hv:v < 0
  ·rw[if_pos hv];omega
  ·rw[if_neg hv];exact Nat.min_le_right _ _
theorem E7 (v:Int)(n d:Nat):(if v < 0 then max (v+(n:Int)) 0 else min v (n:Int))=((sIx n d (some v):Nat):Int):=by
 show (if v < 0 then max (v+(n:Int)) 0 else min v (n:Int))=(((if v < 0 then (v+(n:Int)).toNat else min v.toNat n):Nat):Int)
 by_cases hv:v < 0
 ·simp only[if_pos hv];omega
 ·simp only[if_neg hv];omega
theorem DC (lo hi:Option Int)(n:Nat):Builtin.Slice.sliceAdjust lo hi 1 (n:Int)=(((sIx n 0 lo:Nat):Int),((sIx n n hi:Nat):Int)):=by
 have h1:¬((1:Int) < 0):=by omega
 unfold Builtin.Slice.sliceAdjust;simp only[h1,if_false];refine Prod.ext ?_ ?_
 ·cases lo with
  |none=>rfl
  |some v=>exact E7 v n 0
 ·cases hi with
  |none=>rfl
  |some v=>exact E7 v n n
theorem DD (i j:Nat):Tw (i:Int) (j:Int) 1=j - i:=by
 unfold Tw;have h1:(1:Int) > 0:=by omega
 simp only[h1,if_true,Int.ediv_one];split <;> omega
theorem vJ {v:Value}{o:Option Int}{Q:Option Int->Shared->Prop}(p:IsPart v o)(h:Q o s):wpAny (model prog w) A (Builtin.Slice.slicePartIndex v) Q E s:=by
 cases p with
 |none=>exact slicePart_none h
 |int i t=>exact slicePart_int h
theorem sM {sl:Addr}{vl vu:Value}{lo hi:Option Int}{n:Nat}{Q:Int×Int×Nat->Shared->Prop}(hs:s.heap.IsSliceOf sl vl vu .none)(pl:IsPart vl lo)(pu:IsPart vu hi)
  (h:Q (((sIx n 0 lo:Nat):Int),1,sIx n n hi - sIx n 0 lo) s):wpAny (model prog w) A (Builtin.Slice.sliceApplied (.ref sl) (pure (n:Int))) Q E s:=by
 obtain⟨os,hos,hcs,hds⟩:=id hs;unfold Builtin.Slice.sliceApplied Builtin.Slice.sliceFields;refine cb (cb (wpAny_field hos hds (x:=vl) rfl (cb (wpAny_field hos hds (x:=vu) rfl (cb (wpAny_field hos hds (x:=.none) rfl (me ?_)))))));refine cb (slicePart_none ?_);show wpAny _ _ (if ((1:Int) == 0)=true then _ else _) _ _ s
 rw[if_neg (by decide)]
 refine cb (vJ pl (cb (vJ pu (cb (me ?_)))));show wpAny _ _ (match Builtin.Slice.sliceAdjust lo hi 1 (n:Int) with | (lo,hi)=>pure (lo,(1:Int),Tw lo hi 1)) _ _ s
 rw[DC lo hi n];show wpAny _ _ (pure (((sIx n 0 lo:Nat):Int),(1:Int),Tw ((sIx n 0 lo:Nat):Int) ((sIx n n hi:Nat):Int) 1)) _ _ s;rw[DD];exact me h
theorem Hl (xs:Array Value)(i k:Nat):((TF k).filterMap λ(m:Nat)=>xs[((i:Int)+(m:Int) * 1).toNat]?).toArray=((xs.toList.drop i).take k).toArray:=by
 have e:(λ(m:Nat)=>xs[((i:Int)+(m:Int) * 1).toNat]?)=λm=>xs[i+m]?:=by
  funext m
  have:((i:Int)+(m:Int) * 1).toNat=i+m:=by omega
  rw[this]
 rw[e];have:=pick_run xs i k;rw[List.filterMap_map]at this;have e2:((λx=>xs[x]?)∘λx=>i+x)=λm=>xs[i+m]?:=rfl
 rw[e2]at this;rw[this]
theorem q8 {t sl:Addr}{items:Array Value}{vl vu:Value}{lo hi:Option Int}{Q:Value->Shared->Prop}(ht:IsTup s.heap t items)(hs:s.heap.IsSliceOf sl vl vu .none)(pl:IsPart vl lo)(pu:IsPart vu hi)
  (hw:¬(sIx items.size 0 lo=0/\sIx items.size items.size hi=items.size))
  (h:Q (.ref s.heap.objs.size) { s with heap:=s.heap.push { cls:=.type "tuple",data:=.seq ((items.toList.drop (sIx items.size 0 lo)).take (sIx items.size items.size hi - sIx items.size 0 lo)).toArray } })
  (hsz:items.size<=fe):wpAny (model prog w) A (getItem (.ref t) (.ref sl)) Q E s:=by
 have E8:sizeOk (.seq ((items.toList.drop (sIx items.size 0 lo)).take (sIx items.size items.size hi - sIx items.size 0 lo)).toArray):=by
  show ((items.toList.drop (sIx items.size 0 lo)).take (sIx items.size items.size hi - sIx items.size 0 lo)).toArray.size<=fe;rw[kf,Sj,To,TL];omega
 have hj:sIx items.size items.size hi<=items.size:=MF _ _ (gn _) hi;obtain⟨os,hos,hcs,hds⟩:=id hs;have hTs:s.TypeIs (.ref sl) "slice":=⟨os,hos,hcs⟩;unfold getItem
 try with_reducible refine wpAny_holding ?_
 first | refine cb (me ?_) | skip
 refine cb (wpAny_sequenceKey ht.typeIs (by decide) ?_)
 refine cb (wpAny_callSpecial?_slot (name:=ar "__getitem__") ht.typeIs PyProof.Rows.slot_tuple_getitem
  (wpAny_call_entry PyProof.Rows.slot_tuple_getitem ht.typeIs entry_tuple_getitem ?_ (args_tuple_getitem _ _)))
 show wpAny _ _ (Builtin.Tuple.tupleItemsOf (.ref t) >>= _) _ _ s;refine cb (tupleItemsOf_ ht ?_);refine cb (wpAny_typeOf hTs ?_);rw[if_pos (by decide)]
 refine cb (sM hs pl pu ?_);have hno:¬((((sIx items.size 0 lo:Nat):Int) == 0 && (1:Int) == 1 && (sIx items.size items.size hi - sIx items.size 0 lo) == items.size)=true):=by
  intro q;rw[SE,SE]at q;have q1:((sIx items.size 0 lo:Nat):Int)=0:=eq_of_beq q.1.1;have q2:sIx items.size items.size hi - sIx items.size 0 lo=items.size:=eq_of_beq q.2;exact hw ⟨by omega,by omega⟩
 show wpAny _ _ (if (((sIx items.size 0 lo:Nat):Int) == 0 && (1:Int) == 1 && (sIx items.size items.size hi - sIx items.size 0 lo) == items.size)=true then _ else _) _ _ s
 rw[if_neg hno,Hl]
 first
  |exact cb (m:=TH _) (wpAny_newObj_type (me ⟨_,rfl,me h⟩) E8)
  |exact cb (m:=TH _) (wpAny_newObj_type (cb (me (me ⟨_,rfl,me h⟩))) E8)
  |exact cb (cb (m:=TH _) (wpAny_newObj_type (me (me ⟨_,rfl,me h⟩)) E8))
  |exact cb (cb (m:=TH _) (wpAny_newObj_type (me ⟨_,rfl,me h⟩) E8))
end
end HT
namespace L2
open PySem PySem.Spec PyProof.Rows
abbrev TO:=St->Hp->(Option Int->Hp->Prop)->Prop
def PO (X:Cx)(e:Option Expr)(t:TO):Prop :=
 ∀(pins:List (Addr×Obj)) (s:Shared) (σ:St) (H:Hp) (Q:Option Int->Hp->Prop),Inv X pins σ H s->t σ H Q ->
  wpAny (model X.prog X.w) X.A (evalPart e X.env) (λu s'=>∃o H',Inv X pins σ H' s'/\IsPart u o/\Q o H') X.xe s
def Ki:TO:=λ_ H Q=>Q none H
def OL (t:TE):TO:=λσ H Q=>t σ H λx H1=>∃i,x=.int i/\Q (some i) H1
section
variable{X:Cx}{e:Expr}{te:TE}{lo hi:Option Expr}{tl th:TO}{pos p2:Pos}
theorem oR:PO X none Ki:=by
 intro pins s σ H Q I h;rw[evalPart_none];exact me ⟨none,H,I,.none,h⟩
theorem jJ (h:PE X e te):PO X (some e) (OL te):=by
 intro pins s σ H Q I hw;rw[evalPart_some];refine thn (h pins s σ H _ I hw) λu s1 ⟨x,H1,I1,r1,q1⟩=>?_
 obtain⟨i,rfl,q⟩:=q1;obtain⟨t,rfl⟩:=r1;exact⟨some i,H1,I1,.int i t,q⟩
def SlR (X:Cx)(r:V->Option Int->Option Int->Hp->VK->Prop):Prop :=
 ∀(pins:List (Addr×Obj)) (s:Shared) (σ:St) (H:Hp) (x:V) (v vl vu:Value) (lo hi:Option Int) (sl:Addr) (Q:VK),Inv X pins σ H s->RelV x v->s.heap.IsSliceOf sl vl vu .none->IsPart vl lo->IsPart vu hi->r x lo hi H Q ->
  ∃T id,typeLookup (.type T) "__getitem__"=pure (some (.builtin id))/\s.TypeIs v T/\wpAny (model X.prog X.w) X.A (getItem v (.ref sl)) (EP X pins σ Q) X.xe s
theorem SlR.or {r r':V->Option Int->Option Int->Hp->VK->Prop}(h:SlR X r)(h':SlR X r'):SlR X (λx lo hi H Q=>r x lo hi H Q\/r' x lo hi H Q):=by
 intro pins s σ H x v vl vu lo hi sl Q I rx hs pl pu q;rcases q with q | q
 ·exact h pins s σ H x v vl vu lo hi sl Q I rx hs pl pu q
 ·exact h' pins s σ H x v vl vu lo hi sl Q I rx hs pl pu q
def tSl (r:V->Option Int->Option Int->Hp->VK->Prop)(te:TE)(tl th:TO):TE:=λσ H Q=>te σ H λx H1=>tl σ H1 λl H2=>th σ H2 λu H3=>r x l u H3 Q
theorem i4 {r:V->Option Int->Option Int->Hp->VK->Prop}(hr:SlR X r)(he:PE X e te)(hl:PO X lo tl)(hu:PO X hi th):PE X (.Subscript e (.Slice lo hi none p2) pos) (tSl r te tl th):=by
 intro pins s σ H Q I h;refine Subscript_ (thn (he pins s σ H _ I h) λv s1 ⟨x,H1,I1,r1,q1⟩=>?_)
 refine wpAny_Slice (thn (hl pins s1 σ H1 _ I1 q1) λvl s2 ⟨l,H2,I2,pl,q2⟩=>thn (hu pins s2 σ H2 _ I2 q2) λvu s3 ⟨u,H3,I3,pu,q3⟩=>?_)
 rw[evalPart_none];refine me ?_;have I4:Inv X pins σ H3 { s3 with heap:=s3.heap.push { cls:=.type "slice",data:=.fields #[vl,vu,.none] } }:=I3.kept (t':=s3.toks) λb ob q=>da _ q
 obtain⟨T,id,hT,ht,hg⟩:=hr pins { s3 with heap:=s3.heap.push { cls:=.type "slice",data:=.fields #[vl,vu,.none] } } σ H3 x v vl vu l u s3.heap.objs.size Q I4 r1 (Heap.IsSliceOf.new ..) pl pu q3
 show wpAny (model X.prog X.w) X.A (subscriptTail e (.Slice lo hi none p2) v (.ref s3.heap.objs.size)) (EP X pins σ Q) X.xe { s3 with heap:=s3.heap.push { cls:=.type "slice",data:=.fields #[vl,vu,.none] } }
 exact tail_any (ops:=[.ref s3.heap.objs.size,v]) ht hT hg (by with_unfolding_all rfl)
def dX (xs:List V)(lo hi:Option Int):List V:=(xs.drop (HT.sIx xs.length 0 lo)).take (HT.sIx xs.length xs.length hi - HT.sIx xs.length 0 lo)
theorem fw (xs:List V)(lo hi:Option Int):(dX xs lo hi).length<=xs.length:=by
 unfold dX;rw[Sj,To];omega
def QS (K:bo):V->Option Int->Option Int->Hp->VK->Prop:=λx lo hi H Q=>∃a xs,x=.ref a/\SqT K H a xs /\
 ¬(HT.sIx xs.length 0 lo=0/\HT.sIx xs.length xs.length hi=xs.length)/\∀p,H p=none->Q (.ref p) (upd H p (.tup (dX xs lo hi)))
theorem Hm:SlR X (QS X.K):=by
 intro pins s σ H x v vl vu lo hi sl Q I rx hs pl pu h;obtain⟨a,xs,rfl,hx,hw,q⟩:=h;cases rx;obtain⟨its,r,ht,hz⟩:=I.tuple hx;have hlen:its.toArray.size=xs.length:=by rw[kf];exact r.length.symm
 refine⟨"tuple",_,PyProof.Rows.slot_tuple_getitem.lookup,ht.typeIs,?_⟩;refine HT.q8 ht hs pl pu (by rw[hlen];exact hw) ?_ (by rw[hlen];exact hz)
 rw[hlen];refine⟨.ref s.heap.objs.size,_,I.laid (t':=s.toks) (o:=.tup (dX xs lo hi)) (λb ob q=>da _ q) (gn _) ?_,rfl,q _ (I.hok.fresh (gn _))⟩
 exact⟨ku (fw xs lo hi) hz,_,(r.drop (HT.sIx xs.length 0 lo)).take (HT.sIx xs.length xs.length hi - HT.sIx xs.length 0 lo),IsTup.new _ _⟩
def OM (K:bo):R2:=λx y H Q=>∃a b xs ys,x=.ref a/\y=.ref b/\SqT K H a xs/\SqT K H b ys/\xs≠[]/\xs.length+ys.length<=fe /\
 (ys=[]->Q (.ref a) H)/\(ys≠[]->∀p,H p=none->Q (.ref p) (upd H p (.tup (xs++ys))))
theorem Vals.Ah {xs:List V}{us:List Value}(r:Vals xs us):us=[]↔xs=[]:=by
 cases r with
 |nil=>simp
 |cons _ _=>simp
theorem Kj:OpR X (binaryOp .Add) (OM X.K):=by
 intro pins s σ H x y v u Q I rx ry h;obtain⟨a,b,xs,ys,rfl,rfl,ha,hb,hx,hz,q1,q2⟩:=h;cases rx;cases ry;obtain⟨its,r1,p1,_⟩:=I.tuple ha;obtain⟨BE,r2,p2,_⟩:=I.tuple hb;refine HT.Kh p1 p2 (λz=>hx (r1.Ah.mp z)) (λz=>⟨.ref a,H,I,rfl,q1 (r2.Ah.mp z)⟩) (λz=>?_) (by rw[<-r1.length,<-r2.length];exact hz)
 refine⟨.ref s.heap.objs.size,_,I.laid (t':=s.toks) (o:=.tup (xs++ys)) (λb ob q=>da _ q) (gn _) ?_,rfl,q2 (λw=>z (r2.Ah.mpr w)) _ (I.hok.fresh (gn _))⟩
 exact⟨by rw[ka];exact hz,_,r1.append r2,IsTup.new _ _⟩
end
def ixN (n:Nat)(i:Int):Option Nat:=if 0<=i then (if i < n then some i.toNat else none) else if -(n:Int)<=i then some (i+n).toNat else none
def atI {α:Type}(xs:List α)(i:Int):Option α:=(ixN xs.length i).bind λj=>xs[j]?
theorem Ai {n:Nat}{i:Int}{j:Nat}(h:ixN n i=some j):seqIndex? i n=some j/\j < n/\-(n:Int)<=i/\i < n:=by
 unfold ixN at h
 by_cases h0:0<=i
 ·rw[if_pos h0]at h
  by_cases h1:i < n
  ·rw[if_pos h1]at h;have e:i.toNat=j:=si h;exact⟨by rw[seqIndex_of h0 h1,e],by omega,by omega,h1⟩
  ·rw[if_neg h1]at h;cases h
 ·rw[if_neg h0]at h
  by_cases h1:-(n:Int)<=i
  ·rw[if_pos h1]at h;have e:(i+n).toNat=j:=si h;exact⟨by rw[seqIndex_neg (by omega) h1,e],by omega,h1,by omega⟩
  ·rw[if_neg h1]at h;cases h
theorem Aj {α:Type}{xs:List α}{i:Int}{v:α}(h:atI xs i=some v):∃j,seqIndex? i xs.length=some j/\xs[j]?=some v/\j < xs.length/\-(xs.length:Int)<=i/\i < xs.length:=by
 unfold atI at h;cases e:ixN xs.length i with
 |none=>rw[e]at h;cases h
 |some j =>
  rw[e]at h;obtain⟨h1,h2,h3,h4⟩:=Ai e;exact⟨j,h1,h,h2,h3,h4⟩
theorem cq {α:Type}{xs:List α}{j:Nat}{v:α}(h:xs[j]?=some v):atI xs (j:Int)=some v:=by
 have hj:j < xs.length:=(List.getElem?_eq_some_iff.mp h).1;have e:ixN xs.length (j:Int)=some j:=by
  unfold ixN;rw[if_pos (by omega),if_pos (by omega)];simp
 unfold atI;rw[e];exact h
theorem fJ {α:Type}(xs:List α)(v:α):atI (xs++[v]) (-1)=some v:=by
 have hl:(xs++[v]).length=xs.length+1:=by simp
 have e:ixN (xs++[v]).length (-1)=some xs.length:=by
  unfold ixN;rw[hl,if_neg (by decide),if_pos (by omega)]
  congr 1
  omega
 unfold atI;rw[e];show (xs++[v])[xs.length]?=some v;simp
def Kk (b:Expr):Prop:=∀o i,subscripted b false o i=operate [o,i] (getItem o i)
def IxR (X:Cx)(r:R2):Prop :=
 ∀(value slice:Expr) (pins:List (Addr×Obj)) (s:Shared) (σ:St) (H:Hp) (x y:V) (v u:Value) (Q:VK),Inv X pins σ H s->RelV x v->RelV y u->r x y H Q ->
  subscripted slice false v u=operate [v,u] (getItem v u)->wpAny (model X.prog X.w) X.A (subscriptTail value slice v u) (EP X pins σ Q) X.xe s
def MtR (X:Cx)(id:String)(r:V->List V->Hp->VK->Prop):Prop :=
 ∀(pins:List (Addr×Obj)) (s:Shared) (σ:St) (H:Hp) (x:V) (xs:List V) (v:Value) (us:List Value) (Q:VK),Inv X pins σ H s->RelV x v->Vals xs us->r x xs H Q ->
  wpAny (model X.prog X.w) X.A (call (.builtin id) (v::us)) (EP X pins σ Q) X.xe s
section
variable{X:Cx}{a b:Expr}{ta tb:TE}{pos:Pos}
theorem IxR.or {r r':R2}(h:IxR X r)(h':IxR X r'):IxR X (λx y H Q=>r x y H Q\/r' x y H Q):=by
 intro value slice pins s σ H x y v u Q I rx ry q hs;rcases q with q | q
 ·exact h value slice pins s σ H x y v u Q I rx ry q hs
 ·exact h' value slice pins s σ H x y v u Q I rx ry q hs
theorem MtR.or {id:String}{r r':V->List V->Hp->VK->Prop}(h:MtR X id r)(h':MtR X id r'):MtR X id (λx xs H Q=>r x xs H Q\/r' x xs H Q):=by
 intro pins s σ H x xs v us Q I rx rs q;rcases q with q | q
 ·exact h pins s σ H x xs v us Q I rx rs q
 ·exact h' pins s σ H x xs v us Q I rx rs q
theorem aH {r:R2}(hr:IxR X r)(ha:PE X a ta)(hb:PE X b tb)(hs:Kk b):PE X (.Subscript a b pos) (tOp r ta tb):=by
 intro pins s σ H Q I h;exact Subscript_ (Mx ha hb I h λv u s2 x y H2 I2 rx ry q=>hr a b pins s2 σ H2 x y v u Q I2 rx ry q (hs _ _))
def ON (K:bo):R2:=λx y H Q=>∃p xs i v,x=.ref p/\y=.int i/\SqL K H p xs/\atI xs i=some v/\Q v H
def OO (K:bo):R2:=λx y H Q=>∃p xs i v,x=.ref p/\y=.int i/\SqT K H p xs/\atI xs i=some v/\Q v H
def OP:R2:=λx y H Q=>∃z i c,x=.str z/\y=.int i/\z.length<=fe/\atI z.cps.toList i=some c/\Q (.str ⟨#[c]⟩) H
theorem a7:IxR X (ON X.K):=by
 intro value slice pins s σ H x y v u Q I rx ry h hs;obtain⟨p,xs,i,z,rfl,rfl,hq,he,q⟩:=h;cases rx;obtain⟨t,rfl⟩:=ry;obtain⟨its,r,pl,hz⟩:=I.list hq;obtain⟨j,h1,h2,h3,h4,h5⟩:=Aj he;obtain⟨w,ew,rw'⟩:=r.get h2;have hl:=r.length;have hn:=qi;have fin:EP X pins σ Q w s:=⟨z,H,I,rw',q⟩
 by_cases h0:0<=i
 ·have hj:i.toNat=j:=by
   rw[seqIndex_of h0 h5]at h1;exact si h1
  exact item_listR pl.isList h0 (by omega) (by rw[hj];simpa using ew) fin hs
 ·have hj:(i+(its.toArray.size:Int)).toNat=j:=by
   rw[seqIndex_neg (by omega) h4]at h1
   rw[kf,<-hl];exact si h1
  exact subscriptTail_builtinR (x:=w) pl.isList.typeIs slot_list_getitem.lookup
   (wpAny_getItem_list_neg (Q:=λr s'=>r=w/\EP X pins σ Q r s') pl.isList (by omega) (by rw[kf] <;> omega) (by omega) (by rw[hj];simpa using ew) ⟨rfl,fin⟩) hs
theorem aK:IxR X (OO X.K):=by
 intro value slice pins s σ H x y v u Q I rx ry h hs;obtain⟨p,xs,i,z,rfl,rfl,hq,he,q⟩:=h;cases rx;obtain⟨t,rfl⟩:=ry;obtain⟨its,r,pl,hz⟩:=I.tuple hq;obtain⟨j,h1,h2,h3,h4,h5⟩:=Aj he;obtain⟨w,ew,rw'⟩:=r.get h2;have hl:=r.length;have hn:=qi;have fin:EP X pins σ Q w s:=⟨z,H,I,rw',q⟩;exact subscriptTail_builtinR (x:=w) pl.typeIs slot_tuple_getitem.lookup
  (getItem_tuple (j:=j) (Q:=λr s'=>r=w/\EP X pins σ Q r s') pl (by omega) (by omega) (by rw[kf,<-hl];exact h1) (by simpa using ew) ⟨rfl,fin⟩) hs
theorem DE:IxR X OP:=by
 intro value slice pins s σ H x y v u Q I rx ry h hs;obtain⟨z,i,c,rfl,rfl,hz,he,q⟩:=h;obtain⟨t,rfl⟩:=rx;obtain⟨t',rfl⟩:=ry;obtain⟨j,h1,h2,h3,h4,h5⟩:=Aj he;have hl:z.cps.toList.length=z.length:=by simp[Str.length]
 rw[hl]at h1 h4 h5;have hn:=qi;exact tail_any (typeIs_str s z t) slot_str_getitem.lookup (getItem_str (c:=c) (by
  have e1:decide (i < -(2 ^ 63:Int))=false:=decide_eq_false (by omega)
  have e2:decide (i≥2 ^ 63)=false:=decide_eq_false (by omega)
  rw[e1,e2,Bool.or_false]) (by rw[h1];simpa using h2) ⟨.str ⟨#[c]⟩,H,I.tok _,⟨_,rfl⟩,q⟩) hs
def rIx (K:bo):R2:=λx y H Q=>ON K x y H Q\/OO K x y H Q\/OP x y H Q
theorem MG:IxR X (rIx X.K):=a7.or (aK.or DE)
theorem DF (its:List Value)(n j:Nat)(u:Value):Obj.mapSeq (·.setIfInBounds j u) { cls:=.type "list",data:=.seq its.toArray n }={ cls:=.type "list",data:=.seq (its.set j u).toArray n }:=by
 simp[Obj.mapSeq]
theorem Inv.lst {pins:List (Addr×Obj)}{σ:St}{H:Hp}{s:Shared}{p:Addr}{xs:List V}(I:Inv X pins σ H s)(h:H p=some (.lst xs)) :
  ∃(its:List Value) (n:Nat),Vals xs its/\s.heap.get? p=some { cls:=.type "list",data:=.seq its.toArray n }/\xs.length<=fe:=by
 obtain⟨z,its,n,r,e⟩:=I.hok p _ h;exact⟨its,n,r,e,z⟩
theorem Inv.MH {pins:List (Addr×Obj)}{σ:St}{H:Hp}{s:Shared}{p:Addr}{xs ys:List V}{its its':List Value}{n n':Nat}{f:Obj->Obj}(I:Inv X pins σ H s)(h:H p=some (.lst xs))
  (ho:s.heap.get? p=some { cls:=.type "list",data:=.seq its.toArray n }) (hf:f { cls:=.type "list",data:=.seq its.toArray n }={ cls:=.type "list",data:=.seq its'.toArray n' }) (r:Vals ys its') (hz:ys.length<=fe) (t:Nat) :
  Inv X pins σ (upd H p (.lst ys)) { s with heap:=s.heap.update p f,toks:=t }:=by
 have e:(s.heap.update p f).get? p=some { cls:=.type "list",data:=.seq its'.toArray n' }:=by
  rw[S9 f ho (by rw[hf] <;> rfl),hf]
 refine I.write (x:=p) (e:=p) (by rw[h];trivial) (.inl rfl) (λb u hb q=>(Sx _ _ (R4 hb)).trans q) ⟨_,e⟩ ?_
 exact⟨hz,its',n',r,e⟩
def OQ:V->V->V->Hp->(Hp->Prop)->Prop:=λo i v H Q=>∃p xs k j,o=.ref p/\i=.int k/\H p=some (.lst xs)/\ixN xs.length k=some j/\Q (upd H p (.lst (xs.set j v)))
theorem set_list:Oz X OQ:=by
 intro pins s σ H o i v ov iv u Q I ro ri rv h;obtain⟨p,xs,k,j,rfl,rfl,hp,hj,q⟩:=h;cases ro;obtain⟨t,rfl⟩:=ri;obtain⟨its,n,r,ho,hz⟩:=I.lst hp;obtain⟨h1,h2,h3,h4⟩:=Ai hj;have hl:=r.length;have hn:=qi;have I':Inv X pins σ (upd H p (.lst (xs.set j v))) { s with heap:=s.heap.update p (Obj.mapSeq (·.setIfInBounds j u)) } :=
  I.MH hp ho (DF its n j u) (r.set rv j) (by rw[S8];exact hz) s.toks
 by_cases h0:0<=k
 ·have hk:k.toNat=j:=by
   rw[seqIndex_of h0 h4]at h1;exact si h1
  exact PySem.W.ki_setAt ho h0 (by omega) (by rw[kf,<-hl];exact h4) (by rw[hk];exact⟨_,I',q⟩)
 ·have hk:(k+(its.toArray.size:Int)).toNat=j:=by
   rw[seqIndex_neg (by omega) h3]at h1
   rw[kf,<-hl];exact si h1
  exact PySem.W.ki_setBack ho (by omega) (by rw[kf,<-hl];exact h3) (by omega) (by rw[hk];exact⟨_,I',q⟩)
theorem Ak (lo hi:Option Int)(n:Nat):(sliceBounds lo hi none n).1=((HT.sIx n 0 lo:Nat):Int)/\(sliceBounds lo hi none n).2.1=((HT.sIx n n hi:Nat):Int)/\(sliceBounds lo hi none n).2.2=1:=by
 refine⟨?_,?_,rfl⟩
 ·cases lo with
  |none=>simp[sliceBounds,HT.sIx]
  |some i =>
   simp only[sliceBounds,HT.sIx,Option.getD_none,show (1:Int) > 0 by decide,if_true]
   by_cases h:i < 0
   ·simp only[h,if_true] <;> omega
   ·simp only[h,if_false] <;> omega
 ·cases hi with
  |none=>simp[sliceBounds,HT.sIx]
  |some i =>
   simp only[sliceBounds,HT.sIx,Option.getD_none,show (1:Int) > 0 by decide,if_true]
   by_cases h:i < 0
   ·simp only[h,if_true] <;> omega
   ·simp only[h,if_false] <;> omega
theorem yw (its:List Value)(lo hi:Option Int):slicePick its.toArray lo hi none=((its.drop (HT.sIx its.length 0 lo)).take (HT.sIx its.length its.length hi - HT.sIx its.length 0 lo)).toArray:=by
 obtain⟨h1,h2,h3⟩:=Ak lo hi its.toArray.size;unfold slicePick;rw[h1,h2,h3];simp only[sliceRange_one,pick_run,kf] <;> rfl
def QT (K:bo):V->Option Int->Option Int->Hp->VK->Prop:=λx lo hi H Q=>∃a xs,x=.ref a/\SqL K H a xs/\∀p,H p=none->Q (.ref p) (upd H p (.lst (dX xs lo hi)))
theorem q9:SlR X (QT X.K):=by
 intro pins s σ H x v vl vu lo hi sl Q I rx hs pl pu h;obtain⟨a,xs,rfl,hx,q⟩:=h;cases rx;obtain⟨its,r,ht,hz⟩:=I.list hx;have hlen:=r.length;refine⟨"list",_,slot_list_getitem.lookup,ht.isList.typeIs,?_⟩;refine wpAny_getItem_list_slice ht.isList hs pl pu .none (by simp) ?_ (by rw[kf] <;> omega)
 rw[yw,<-hlen];refine⟨.ref s.heap.objs.size,_,I.laid (t':=s.toks) (o:=.lst (dX xs lo hi)) (λb ob q=>da _ q) (gn _) ?_,rfl,q _ (I.hok.fresh (gn _))⟩
 exact⟨ku (fw xs lo hi) hz,_,0,(r.drop (HT.sIx xs.length 0 lo)).take (HT.sIx xs.length xs.length hi - HT.sIx xs.length 0 lo),wt _ rfl⟩
def rg:V->Bool
 | .non=>true
 | .bl _=>true
 | .int _=>true
 | .str _=>true
 |_=>false
def eqV:V->V->Bool
 | .non,.non=>true
 | .bl a,.bl b=>a == b
 | .bl a,.int b=>(if a then 1 else 0) == b
 | .int a,.bl b=>a == (if b then 1 else 0)
 | .int a,.int b=>a == b
 | .str a,.str b=>a == b
 |_,_=>false
theorem MI {A:Around}{s:Shared}{y x:V}{u v:Value}(ry:RelV y u)(rx:RelV x v)(fy:rg y=true)(fx:rg x=true):SeqAt.EqAt A s u v (eqV y x):=by
 cases y with
 |non =>
  cases ry;cases x with
  |non=>cases rx;exact SeqAt.EqAt.same _
  |bl b=>cases rx;exact SeqAt.EqAt.none_bool b
  |int b=>obtain⟨t,rfl⟩:=rx;exact SeqAt.EqAt.none_int b t
  |str b=>obtain⟨t,rfl⟩:=rx;exact SeqAt.EqAt.none_str b t
  |_=>exact absurd (show false=true from fx) kj
 |bl a =>
  cases ry;cases x with
  |non=>cases rx;exact SeqAt.EqAt.bool_none a
  |bl b=>cases rx;exact SeqAt.EqAt.bool_bool a b
  |int b=>obtain⟨t,rfl⟩:=rx;exact SeqAt.EqAt.bool_int a b t
  |str b=>obtain⟨t,rfl⟩:=rx;exact SeqAt.EqAt.bool_str a b t
  |_=>exact absurd (show false=true from fx) kj
 |int a =>
  obtain⟨t',rfl⟩:=ry;cases x with
  |non=>cases rx;exact SeqAt.EqAt.int_none a t'
  |bl b=>cases rx;exact SeqAt.EqAt.int_bool a t' b
  |int b=>obtain⟨t,rfl⟩:=rx;exact SeqAt.EqAt.int_int a t' b t
  |str b=>obtain⟨t,rfl⟩:=rx;exact SeqAt.EqAt.int_str a t' b t
  |_=>exact absurd (show false=true from fx) kj
 |str a =>
  obtain⟨t',rfl⟩:=ry;cases x with
  |non=>cases rx;exact SeqAt.EqAt.str_none a t'
  |bl b=>cases rx;exact SeqAt.EqAt.str_bool a t' b
  |int b=>obtain⟨t,rfl⟩:=rx;exact SeqAt.EqAt.str_int a t' b t
  |str b=>obtain⟨t,rfl⟩:=rx;exact SeqAt.EqAt.str_str a t' b t
  |_=>exact absurd (show false=true from fx) kj
 |_=>exact absurd (show false=true from fy) kj
def eqU (x:V)(u:Value):Bool:=match u with
 | .none=>eqV .non x
 | .bool b=>eqV (.bl b) x
 | .int i _=>eqV (.int i) x
 | .str z _=>eqV (.str z) x
 |_=>false
theorem DG {x y:V}{u:Value}(r:RelV y u)(f:rg y=true):eqU x u=eqV y x:=by
 cases y with
 |non=>cases r;rfl
 |bl b=>cases r;rfl
 |int i=>obtain⟨t,rfl⟩:=r;rfl
 |str z=>obtain⟨t,rfl⟩:=r;rfl
 |_=>exact absurd (show false=true from f) kj
theorem Al {x:V}:∀ {xs:List V} {us:List Value},Vals xs us->xs.all rg=true->us.any (eqU x)=xs.any λy=>eqV y x
 |_,_,.nil,_=>rfl
 |y::xs,u::us,.cons r t,f=>by
  rw[List.all_cons,SE]at f;rw[List.any_cons,List.any_cons,DG r f.1,Al t f.2]
theorem rh {A:Around}{s:Shared}{x:V}{v:Value}(rx:RelV x v)(fx:rg x=true):∀ {xs:List V} {us:List Value},Vals xs us->xs.all rg=true->∀u∈us,SeqAt.EqAt A s u v (eqU x u)
 |_,_,.nil,_=>λu hu=>by cases hu
 |y::xs,u::us,.cons r t,f=>λu' hu=>by
  rw[List.all_cons,SE]at f;rcases List.mem_cons.mp hu with rfl | hu
  ·rw[DG r f.1];exact MI r rx f.1 fx
  ·exact rh rx fx t f.2 u' hu
def inV (x:V)(xs:List V):Bool:=xs.any λy=>eqV y x
def rIn (K:bo)(neg:Bool):R2:=λx y H Q=>∃p xs,y=.ref p/\(SqL K H p xs\/SqT K H p xs)/\rg x=true/\xs.all rg=true/\Q (.bl (if neg then !inV x xs else inV x xs)) H
theorem oS:OpR X (SH .In) (rIn X.K false):=by
 intro pins s σ H x y v u Q I rx ry h;obtain⟨p,xs,rfl,hq,fx,fs,q⟩:=h;cases ry;rcases hq with hq | hq
 ·obtain⟨its,r,pl,hz⟩:=I.list hq;refine SeqAt.in_listAt (eqU x) pl.isList (λw hw=>rh rx fx r fs w (by simpa using hw)) ⟨.bl _,H,I,rfl,?_⟩
  rw[show its.toArray.any (eqU x)=its.any (eqU x) by simp,Al r fs]
  exact q
 ·obtain⟨its,r,pl,hz⟩:=I.tuple hq;refine SeqAt.in_tupleAt (eqU x) pl (λw hw=>rh rx fx r fs w (by simpa using hw)) ⟨.bl _,H,I,rfl,?_⟩
  rw[show its.toArray.any (eqU x)=its.any (eqU x) by simp,Al r fs]
  exact q
theorem b9:gS X (.builtin "len") (λxs H Q=>∃p ys,xs=[.ref p]/\(SqL X.K H p ys\/SqT X.K H p ys)/\Q (.int ys.length) H):=by
 intro pins s σ H xs us Q I r h;obtain⟨p,ys,rfl,hq,q⟩:=h;obtain⟨u,rfl,rx⟩:=vals1 r;cases rx;have hn:=qi;rcases hq with hq | hq
 ·obtain⟨its,r',pl,hz⟩:=I.list hq;have hlen:=r'.length;exact Calls.call_len_list pl.isList (by simp only[kf] <;> omega) ⟨.int ys.length,H,I.tok _,⟨s.toks+1,by rw[kf,hlen]⟩,q⟩
 ·obtain⟨its,r',pl,hz⟩:=I.tuple hq;have hlen:=r'.length;exact len_tuple pl (by simp only[kf] <;> omega) ⟨.int ys.length,H,I.tok _,⟨s.toks+1,by rw[kf,hlen]⟩,q⟩
theorem gS.or {f:Value}{r r':List V->Hp->VK->Prop}(h:gS X f r)(h':gS X f r'):gS X f (λxs H Q=>r xs H Q\/r' xs H Q):=by
 intro pins s σ H xs us Q I rs q;rcases q with q | q
 ·exact h pins s σ H xs us Q I rs q
 ·exact h' pins s σ H xs us Q I rs q
theorem bA:gS X (.type "list") (λxs H Q=>∃p ys,xs=[.ref p]/\(SqL X.K H p ys\/SqT X.K H p ys)/\∀l,H l=none->Q (.ref l) (upd H l (.lst ys))):=by
 intro pins s σ H xs us Q I r h;obtain⟨p,ys,rfl,hq,q⟩:=h;obtain⟨u,rfl,rx⟩:=vals1 r;cases rx;have fin:∀(its:List Value),Vals ys its->ys.length<=fe->∀(h':Heap) (c':Nat),(∀b o',s.heap.get? b=some o'->h'.get? b=some o') ->
   h'.get? s.heap.objs.size=some { cls:=.type "list",dict:=none,data:=.seq its.toArray c',slots:=#[] }->EP X pins σ Q (.ref s.heap.objs.size) { s with heap:=h' }:=λits r' hz h' c' kp e =>
  ⟨.ref s.heap.objs.size,_,I.laid (t':=s.toks) kp (gn _) (show dO X.prog X.w _ h' _ (.lst ys) from ⟨hz,its,c',r',e⟩),rfl,q _ (I.hok.fresh (gn _))⟩
 rcases hq with hq | hq
 ·obtain⟨its,r',pl,hz⟩:=I.list hq;have hlen:=r'.length;obtain⟨o,ho,hc,n,hd⟩:=pl.isList;exact call_list_seq p (.inl rfl) ho hc hd (λh' c' kp e=>fin its r' hz h' c' kp e) (by simp only[kf] <;> omega)
 ·obtain⟨its,r',pl,hz⟩:=I.tuple hq;have hlen:=r'.length;obtain⟨o,ho,hc,n,hd⟩:=pl;exact call_list_seq p (.inr rfl) ho hc hd (λh' c' kp e=>fin its r' hz h' c' kp e) (by simp only[kf] <;> omega)
def tyV (K:bo)(T:String)(x:V)(H:Hp):Prop:=match x with
 | .str _=>T="str"
 | .int _=>T="int"
 | .ref p=>(T="list"/\∃xs,SqL K H p xs)\/(T="tuple"/\∃o,K.lookup p=some o/\o.cls=.type "tuple"/\o.dict=none) \/
   (T="dict"/\((∃kvs,H p=some (.dK kvs))\/∃kvs,H p=some (.dT kvs)))\/(T="set"/\∃S n,H p=some (.set S n))
 |_=>False
theorem Ho {pins:List (Addr×Obj)}{σ:St}{H:Hp}{s:Shared}{T:String}{x:V}{v:Value}(I:Inv X pins σ H s)(r:RelV x v)(ty:tyV X.K T x H) :
  s.TypeIs v T/\∀a,v=.ref a->∃ob,s.heap.get? a=some ob/\ob.dict=none:=by
 cases x with
 |str z =>
  obtain⟨t,rfl⟩:=r;cases (show T="str" from ty)
  exact⟨typeIs_str s z t,λ_ e=>nomatch e⟩
 |int i =>
  obtain⟨t,rfl⟩:=r;cases (show T="int" from ty)
  exact⟨typeIs_int s i t,λ_ e=>nomatch e⟩
 |ref p =>
  cases r;rcases ty with ⟨rfl,xs,hq⟩ | ⟨rfl,o,hk,hc,hd⟩ | ⟨rfl,hk⟩ | ⟨rfl,S,n,hk⟩
  ·obtain⟨its,_,pl,_⟩:=I.list hq;refine⟨pl.isList.typeIs,λa e=>?_⟩
   cases e;obtain⟨o,n,e,c,hd,_⟩:=pl;exact⟨o,e,hd⟩
  ·refine⟨⟨o,I.kIn p o hk,hc⟩,λa e=>?_⟩
   cases e;exact⟨o,I.kIn _ o hk,hd⟩
  ·have z:∃o,s.heap.get? p=some o/\o.ExactDict:=by
    rcases hk with ⟨kvs,hk⟩ | ⟨kvs,hk⟩
    ·obtain⟨_,_,_,_,o,_,_,e,ex,_⟩:=I.hok p _ hk;exact⟨o,e,ex⟩
    ·obtain⟨_,_,_,_,o,_,_,e,ex,_⟩:=I.hok p _ hk;exact⟨o,e,ex⟩
   obtain⟨o,e,ex⟩:=z;refine⟨⟨o,e,ex.1⟩,λa e2=>?_⟩
   cases e2;exact⟨o,e,ex.2.1⟩
  ·obtain⟨o,_,_,_,e,ex,_⟩:=I.hok p _ hk;refine⟨⟨o,e,ex.1⟩,λa e2=>?_⟩
   cases e2;exact⟨o,e,ex.2.1⟩
 |_=>exact Sb ty
def QU (K:bo)(T:String)(r:V->List V->Hp->VK->Prop)(to:TE):TE:=λσ H Q=>to σ H λx H1=>tyV K T x H1/\r x [] H1 Q
def tBM (K:bo)(T:String)(r:V->List V->Hp->VK->Prop)(to:TE)(t:TA):TE:=λσ H Q=>to σ H λx H1=>tyV K T x H1/\t σ H1 λxs H2=>r x xs H2 Q
variable{o e:Expr}{es:List Expr}{to:TE}{t:TA}{name:Str}{apos dY:Pos}{T id:String}{r:V->List V->Hp->VK->Prop}
theorem DH (pa:PlainAttrs T)(slot:Slot T name id)(hty:typeOf (.builtin id)=pure (.type "method_descriptor"))(hm:MtR X id r)(ho:PE X o to)
  (BF:attributeBase o name X.env (eval o X.env)=eval o X.env:=by rfl) (Hq:(apos.endLine == dY.line)=true:=by rfl):PE X (.Call (.Attribute o name apos) [] [] dY) (QU X.K T r to):=by
 intro pins s σ H Q I h;refine wpAny_Call_method0_late BF Hq (thn (ho pins s σ H _ I h) λv s1 ⟨x,H1,I1,r1,ty,q1⟩=>?_)
 obtain⟨h1,h2⟩:=Ho I1 r1 ty;exact⟨T,id,pa,slot,hty,h1,h2,Calls.callWith_builtin rfl (PySem.evalArgs_none (hm pins s1 σ H1 x [] v [] Q I1 r1 .nil q1))⟩
theorem bW (pa:PlainAttrs T)(slot:Slot T name id)(hty:typeOf (.builtin id)=pure (.type "method_descriptor"))(hm:MtR X id r)(ho:PE X o to)(ha:PA X (e::es) t)
  (BF:attributeBase o name X.env (eval o X.env)=eval o X.env:=by rfl)
  (QV:((backTo dY (Lk (e::es) X.env)).all (λx=>!x.1) && (backToKw dY (keywordEach [] X.env)).all (λx=>x.1.isSome)
   && decide ((e::es).length+([]:List Keyword).length+(if ([]:List Keyword).isEmpty then 0 else 1) < 30))=true:=by rfl)
  (Hq:(apos.endLine == dY.line)=true:=by rfl) (hs:Lk (e::es) X.env=(false,eval e X.env)::Lk es X.env:=by rfl) (MJ:(backTo dY (Lk es X.env)).any (·.1)=false:=by rfl) :
  PE X (.Call (.Attribute o name apos) (e::es) [] dY) (tBM X.K T r to t):=by
 intro pins s σ H Q I h;refine wpAny_Call_method_late BF QV Hq rfl (thn (ho pins s σ H _ I h) λv s1 ⟨x,H1,I1,r1,ty,q1⟩=>?_)
 obtain⟨h1,h2⟩:=Ho I1 r1 ty;refine⟨T,id,pa,slot,hty,h1,h2,?_⟩;have hA:=ha dY pins s1 σ H1 _ I1 q1;rw[hs]at hA ⊢;refine Calls.callWith_builtin (by show (false || (backTo dY (Lk es X.env)).any (·.1))=false;rw[MJ] <;> rfl) (Calls.evalArgs_plain ?_)
 exact thn hA λus s2 ⟨vs,H2,I2,r2,q2⟩=>hm pins s2 σ H2 x vs v us Q I2 r1 r2 q2
end
def MtM (X:Cx)(id:String)(r:V->List V->Hp->VK->Prop):Prop :=
 ∀(pins:List (Addr×Obj)) (s:Shared) (σ:St) (H:Hp) (x:V) (xs:List V) (v:Value) (us:List Value) (Q:VK),Inv X pins σ H s->RelV x v->Vals xs us->r x xs H Q ->
  wpAny (model X.prog X.w) X.A (call (.builtin id) (v::us)) (EP X pins σ Q) X.xe s
theorem Vals.one:∀ {x:V} {us:List Value},Vals [x] us->∃u,us=[u]/\RelV x u
 |_,_,.cons r .nil=>⟨_,rfl,r⟩
theorem Vals.two:∀ {x y:V} {us:List Value},Vals [x,y] us->∃u v,us=[u,v]/\RelV x u/\RelV y v
 |_,_,_,.cons r (.cons q .nil)=>⟨_,_,rfl,r,q⟩
theorem Vals.zero:∀ {us:List Value},Vals [] us->us=[]
 |_,.nil=>rfl
theorem Vals.dropLast {xs:List V}{us:List Value}(h:Vals xs us):Vals xs.dropLast us.dropLast:=by
 induction h with
 |nil=>exact .nil
 |cons r t ih =>
  cases t with
  |nil=>exact .nil
  |cons q t'=>exact .cons r ih
theorem Vals.eraseIdx:∀ {xs:List V} {us:List Value} (i:Nat),Vals xs us->Vals (xs.eraseIdx i) (us.eraseIdx i)
 |_,_,_,.nil=>.nil
 |_,_,0,.cons _ t=>t
 |_,_,i+1,.cons r t=>.cons r (Vals.eraseIdx i t)
theorem Vals.rep {xs:List V}{us:List Value}(h:Vals xs us):∀k:Nat,Vals (Tc k xs).flatten (Tc k us).flatten
 | 0=>.nil
 |k+1=>by
  rw[List.replicate_succ,List.replicate_succ,List.flatten_cons,List.flatten_cons];exact Vals.append h (Vals.rep h k)
theorem DI {α:Type}(l:List α):l.eraseIdx (l.length - 1)=l.dropLast:=by
 induction l with
 |nil=>rfl
 |cons a r ih =>
  cases r with
  |nil=>rfl
  |cons b r =>
   have e:(a::b::r).length - 1=((b::r).length - 1)+1:=by
    have h1:(a::b::r).length=r.length+2:=rfl;have h2:(b::r).length=r.length+1:=rfl;omega
   rw[e,List.eraseIdx_cons_succ,ih]
   all_goals rfl
theorem yX {α:Type}:∀(l:List α) (i:Nat),(l.eraseIdx i).length<=l.length
 |[],_=>gn _
 |_::_,0=>SG _
 |_::r,i+1=>Nat.succ_le_succ (yX r i)
section
variable{X:Cx}{pins:List (Addr×Obj)}{σ:St}{H:Hp}{s:Shared}{l b:Addr}{xs ys zs:List V}
theorem Inv.Ga {its its':List Value}{n:Nat}{f:Array Value->Array Value}{t':Nat}(I:Inv X pins σ H s)(hH:H l=some (.lst xs))
  (e:s.heap.get? l=some { cls:=.type "list",data:=.seq its.toArray n }) (hf:f its.toArray=its'.toArray) (hv:Vals ys its') (hz:ys.length<=fe) :
  Inv X pins σ (upd H l (.lst ys)) { s with heap:=s.heap.update l (Obj.mapSeq f),toks:=t' }:=by
 have q:=PySem.IsL.update e f;rw[hf]at q;refine I.write (x:=l) (e:=l) (by rw[hH];exact trivial) (.inl rfl) (λb' u hb hu=>(Sx s.heap (Obj.mapSeq f) (R4 hb)).trans hu) ⟨_,q⟩ ?_
 exact⟨hz,its',_,hv,q⟩
theorem Inv.OR {its:List Value}{t':Nat}(I:Inv X pins σ H s)(hv:Vals ys its)(hz:ys.length<=fe) :
  Inv X pins σ (upd H s.heap.objs.size (.lst ys)) { s with heap:=s.heap.push { cls:=.type "list",data:=.seq its.toArray },toks:=t' } :=
 I.laid (λ_ _ q=>da _ q) (gn _) ⟨hz,its,0,hv,wt _ rfl⟩
theorem Inv.fresh (I:Inv X pins σ H s):H s.heap.objs.size=none:=I.hok.fresh (gn _)
theorem Inv.Am (I:Inv X pins σ H s)(hH:H l=some (.lst xs)):xs.length<=fe/\∃(its:List Value) (n:Nat),Vals xs its/\xs.length=its.length/\s.heap.get? l=some { cls:=.type "list",data:=.seq its.toArray n }:=by
 obtain⟨z,its,n,r,e⟩:=I.hok l _ hH;exact⟨z,its,n,r,r.length,e⟩
theorem Hr {n:Nat}(h:n<=fe):Builtin.List.listTooLong n=false:=by
 unfold Builtin.List.listTooLong;exact decide_eq_false (by omega)
end
section
variable{X:Cx}
def Kl:V->List V->Hp->VK->Prop:=λx vs H Q=>∃l xs y,x=.ref l/\vs=[y]/\H l=some (.lst xs)/\xs.length < fe/\Q .non (upd H l (.lst (xs++[y])))
theorem bu:MtM X "list.append" Kl:=by
 intro pins s σ H x vs v us Q I rx rv h;obtain⟨l,xs,y,rfl,rfl,hH,hz,q⟩:=h;cases rx;obtain⟨u,rfl,ru⟩:=rv.one;obtain⟨z,its,n,r,hl,e⟩:=I.Am hH;refine call_meets F.slot_list_append ⟨_,e,rfl⟩ F.entry_list_append (F.args_list_append_2 _ _) (PySem.list_append l its.toArray n u (by rw[kf];omega)) ⟨e,?_⟩
 refine⟨.non,_,I.Ga (its':=its++[u]) hH e (by simp) (r.append (.cons ru .nil)) ?_,rfl,q⟩
 rw[ka,R5];omega
def Km:V->List V->Hp->VK->Prop:=λx vs H Q=>∃l b xs zs,x=.ref l/\vs=[.ref b]/\H l=some (.lst xs)/\H b=some (.lst zs)/\xs.length+zs.length<=fe/\Q .non (upd H l (.lst (xs++zs)))
theorem yY:MtM X "list.extend" Km:=by
 intro pins s σ H x vs v us Q I rx rv h;obtain⟨l,b,xs,zs,rfl,rfl,hH,hB,hz,q⟩:=h;cases rx;obtain⟨u,rfl,ru⟩:=rv.one;cases ru;obtain⟨z,its,n,r,hl,e⟩:=I.Am hH;obtain⟨z2,BE,n2,r2,hl2,e2⟩:=I.Am hB;have hsz:its.toArray.size+BE.toArray.size<=fe:=by rw[kf,kf];omega
 have OS:¬(!its.toArray.isEmpty && Builtin.List.listTooLong (its.toArray.size+BE.toArray.size))=true:=by
  rw[Hr hsz,Bool.and_false];exact kj
 refine call_meets F.slot_list_extend ⟨_,e,rfl⟩ F.entry_list_extend (F.args_list_extend_2 _ _)
  (AutoSeq1.list_extend_list_list_0 l its.toArray n b BE.toArray n2 OS (by rw[kf];omega) (by omega)) ⟨e,e2,?_⟩
 refine⟨.non,_,I.Ga (its':=its++BE) hH e (by simp) (r.append r2) ?_,rfl,q⟩
 rw[ka];omega
def QW:V->List V->Hp->VK->Prop:=λx vs H Q=>∃l xs y,x=.ref l/\vs=[]/\H l=some (.lst xs)/\xs[xs.length - 1]?=some y/\Q y (upd H l (.lst xs.dropLast))
theorem Hs:MtM X "list.pop" QW:=by
 intro pins s σ H x vs v us Q I rx rv h;obtain⟨l,xs,y,rfl,rfl,hH,hy,q⟩:=h;cases rx;have hus:=rv.zero;subst hus;obtain⟨z,its,n,r,hl,e⟩:=I.Am hH;obtain⟨u,hu,ru⟩:=r.get hy;have hy':its.toArray[its.toArray.size - 1]?=some u:=by
  show its.toArray[its.length - 1]?=some u;rw[<-Array.getElem?_toList,<-hl];exact hu
 refine call_meets F.slot_list_pop ⟨_,e,rfl⟩ F.entry_list_pop (F.args_list_pop_1 _) (MeetsSeq.list_pop_last l its.toArray n u hy' (by rw[kf];omega)) ⟨e,?_⟩
 refine⟨y,_,I.Ga (its':=its.dropLast) hH e ?_ r.dropLast ?_,ru,q⟩
 ·show its.toArray.eraseIdxIfInBounds (its.toArray.size - 1)=its.dropLast.toArray;rw[kf,List.eraseIdxIfInBounds_toArray,DI]
 ·rw[List.length_dropLast];omega
def MK:V->List V->Hp->VK->Prop:=λx vs H Q=>∃l xs i k y,x=.ref l/\vs=[.int i]/\H l=some (.lst xs)/\-(2 ^ 63)<=i/\i < 2 ^ 63/\seqIndex? i xs.length=some k/\xs[k]?=some y/\Q y (upd H l (.lst (xs.eraseIdx k)))
theorem Ht:MtM X "list.pop" MK:=by
 intro pins s σ H x vs v us Q I rx rv h;obtain⟨l,xs,i,k,y,rfl,rfl,hH,h1,h2,hk,hy,q⟩:=h;cases rx;obtain⟨u,rfl,ru⟩:=rv.one;obtain⟨t,rfl⟩:=ru;obtain⟨z,its,n,r,hl,e⟩:=I.Am hH;obtain⟨w,hw,rw'⟩:=r.get hy;refine call_meets F.slot_list_pop ⟨_,e,rfl⟩ F.entry_list_pop (F.args_list_pop_2 _ _)
  (MeetsSeq.list_pop_at l its.toArray n i t k w (fitsIndex_both h1 h2) (by rw[kf,<-hl];exact hk) (by rw[<-Array.getElem?_toList];exact hw) (by rw[kf];omega)) ⟨e,?_⟩
 refine⟨y,_,I.Ga (its':=its.eraseIdx k) hH e ?_ (r.eraseIdx k) ?_,rw',q⟩
 ·show its.toArray.eraseIdxIfInBounds k=(its.eraseIdx k).toArray;rw[List.eraseIdxIfInBounds_toArray]
 ·have:=yX xs k;omega
def ML:V->List V->Hp->VK->Prop:=λx vs H Q=>∃l xs,x=.ref l/\vs=[]/\H l=some (.lst xs)/\Q .non (upd H l (.lst []))
theorem Hu:MtM X "list.clear" ML:=by
 intro pins s σ H x vs v us Q I rx rv h;obtain⟨l,xs,rfl,rfl,hH,q⟩:=h;cases rx;have hus:=rv.zero;subst hus;obtain⟨z,its,n,r,hl,e⟩:=I.Am hH;refine call_meets F.slot_list_clear ⟨_,e,rfl⟩ F.entry_list_clear (F.args_list_clear_1 _) (AutoSeq1.list_clear_list_0 l its.toArray n (by rw[kf];omega)) ⟨e,?_⟩
 exact⟨.non,_,I.Ga (its':=[]) (ys:=[]) hH e rfl .nil (Sl _),rfl,q⟩
def QX:R2:=λx y H Q=>∃l b xs zs,x=.ref l/\y=.ref b/\H l=some (.lst xs)/\H b=some (.lst zs)/\xs.length+zs.length<=fe/\∀p,H p=none->Q (.ref p) (upd H p (.lst (xs++zs)))
theorem MM:OpR X (binaryOp .Add) QX:=by
 intro pins s σ H x y v u Q I rx ry h;obtain⟨l,b,xs,zs,rfl,rfl,hH,hB,hz,q⟩:=h;cases rx;cases ry;obtain⟨z,its,n,r,hl,e⟩:=I.Am hH;obtain⟨z2,BE,n2,r2,hl2,e2⟩:=I.Am hB;refine PySem.P.add_list e e2 ?_ (by rw[kf,kf];omega)
 have ea:its.toArray++BE.toArray=(its++BE).toArray:=by simp
 rw[ea];exact⟨.ref _,_,I.OR (t':=s.toks) (r.append r2) (by rw[ka];omega),rfl,q _ I.fresh⟩
end
end L2
namespace Att
open PySem PySem.W PySem.Calls PyProof.Rows
theorem uS {P:Params}{h:Heap}:∀(ns:List Int) (vs:List Value),WellAll P h vs (ns.map WData.int)->IntsAre vs ns:=by
 intro ns
 induction ns with
 |nil =>
  intro vs w;rw[Sq]at w;cases w;exact .nil
 |cons n ns ih =>
  intro vs w;rw[gr]at w;cases w with
  |cons a b =>
   cases a;exact .cons _ _ (ih _ b)
theorem Gb {l:OpenLaw}{n:Nat}(hn:l.most=some n){P:Params}{h:Heap}{args:List WData}{vals:List Value}
  (Kn:l.row.toRowW.claim.pre args=true) (hwl:WellAll P h vals args) :
  ∃a vs ns,vals=[RZ a]/\args=[WData.list (ns.map WData.int)]/\h.get? a=some { cls:=.type "list",data:=.seq vs.toArray }/\IntsAre vs ns/\ns.length<=n:=by
 have hsh:WShape.hasAll [] args [.list .int]=true:=(pre_splitW Kn).1;have hc:l.pre.holds [] { args:=args }=true:=(pre_splitW Kn).2;obtain⟨d,r,rfl,h1,h2⟩:=hasAllW_cons hsh;obtain rfl:=hasAllW_nil h2;obtain⟨xs,rfl,h3⟩:=hasW_list h1;obtain⟨ns,rfl⟩:=items_int h3;have hlen:ns.length<=n:=by
  unfold OpenLaw.pre at hc;have h4:(WTm.not (.lt (.lit (.int (n:Int))) (.len (.arg 0)))).holds [] { args:=[.list (ns.map .int)] }=true:=by
   have h4:=(holds_andW hc).1;rw[hn]at h4;exact h4
  have h5:=condW_of h4 (w_not (w_lt w_lit (w_len_list (w_arg rfl))));rw[ba]at h5;refine Nat.le_of_not_lt λq=>?_
  have q':(n:Int) < ((ns.length:Nat):Int):=by omega
  first
   | (rw[decide_eq_true q']at h5;exact absurd h5 (by decide))
   | (simp at h5;omega)
 cases hwl with
 |cons w1 w2 =>
  cases w2;cases w1 with
  |list ho MN=>exact⟨_,_,ns,rfl,rfl,ho,uS ns _ MN,hlen⟩
theorem Gd (l:OpenLaw)(args:List WData):l.row.toRowW.claim.post args (.bool true) args=true :=
 postW_of (r:=l.row.toRowW) (X:=(true == true))
  (show WShape.has [] (.bool true) .bool=true by first | rfl | decide | simp[WShape.has,WShape.arms,WShape.armsAll])
  (show (WTm.eq .res (.lit (.bool true))).value [] { args:=args,res:=some (.bool true),after:=args }=some (.bool (true == true)) from w_eq_bool (w_res rfl) w_lit) rfl
theorem BG {l:OpenLaw}{n:Nat}{q:kr}{loose:List Str}{XP:(Str->Option Value)->Heap->Prop}{YP:World->Heap->Prop}{d:DefRec}
  (hn:l.most=some n) (hdf:d.params.defaults=[])
  (call:∀(w:World) (s₀ s₁:Shared) (mg mb:Str->Option Value) (fa:Addr) (o:Obj) (pm cd doc:Value) (a:Addr) (vs:List Value) (ns:List Int),
   Ground q loose [] XP w s₀ mg mb s₁.heap->YP w s₁.heap ->
   s₁.heap.get? fa=some o->o.data=.func (docDef d.name d.params d.body d.scope pm cd doc)->s₁.heap.CodeRec cd d.name->mg d.name=some (.ref fa) ->
   s₁.heap.get? a=some { cls:=.type "list",data:=.seq vs.toArray }->IntsAre vs ns->ns.length<=n->s₁.gens=#[] ->
   codeAny (model l.prog w) callerA (.call (.ref fa) ⟨[.ref a],[]⟩) (λr s'=>r=.ok (.ret (.bool true))/\OldK s₁.heap s'.heap/\s'.os=s₁.os/\AllBare s'.gens) s₁) :
  WalkO q loose XP YP l.row.toRowW d [] (λf vs=>PySem.call f vs):=by
 intro w s₀ s₁ mg mb G Y fa o pm cd doc dV kV ho hd hcd hD hmg hg args vals as Kn RS hrd hwl hlo;obtain rfl:dV=.none:=Dflts.none hD hdf;obtain rfl:kV=.none:=Dflts.noKw hD;obtain⟨a,vs,ns,rfl,rfl,MO,hints,hlen⟩:=Gb hn Kn hwl;refine enter_call (codeAny_mono (call w s₀ s₁ mg mb fa o pm cd doc a vs ns G Y ho (fd_plain hd) hcd hmg MO hints hlen hg) λr s' hq=>?_)
 obtain⟨rfl,h2,h3,h4⟩:=hq;exact⟨.inl ⟨.bool true,.bool true,[],rfl,λ_=>rfl,.bool true,Gd l _,λ_=>⟨List.Pairwise.nil,λ_ hm=>(nomatch hm)⟩⟩,h2,h3,h4⟩
section
variable{prog:kr}{w:World}{A:Around}{E:Value->Shared->Prop}{s:Shared}{K:Frag}
def ledger (h:Heap)(L d:Addr):List (Addr×Obj):=(TF h.objs.size).filterMap λa=>if a=L\/a=d then none else (h.get? a).map λo=>(a,o)
end
end Att
namespace L2
open PySem PySem.Spec PyProof.Rows
theorem yZ:∀ {vs:List Value} {ns:List Int},IntsAre vs ns->Vals (ns.map V.int) vs
 |_,_,.nil=>.nil
 |_,_,.cons n t h=>.cons ⟨t,rfl⟩ (yZ h)
def MQ (H:Hp):Prop:=∀b,H b=none\/∃o xs,H b=some (.frz o (.lst xs))
theorem Hv {P:kr}{w:World}{K:bo}{mg mb:Str->Option Value}{CX:CXT}{k:Nat}{fa a:Addr}{fd:fi}{x:Str}{sp:Sp}{s₁:Shared}{vs:List Value}{ns:List Int}
  (KX:K.In s₁.heap) (hns:s₁.heap.Ns mainGlobals mg) (hb:s₁.heap.Ns builtinsNs mb) (hbb:∀x:Str,x≠"__name__"->mb x=SR x) (QY:s₁.heap.NoLimit) (hg:s₁.gens=#[])
  (ha:s₁.heap.get? a=some { cls:=.type "list",data:=.seq vs.toArray }) (hi:IntsAre vs ns) (hl:ns.length<=fe) (hr:Room k callerA)
  (F:∀base:Heap,K.In base->base.Ns mainGlobals mg->aX P w K mg base CX k fa fd [x] sp) (OT:∀(s:Shared) (u:Value),BindsTo s fd ⟨[u],[]⟩ [(x,u)])
  (hsp:∀H:Hp,MQ H->SqL K H a (ns.map V.int)->sp [.ref a] H (λv _=>v=.bl true) λ_ _ _=>False)
  (hCX:∀H e s',CX [] H s₁ (λ_ _ _=>False) e s'->False) :
  codeAny (model P w) callerA (.call (.ref fa) ⟨[.ref a],[]⟩) (λr s'=>r=.ok (.ret (.bool true))/\OldK s₁.heap s'.heap/\s'.os=s₁.os/\AllBare s'.gens) s₁:=by
 have rv:=yZ hi;have QZ:=hi.length;have core:∀H:Hp,MQ H->SqL K H a (ns.map V.int)->HOk P w H s₁.heap->(∀b,H b≠none->b=a)->(H a≠none->K.lookup a=none) ->
   codeAny (model P w) callerA (.call (.ref fa) ⟨[.ref a],[]⟩) (λr s'=>r=.ok (.ret (.bool true))/\OldK s₁.heap s'.heap/\s'.os=s₁.os/\AllBare s'.gens) s₁:=by
  intro H hO hS hok hA hK;have E9:∀ {b:Addr} {o:Obj},s₁.heap.get? b=some o->H b=none->(Ac s₁.heap H).get? b=some o:=λe n=>G8 e n
  have noA:∀ {b:Addr} {o:Obj} {es:Array DictEntry} {ep:Nat},s₁.heap.get? b=some o->o.data=.dict es ep->H b=none:=λ{b o es ep} e d=>by
   cases q:H b with
   |none=>rfl
   |some u =>
    have e':b=a:=hA b (by rw[q];simp)
    subst e';rw[ha]at e;cases e;have d':Data.seq vs.toArray _=Data.dict es ep:=d;cases d'
  have nsK:∀ {b:Addr} {m:Str->Option Value},s₁.heap.Ns b m->(Ac s₁.heap H).Ns b m:=λ{b m} ⟨o,es,ep,e,d,r⟩=>⟨o,es,ep,E9 e (noA e d),d,r⟩
  have hKb:K.In (Ac s₁.heap H):=λb o e=>E9 (KX b o e) (by
   cases q:H b with
   |none=>rfl
   |some u =>
    have e':b=a:=hA b (by rw[q];simp)
    subst e';rw[hK (by rw[q];simp)]at e;cases e)
  have hM:Mod K mg (Ac s₁.heap H):=⟨hKb,nsK hns,⟨mb,nsK hb,hbb⟩,let ⟨mc,h1,h2⟩:=QY;⟨mc,nsK h1,h2⟩⟩
  have e0:vH P w K mg (Ac s₁.heap H) callerA [] s₁ H:=⟨rfl,hM,λb o e=>J9 e,Nat.le_of_eq (F2 _ _),trivial,λb hb=>absurd (show b∈([]:List Addr) from hb) (by simp),hok,.of_eq hg⟩
  refine codeAny_mono ((F _ hKb (nsK hns)).run callerA [] s₁ H ⟨[.ref a],[]⟩ [.ref a] [.ref a] _ _ hr e0 (OT s₁ (.ref a)) (.cons rfl .nil) (hsp H hO hS)) λr s' h=>?_
  cases r with
  |error e=>exact(hCX H e s' h).elim
  |ok fl =>
   cases fl with
   |next=>exact Sb h
   |brk=>exact Sb h
   |cont=>exact Sb h
   |ret u =>
    obtain⟨v,H',os,bare,un,Q0,r',q⟩:=h;have q':v=.bl true:=q;subst q';obtain rfl:u=Tq true:=r';refine⟨rfl,OldK.of_keep λb o e=>?_,os,bare⟩
    cases q:H b with
    |none=>exact un.keep b o e q (by intro z;exact absurd (show b∈([]:List Addr) from z) (by simp)) (by simp)
    |some u =>
     rcases hO b with z | ⟨ob,xs,z⟩
     ·rw[q]at z;cases z
     ·have z2:=un.qY b ob _ z;obtain⟨e1,_⟩:=hok b _ z;obtain⟨e2,_⟩:=Q0 b _ z2;rw[e]at e1;cases e1;exact e2
 cases hk:K.lookup a with
 |some o =>
  have e:=KX a o hk;rw[ha]at e;cases e;refine core (λ_=>none) (λ_=>.inl rfl) (.inr ⟨_,vs.toArray,_,hk,rfl,rfl,rfl,by rw[kf,QZ];exact hl,by simpa using rv⟩) (λb u z=>by have z':(none:Option HO)=some u:=z;cases z') (λb z=>absurd rfl z) λz=>absurd rfl z
 |none =>
  refine core (λb=>if b=a then some (.frz { cls:=.type "list",data:=.seq vs.toArray } (.lst (ns.map V.int))) else none) (λb=>?_) (.inl (.inr ⟨{ cls:=.type "list",data:=.seq vs.toArray },if_pos rfl⟩)) (λb u z=>?_) (λb z=>?_) λ_=>hk
  ·by_cases hb:b=a
   ·exact .inr ⟨_,_,if_pos hb⟩
   ·exact .inl (if_neg hb)
  ·by_cases hb:b=a
   ·have z':=(if_pos hb).symm.trans z;cases z';subst hb;exact⟨ha,by rw[ba];exact hl,vs,_,rv,ha⟩
   ·have z':=(if_neg hb).symm.trans z;cases z'
  ·by_cases hb:b=a
   ·exact hb
   ·exact absurd (if_neg hb) z
theorem Ko {l:PySem.W.OpenLaw}{n k:Nat}{q:kr}{loose:List Str}{XP:(Str->Option Value)->Heap->Prop}{YP:World->Heap->Prop}{d:DefRec}{K:Params->bo}{CX:World->CXT}{sp:World->Sp}{x:Str}
  (hn:l.most=some n) (hn2:n<=fe) (hdf:d.params.defaults=[]) (hr:Room k callerA)
  (hY:∀(w:World) (h:Heap),YP w h->(K w.params).In h)
  (F:∀(w:World) (mg:Str->Option Value) (fa:Addr) (h:Heap),(K w.params).In h->h.Ns mainGlobals mg->mg d.name=some (.ref fa) ->
   ∃fd:fi,(∀(s:Shared) (u:Value),BindsTo s fd ⟨[u],[]⟩ [(x,u)]) /\
    ∀base:Heap,(K w.params).In base->base.Ns mainGlobals mg->aX l.prog w (K w.params) mg base (CX w) k fa fd [x] (sp w))
  (hsp:∀(w:World) (H:Hp) (a:Addr) (ns:List Int),ns.length<=n->MQ H->SqL (K w.params) H a (ns.map V.int)->sp w [.ref a] H (λv _=>v=.bl true) λ_ _ _=>False)
  (hCX:∀(w:World) (H:Hp) (s:Shared) (e:Value) (s':Shared),CX w [] H s (λ_ _ _=>False) e s'->False) :
  PySem.W.WalkO q loose XP YP l.row.toRowW d [] (λf vs=>PySem.call f vs):=by
 refine Att.BG hn hdf λw s₀ s₁ mg mb fa o pm cd doc a vs ns G Y ho hd hcd hmg MO hints hlen hg=>?_
 have KX:=hY w _ Y;obtain⟨fd,hb,hF⟩:=F w mg fa _ KX G.T.g hmg;exact Hv KX G.T.g G.T.b G.T.builtins G.T.nolimit hg MO hints (ku hlen hn2) hr hF hb (λH hO hS=>hsp w H a ns hlen hO hS) λH e s'=>hCX w H s₁ e s'
def inClass (s:Stmt)(j:Nat):Stmt:=match s with
 | .ClassDef _ _ _ body _ _ _ _ _ _ _=>body.getD j (.Pass ⟨0,0,0,0⟩)
 |_=>.Pass ⟨0,0,0,0⟩
def vi (s:Stmt):Arguments:=match s with
 | .FunctionDef _ a _ _ _ _ _ _ _ _=>a
 |_=>{ posonlyargs:=[],args:=[],vararg:=none,kwonlyargs:=[],kw_defaults:=[],kwarg:=none,defaults:=[] }
def oU (s:Stmt):List Stmt:=match s with
 | .FunctionDef _ _ b _ _ _ _ _ _ _=>b
 |_=>[]
def ay (s:Stmt):Scope:=match s with
 | .FunctionDef _ _ _ _ _ _ sc _ _ _=>sc
 |_=>{ kind:=.function,names:=[],isGenerator:=false,isCoroutine:=false }
abbrev CX0:CXT:=λ_ _ _ _ _ _=>False
abbrev E0:XK:=λ_ _ _=>False
theorem aV {X:Cx}:Passes CX0 X E0:=λ_ _ _ _ _ _ _ h=>h.elim
structure Fun (K:bo)(x qual:Str)(st:Stmt)(f:Addr)(fd:fi):Prop where
 ex:∃(oc:Value) (od:Option Addr) (kV doc pm:Value) (an:Option Addr) (cdv ct:Value) (osl:Array (Option Value)),
  fd=PySem.W.fnOf x qual (vi st) (oU st) (ay st) .none kV doc pm an cdv ct/\K.lookup f=some ⟨oc,od,.func fd,osl⟩/\PySem.W.codeIn K cdv qual=true
 kp:Tr K (.ref f)=true
section
variable{P:kr}{w:World}{K:bo}{mg:Str->Option Value}{base:Heap}
theorem Fun.ok {x qual:Str}{st:Stmt}{f:Addr}{fd:fi}{N ps:List Str}{k:Nat}{sp:Sp}(F:Fun K x qual st f fd)(S:aO N ps (ay st))(len:∀vs H Q E,sp vs H Q E->vs.length=ps.length)
  (BC:∀(cdv:Value) (A:Around) (outer:List Env) (s:Shared) (H:Hp) (vs:List V) (Q:VK) (E:XK),Room k (A.deeper (envOfC qual (ay st) s.heap.objs.size f cdv))->sp vs H Q E ->
   ∃t,PSs (bt CX0 P w K mg base N qual (ay st) f cdv A outer s H E).nox (oU st) t/\t { nx:=λ_ H'=>Q .non H',rt:=Q } (start N vs) H):aX P w K mg base CX0 (k+1) f fd ps sp:=by
 obtain⟨oc,od,kV,doc,pm,an,cdv,ct,osl,rfl,lk,hcd⟩:=F.ex;refine LZ lk hcd S len λA outer s H vs Q E hr hsp=>?_
 obtain⟨t,h,q⟩:=BC cdv A outer s H vs Q E hr hsp;exact⟨t,h.nox,q⟩
theorem Fun.binds {x qual:Str}{st:Stmt}{f:Addr}{fd:fi}{ps:List Str}(F:Fun K x qual st f fd)
  (h:∀(kV doc pm:Value) (an:Option Addr) (cdv ct:Value) (us:List Value),us.length=ps.length->bindArgs (PySem.W.fnOf x qual (vi st) (oU st) (ay st) .none kV doc pm an cdv ct) ⟨us,[]⟩=pure (ps.zip us)):Binds K fd ps []:=by
 obtain⟨oc,od,kV,doc,pm,an,cdv,ct,osl,rfl,lk,hcd⟩:=F.ex;exact .all (h kV doc pm an cdv ct)
theorem MR {x qual:Str}{st:Stmt}{f:Addr}{oc:Value}{od an:Option Addr}{osl:Array (Option Value)}{kV doc pm cdv ct:Value}(l:K.lookup f=some ⟨oc,od,.func (PySem.W.fnOf x qual (vi st) (oU st) (ay st) .none kV doc pm an cdv ct),osl⟩)
  (c:PySem.W.codeIn K cdv qual=true) (k:Tr K (.ref f)=true):Fun K x qual st f (PySem.W.fnOf x qual (vi st) (oU st) (ay st) .none kV doc pm an cdv ct):=⟨⟨oc,od,kV,doc,pm,an,cdv,ct,osl,rfl,l,c⟩,k⟩
end
section
variable{X:Cx}
theorem pv (i:Nat){x:Str}{pos:Pos}(hN:X.N[i]?=some x:=by rfl)(hv:Vis X.env.scope x:=by first | exact ma rfl | exact Or.inr (ma rfl) | exact Or.inr (Or.inr rfl))(hd:(x == ("__debug__":Str))=false:=by decide)
  (hcd:(x == ("__classdict__":Str))=false:=by decide):PE X (.Name x pos) (Ov i):=Mt hN hv hd hcd
end
theorem bK {A B:Prop}(h:B):if false=true then A else B:=by
 rw[if_neg kj];exact h
theorem cC {A B:Prop}(h:A):if true=true then A else B:=by
 rw[if_pos rfl];exact h
theorem dc {c A B:Prop}[Decidable c](h1:c->A)(h2:¬c->B):if c then A else B:=by
 by_cases h:c
 ·rw[if_pos h];exact h1 h
 ·rw[if_neg h];exact h2 h
def bc (H H':Hp):Prop:=∀b o,H b=some o->H' b=some o
theorem bc.refl (H:Hp):bc H H:=λ_ _ h=>h
theorem bc.trans {H H1 H2:Hp}(a:bc H H1)(b:bc H1 H2):bc H H2:=λc o h=>b c o (a c o h)
theorem bc.free {H H':Hp}(e:bc H H'){l:Addr}(h:H' l=Option.none):H l=Option.none:=by
 cases q:H l with
 |none=>rfl
 |some o =>
  rw[e l o q]at h;cases h
theorem bc.seq {K:bo}{H H':Hp}{a:Addr}{xs:List V}(e:bc H H')(h:SqL K H a xs):SqL K H' a xs:=by
 rcases h with (h | ⟨o,h⟩) | h
 ·exact .inl (.inl (e _ _ h))
 ·exact .inl (.inr ⟨o,e _ _ h⟩)
 ·exact .inr h
theorem ic:SR "len"=some (.builtin "len"):=by trivial
theorem An:SR "max"=some (.builtin "max"):=by trivial
theorem MS:SR "any"=some (.builtin "any"):=by trivial
theorem MT:SR "all"=some (.builtin "all"):=by trivial
theorem Hw:SR "int"=some (.type "int"):=by trivial
theorem Ao:SR "str"=some (.type "str"):=by trivial
theorem cW:SR "list"=some (.type "list"):=by trivial
mutual
def DV (K:bo)(H:Hp):PyData->V->Prop
 | .none,x=>x=.non
 | .bool b,x=>x=.bl b
 | .int i,x=>x=.int i
 | .str y,x=>x=.str y
 | .list ds,x=>∃a xs,x=.ref a/\SqL K H a xs/\DVs K H ds xs
 | .tuple ds,x=>∃a xs,x=.ref a/\SqT K H a xs/\DVs K H ds xs
 | .dict _,_=>False
def DVs (K:bo)(H:Hp):List PyData->List V->Prop
 |[],xs=>xs=[]
 |d::ds,xs=>∃x r,xs=x::r/\DV K H d x/\DVs K H ds r
end
section
variable{X:Cx}{pins:List (Addr×Obj)}{σ:St}{H:Hp}{s:Shared}
mutual
theorem DV.reads (I:Inv X pins σ H s):∀(d:PyData) {x:V} {u:Value},DV X.K H d x->RelV x u->∃as,Reads s.heap u d as
 | .none,_,_,h,r=>by
  have h':=h;unfold DV at h';subst h';cases r;exact⟨_,.none⟩
 | .bool b,_,_,h,r=>by
  have h':=h;unfold DV at h';subst h';cases r;exact⟨_,.bool b⟩
 | .int i,_,_,h,r=>by
  have h':=h;unfold DV at h';subst h';obtain⟨t,rfl⟩:=r;exact⟨_,.int i t⟩
 | .str y,_,_,h,r=>by
  have h':=h;unfold DV at h';subst h';obtain⟨t,rfl⟩:=r;exact⟨_,.str y t⟩
 | .list ds,_,_,h,r=>by
  have h':=h;unfold DV at h';obtain⟨a,xs,rfl,hq,hs⟩:=h';cases r;obtain⟨its,rv,⟨o,n,e,c,_,dt⟩,_⟩:=I.list hq;obtain⟨as,q⟩:=DVs.reads I ds hs rv;exact⟨_,.list e c dt (by simpa using q)⟩
 | .tuple ds,_,_,h,r=>by
  have h':=h;unfold DV at h';obtain⟨a,xs,rfl,hq,hs⟩:=h';cases r;obtain⟨its,rv,⟨o,e,c,n,dt⟩,_⟩:=I.tuple hq;obtain⟨as,q⟩:=DVs.reads I ds hs rv;exact⟨_,.tuple e c dt (by simpa using q)⟩
 | .dict _,_,_,h,_=>by
  have h':=h;unfold DV at h';exact h'.elim
theorem DVs.reads (I:Inv X pins σ H s):∀(ds:List PyData) {xs:List V} {us:List Value},DVs X.K H ds xs->Vals xs us->∃as,ReadsAll s.heap us ds as
 |[],_,_,h,r=>by
  have h':=h;unfold DVs at h';subst h';cases r;exact⟨_,.nil⟩
 |d::ds,_,_,h,r=>by
  have h':=h;unfold DVs at h';obtain⟨x,q,rfl,h1,h2⟩:=h';cases r with
  |cons r1 r2 =>
   obtain⟨as,e1⟩:=DV.reads I d h1 r1;obtain⟨bs,e2⟩:=DVs.reads I ds h2 r2;exact⟨_,.cons e1 e2⟩
end
def OU (K:bo):R2:=λx y H Q=>∃d e,DV K H d x/\DV K H e y/\SeqAt.shaped d=true/\SeqAt.shaped e=true/\Q (.bl (Tv d e)) H
def Q1 (K:bo):R2:=λx y H Q=>∃d e,DV K H d x/\DV K H e y/\SeqAt.shaped d=true/\SeqAt.shaped e=true/\Q (.bl (!Tv d e)) H
theorem sN (hu:X.A.units+64 < cLine):OpR X (SH .Eq) (OU X.K):=by
 intro pins s σ H x y v u Q I rx ry h;obtain⟨d,e,hd,he,sd,se,q⟩:=h;obtain⟨as,r1⟩:=DV.reads I d hd rx;obtain⟨bs,r2⟩:=DV.reads I e he ry;exact eq_dataH r1 r2 sd se hu ⟨.bl _,H,I,rfl,q⟩
theorem sO (hu:X.A.units+64 < cLine):OpR X (SH .NotEq) (Q1 X.K):=by
 intro pins s σ H x y v u Q I rx ry h;obtain⟨d,e,hd,he,sd,se,q⟩:=h;obtain⟨as,r1⟩:=DV.reads I d hd rx;obtain⟨bs,r2⟩:=DV.reads I e he ry;exact ne_dataH r1 r2 sd se hu ⟨.bl _,H,I,rfl,q⟩
end
theorem BH (K:bo)(H:Hp):∀ws:List Str,DVs K H (ws.map SU) (ws.map V.str)
 |[]=>by unfold DVs;rfl
 |w::ws=>by
  show DVs K H (SU w::ws.map SU) _;unfold DVs;exact⟨_,_,rfl,by unfold DV;rfl,BH K H ws⟩
theorem vj {K:bo}{H:Hp}{a:Addr}{ws:List Str}(h:SqL K H a (ws.map V.str)):DV K H (.list (ws.map SU)) (.ref a):=by
 unfold DV;exact⟨a,_,rfl,h,BH K H ws⟩
theorem ur:∀ws:List Str,(∀w∈ws,Sg w=true)->tm (ws.map SU)=true
 |[],_=>by simp[tm]
 |w::ws,h=>by
  simp only[gr,tm,R8,SE];exact⟨h w eg,ur ws λv hv=>h v (km _ hv)⟩
theorem vK:∀ws:List Str,Se (ws.map SU)<=1
 |[]=>by simp[Se]
 |w::ws=>by
  have:=vK ws;simp only[gr,Se,Sr];omega
theorem vL:∀ {ys:List Str} {us:List Value},Vals (ys.map V.str) us->StrsAre us ys
 |[],_,.nil=>.nil
 |y::ys,_,.cons r t=>by
  obtain⟨tk,rfl⟩:=r;exact .cons y tk (vL t)
theorem nj:∀l:List (Str×Tok),Vals ((l.map (·.1)).map V.str) (strValues l)
 |[]=>.nil
 |p::l=>.cons ⟨p.2,rfl⟩ (nj l)
section
variable{X:Cx}
def rJoin (K:bo):V->List V->Hp->VK->Prop:=λx vs H Q=>∃sep a ys,x=.str sep/\vs=[.ref a]/\SqL K H a (ys.map V.str)/\(ys.map (·.length)).sum+ys.length * sep.length<=16777216/\Q (.str (ky sep ys)) H
theorem l6:MtR X "str.join" (rJoin X.K):=by
 intro pins s σ H x vs v us Q I rx rv h;obtain⟨sep,a,ys,rfl,rfl,hq,hz,q⟩:=h;obtain⟨t,rfl⟩:=rx;obtain⟨u,rfl,ru⟩:=rv.one;cases ru;obtain⟨its,r,pl,_⟩:=I.list hq;refine join_list pl.isList (vL (by simpa using r)) hz λt' k=>?_
 rw[show Txt.join sep ys=ky sep ys from StrLaws.glued_eq_join sep ys]
 exact⟨.str _,H,I.tok _,⟨_,rfl⟩,q⟩
def MU:V->List V->Hp->VK->Prop:=λx vs H Q=>∃z y,x=.str z/\vs=[.str y]/\(y.length == 0)=false/\z.length+2<=fe/\∀p,H p=none->Q (.ref p) (upd H p (.lst ((Txt.split z y).map V.str)))
theorem BI:MtR X "str.split" MU:=by
 intro pins s σ H x vs v us Q I rx rv h;obtain⟨x,y,rfl,rfl,hy,hsz,q⟩:=h;obtain⟨t,rfl⟩:=rx;obtain⟨_,rfl,u,rfl⟩:=rv.one;have hn:(Builtin.Str.partsBetween x (Tf x y 0 x.length (x.length+1)) y.length).length<=fe:=by
  have e1:=StrLaws.occ_length_le x y 0 x.length (x.length+1);rw[length_partsBetween];omega
 have fin:∀(l:List (Str×Tok)) (tk:Nat),l.map (·.1)=Txt.split x y->(Txt.split x y).length<=fe ->
   EP X pins σ Q (.ref s.heap.objs.size) { s with heap:=s.heap.push { cls:=.type "list",data:=.seq (strValues l).toArray },toks:=tk }:=λl tk e hz=>by
  refine⟨.ref _,_,I.OR (t':=tk) (ys:=(Txt.split x y).map V.str) (by rw[<-e];exact nj l) (by rw[ba];exact hz),rfl,q _ I.fresh⟩
 have OV:1<=fe:=by omega
 cases h1:(decide (x.length < y.length) || decide (Builtin.Str.strKind x < Builtin.Str.strKind y))
 ·cases hf:(Tf x y 0 x.length (x.length+1)).isEmpty
  ·refine call_meets F.slot_str_split (typeIs_str _ _ _) F.entry_str_split (F.args_str_split_2 _ _) (meets_str_split_sep x y t u h1 hy hf (by omega) hn) ?_
   have e:Txt.split x y=Builtin.Str.partsBetween x (Tf x y 0 x.length (x.length+1)) y.length:=(if_neg (ne_true_of_eq_false h1)).trans (if_neg (ne_true_of_eq_false hf));show wants (EP X pins σ Q) X.xe _ { s with toks:=_,heap:=s.heap.push { cls:=.type "list",data:=.seq (strsFrom s.toks (Builtin.Str.partsBetween x (Tf x y 0 x.length (x.length+1)) y.length)).toArray } }
   rw[strsFrom_eq];exact fin (numbered s.toks _) _ ((numbered_texts _ _).trans e.symm) (by rw[e];exact hn)
  ·have e:Txt.split x y=[x]:=(if_neg (ne_true_of_eq_false h1)).trans (if_pos hf);exact call_meets F.slot_str_split (typeIs_str _ _ _) F.entry_str_split (F.args_str_split_2 _ _) (meets_str_split_not_found x y t u h1 hy hf)
    (fin [(x,t)] s.toks e.symm (by rw[e];exact OV))
 ·have e:Txt.split x y=[x]:=if_pos h1;exact call_meets F.slot_str_split (typeIs_str _ _ _) F.entry_str_split (F.args_str_split_2 _ _) (meets_str_split_cannot_occur x y t u h1)
   (fin [(x,t)] s.toks e.symm (by rw[e];exact OV))
theorem iM:OpR X (binaryOp .Add) (λx y H Q=>∃l b xs zs,x=.ref l/\y=.ref b/\H l=some (.lst xs)/\H b=some (.lst zs)/\xs.length+zs.length<=fe/\∀p,H p=none->Q (.ref p) (upd H p (.lst (xs++zs)))):=MM
end
theorem dB (a b:Str):(a++b).cps.toList=a.cps.toList++b.cps.toList:=by
 show (a.cps++b.cps).toList=_;simp
theorem BJ (c:Nat):∀(a b p q:List Nat),c∉a->c∉b->a++c::p=b++c::q->a=b/\p=q
 |[],[],p,q,_,_,e=>by simpa using e
 |[],y::b,p,q,_,hb,e=>by
  have e':c::p=y::(b++c::q):=e;injection e' with e1 _
  exact absurd (by rw[e1];exact eg) hb
 |x::a,[],p,q,ha,_,e=>by
  have e':x::(a++c::p)=c::q:=e;injection e' with e1 _
  exact absurd (by rw[<-e1];exact eg) ha
 |x::a,y::b,p,q,ha,hb,e=>by
  have e':x::(a++c::p)=y::(b++c::q):=e;injection e' with e1 e2
  obtain⟨h1,h2⟩:=BJ c a b p q (λh=>ha (km _ h)) (λh=>hb (km _ h)) e2
  exact⟨by rw[e1,h1],h2⟩
theorem Aq {a b:Str}(h:a.cps.toList=b.cps.toList):a=b:=by
 cases a;cases b;have:=Array.toList_inj.mp h;subst this;rfl
theorem gk (c:Nat)(x y:Str)(r:List Str):(ky ⟨#[c]⟩ (x::y::r)).cps.toList=x.cps.toList++c::(ky ⟨#[c]⟩ (y::r)).cps.toList:=by
 show ((x++⟨#[c]⟩)++ky ⟨#[c]⟩ (y::r)).cps.toList=_;rw[dB,dB];simp
theorem BK (c:Nat):∀(vs ws:List Str),vs≠[]->ws≠[]->(∀v∈vs,c∉v.cps.toList)->(∀w∈ws,c∉w.cps.toList)->ky ⟨#[c]⟩ vs=ky ⟨#[c]⟩ ws->vs=ws
 |[],_,h,_,_,_,_=>absurd rfl h
 |_,[],_,h,_,_,_=>absurd rfl h
 |[x],[y],_,_,_,_,e=>by rw[show x=y from e]
 |[x],y::z::r,_,_,hv,_,e=>by
  have e1:=congrArg (λt:Str=>t.cps.toList) e
  have e2:x.cps.toList=y.cps.toList++c::(ky ⟨#[c]⟩ (z::r)).cps.toList:=e1.trans (gk c y z r);exact absurd (by rw[e2];exact de _ eg) (hv x eg)
 |x::z::r,[y],_,_,_,hw,e=>by
  have e1:=congrArg (λt:Str=>t.cps.toList) e
  have e2:x.cps.toList++c::(ky ⟨#[c]⟩ (z::r)).cps.toList=y.cps.toList:=(gk c x z r).symm.trans e1;exact absurd (by rw[<-e2];exact de _ eg) (hw y eg)
 |x::x2::r,y::y2::q,_,_,hv,hw,e=>by
  have e1:=congrArg (λt:Str=>t.cps.toList) e
  have e2:=(gk c x x2 r).symm.trans (e1.trans (gk c y y2 q));obtain⟨h1,h2⟩:=BJ c _ _ _ _ (hv x eg) (hw y eg) e2;have h3:=BK c (x2::r) (y2::q) (Sd _ _) (Sd _ _) (λv h=>hv v (km _ h)) (λw h=>hw w (km _ h)) (Aq h2)
  rw[Aq h1,h3]
theorem Hx (x y:Str):Txt.split x y≠[]:=by
 unfold Txt.split;split
 ·exact Sd _ _
 ·split
  ·exact Sd _ _
  ·rw[StrLaws.partsBetween_eq];intro h;have:=congrArg List.length h;revert this;cases (Tf x y 0 x.length (x.length+1)) <;> simp[StrLaws.partsFrom]
theorem DJ {c:Nat}{ws:List Str}(h0:ws≠[])(h:∀w∈ws,c∉w.cps.toList):Txt.split (ky ⟨#[c]⟩ ws) ⟨#[c]⟩=ws :=
 BK c _ _ (Hx _ _) h0 (StrLaws.split_free _ c) h (StrLaws.join_split _ _)
theorem oV (c:Nat):∀ws:List Str,(ky ⟨#[c]⟩ ws).length<=(ws.map (·.length)).sum+ws.length
 |[]=>Sl _
 |[x]=>by show x.length<=_;simp
 |x::y::r=>by
  have ih:=oV c (y::r);have e:(ky ⟨#[c]⟩ (x::y::r)).length=x.length+1+(ky ⟨#[c]⟩ (y::r)).length:=by
   have:=congrArg List.length (gk c x y r);rw[ka,rf]at this;have l1:∀z:Str,z.cps.toList.length=z.length:=λz=>by simp[Str.length]
   rw[l1,l1,l1]at this;omega
  simp only[gr,List.sum_cons,rf]at ih ⊢;omega
theorem yx {c:Nat}:∀ {ws:List Str},ws≠[]->(∀w∈ws,1<=w.length)->1<=(ky ⟨#[c]⟩ ws).length
 |[],h,_=>absurd rfl h
 |[x],_,h=>h x eg
 |x::y::r,_,h=>by
  have h1:=h x eg;have:=congrArg List.length (gk c x y r);rw[ka]at this;have l1:∀z:Str,z.cps.toList.length=z.length:=λz=>by simp[Str.length]
  rw[l1,l1]at this;omega
theorem DK {b:Bool}{A B:Prop}(hb:b=true)(h:B):if (!b)=true then A else B:=by
 subst hb;exact bK h
theorem pM {b:Bool}{A B:Prop}(hb:b=true)(h:A):if b=true then A else B:=by
 subst hb;exact cC h
theorem pN {b:Bool}{A B:Prop}(hb:b=false)(h:B):if b=true then A else B:=by
 subst hb;exact bK h
theorem ax {H:Hp}{p:Addr}{o:HO}(h:H p=none):bc H (upd H p o):=λb u e=>by
 rw[ao (az e h)];exact e
theorem bc.own {H H':Hp}{p:Addr}{o:HO}(s:bc H H')(h:H p=none):bc H (upd H' p o):=λb u e=>by
 rw[ao (az e h)];exact s b u e
theorem bc.new {H H':Hp}{p:Addr}{o:HO}(s:bc H H')(h:H' p=none):bc H (upd H' p o):=s.trans (ax h)
theorem bc.nn {H H':Hp}(s:bc H H'){p:Addr}{o:HO}(h:H p=none)(e:H' p=some o){b:Addr}{u:HO}(eb:H b=some u):b≠p:=az eb h
theorem rj (xs:List V)(k:Nat):dX xs (some (k:Int)) none=xs.drop k:=by
 unfold dX;rw[HT.oQ,HT.BD]
 by_cases h:k<=xs.length
 ·rw[Nat.min_eq_left h];exact List.take_of_length_le (by rw[To];exact gn _)
 ·have h':xs.length<=k:=by omega
  rw[Nat.min_eq_right h',List.drop_of_length_le h',List.drop_of_length_le (gn _)];simp
theorem L0 {α:Type}{xs:List α}{i:Int}{n:Nat}(hn:xs.length=n)(h0:0<=i)(h1:i < n):∃c,atI xs i=some c/\c∈xs:=by
 have hi:i.toNat < xs.length:=by omega
 have e:((i.toNat:Nat):Int)=i:=by omega
 refine⟨xs[i.toNat],?_,List.getElem_mem hi⟩;have q:=cq (tu hi);rw[e]at q;exact q
def bX (scope outer:Scope):Scope :=
 { scope with names:=scope.names.map λ(n,k)=>if (k == .free && outer.kind == .function && outer.names.lookup n == some .cell) then (n,.cell) else (n,k) }
structure bP (scope outer:Scope)(x:Str)(N M:List Str):Prop where
 kind:scope.kind=.function
 Hy:outer.kind=.function
 sP:∀y∈scope.names,y.2≠.cell
 names:∀y∈scope.names,y.2=.local->scope.names.lookup y.1=some .local
 hx:scope.names.lookup x=some .local
 free:∀y∈scope.names,y.2=.free->outer.names.lookup y.1=some .cell
 nl:∀n∈M,(bX scope outer).names.lookup n≠some .local
 ndM:M.Nodup
 nd:N.Nodup
 len:M.length=N.length
 rel:∀i:Nat,i < N.length->M[i]?=N[i]?\/M[i]?=some SI
 em:(bX scope outer).names.lookup SI=none
theorem bP.mem {scope outer:Scope}{x:Str}{N M:List Str}(S:bP scope outer x N M){n:Str}{k:NameKind}(h:(bX scope outer).names.lookup n=some k)(hk:k=.cell\/k=.free) :
  k=.cell/\(n,SQ)∈scope.names/\outer.names.lookup n=some .cell:=by
 obtain⟨⟨n',k'⟩,hm,e⟩:=List.mem_map.mp (S0 h);dsimp only at e
 by_cases hc:(k' == SQ && outer.kind == .function && outer.names.lookup n' == some .cell)=true
 ·rw[if_pos hc]at e;injection e with e1 e2
  subst e1 e2;rw[SE,SE]at hc;have hk':k'=.free:=beq_iff_eq.mp hc.1.1;subst hk';exact⟨rfl,hm,beq_iff_eq.mp hc.2⟩
 ·rw[if_neg hc]at e;injection e with e1 e2
  subst e1 e2;rcases hk with z | z
  ·exact absurd z (S.sP _ hm)
  ·subst z
   exfalso
   refine hc ?_;rw[S.free _ hm rfl,S.Hy];rfl
theorem Ar {env:Env}{f:Str×NameKind->List (Str×Addr)->Sem (ForInStep (List (Str×Addr)))}
  (h1:∀n k r,k≠SQ->f (n,k) r=pure (.yield r)) (h2:∀n r c,env.cells.lookup n=some c->f (n,.free) r=pure (.yield ((n,c)::r))) :
  ∀(ns:List (Str×NameKind)) (acc:List (Str×Addr)),(∀y∈ns,y.2=.free->∃c,env.cells.lookup y.1=some c)->(∀n c,acc.lookup n=some c->env.cells.lookup n=some c) ->
   ∃cl,(forIn ns acc f:Sem (List (Str×Addr)))=pure cl/\(∀n c,cl.lookup n=some c->env.cells.lookup n=some c)/\(∀n c,acc.lookup n=some c->(cl.lookup n).isSome=true)/\∀y∈ns,y.2=.free->(cl.lookup y.1).isSome=true
 |[],acc,_,ha=>⟨acc,by simp,ha,λn c e=>by rw[e];rfl,λy hy=>nomatch hy⟩
 | (n,k)::ns,acc,hn,ha=>by
  by_cases hk:k=SQ
  ·subst hk;obtain⟨c,hc⟩:=hn (n,.free) eg rfl;have ha':∀m d,((n,c)::acc).lookup m=some d->env.cells.lookup m=some d:=λm d e=>by
    rw[List.lookup_cons]at e;split at e
    ·rename_i hb;have:m=n:=beq_iff_eq.mp hb;subst this;rw[<-si e];exact hc
    ·exact ha m d e
   obtain⟨cl,e,p1,p2,p3⟩:=Ar h1 h2 ns ((n,c)::acc) (λy hy=>hn y (km _ hy)) ha'
   have hnn:(cl.lookup n).isSome=true:=p2 n c (by simp[List.lookup_cons])
   refine⟨cl,?_,p1,λm d em=>?_,λy hy hf=>?_⟩
   ·rw[List.forIn_cons,h2 n acc c hc,pure_bind];exact e
   ·by_cases hm:m=n
    ·subst hm;exact hnn
    ·exact p2 m d (by rw[List.lookup_cons,show (m == n)=false from beq_eq_false_iff_ne.mpr hm];exact em)
   ·rcases List.mem_cons.mp hy with rfl | hy
    ·exact hnn
    ·exact p3 y hy hf
  ·obtain⟨cl,e,p1,p2,p3⟩:=Ar h1 h2 ns acc (λy hy=>hn y (km _ hy)) ha
   refine⟨cl,?_,p1,p2,λy hy hf=>?_⟩
   ·rw[List.forIn_cons,h1 n k acc hk,pure_bind];exact e
   ·rcases List.mem_cons.mp hy with rfl | hy
    ·exact absurd hf hk
    ·exact p3 y hy hf
theorem kO {scope:Scope}{env:Env}(h:∀y∈scope.names,y.2=.free->∃c,env.cells.lookup y.1=some c) :
  ∃cl,closureFor scope env=pure cl/\(∀n c,cl.lookup n=some c->env.cells.lookup n=some c)/\∀y∈scope.names,y.2=.free->(cl.lookup y.1).isSome=true:=by
 unfold closureFor;obtain⟨cl,e,p1,_,p3⟩:=Ar (env:=env) (f:=λx r=>match x with | (name,kind)=>if (kind == SQ)=true then do let a <-cellOf env name;pure (.yield ((name,a)::r)) else pure (.yield r))
  (λn k r hk=>by
   have:(k == SQ)=false:=beq_eq_false_iff_ne.mpr hk;simp only[this,Bool.false_eq_true,if_false])
  (λn r c hc=>by
   simp only[beq_self_eq_true,if_true];unfold cellOf;rw[hc];rw[pure_bind])
  scope.names [] h (λn c e=>by simp at e)
 refine⟨cl,?_,p1,p3⟩;have e':=congrArg (λz:Sem (List (Str×Addr))=>z >>= λcs=>pure cs) e
 simp only[pure_bind]at e';exact e'
def cg (X:Cx)(x:Str)(M:List Str)(scope:Scope)(cl:List (Str×Addr))(C:Addr)(s:Shared)(H:Hp)(fp:List Addr):Cx :=
 { X with N:=x::M,s₀:=s,H₀:=H,env:=compEnvC scope cl C X.env,outer:=X.stack,ex:=fp,fn:=λ_=>false,pn:=[],xe:=λ_ _=>False }
def rm (J:It)(te:TE)(σ:St)(D:Addr)(H1:Hp)(Q:VK):Prop:=∃W:Nat->Nat->List V->Hp->Prop,(∃m,W 0 m [] (upd H1 D (.lst [])))/\∀i m ys H2,W i m ys H2 ->
 H2 D=some (.lst ys)/\((J.stop i H2/\Q (.ref D) H2)\/(J.go i H2/\ys.length < fe/\∀x H3,J.yld i H2 x H3->te (some x::σ) H3 λy H4=>H4 D=some (.lst ys)/\∃m',m' < m/\W (i+1) m' (ys++[y]) (upd H4 D (.lst (ys++[y])))))
def Hz (wi:TI)(te:TE):TE:=λσ H Q=>wi σ H λJ H1=>∀D,H1 D=none->rm J te σ D H1 Q
section
variable{X:Cx}{pins:List (Addr×Obj)}{σ:St}{H:Hp}{s:Shared}{elt iter:Expr}{x:Str}{px pos:Pos}{scope:Scope}{wi:TI}{te:TE}{Q:VK}{M:List Str}
theorem Kp {cl:List (Str×Addr)}{C:Addr}{fp:List Addr}(S:bP scope X.env.scope x X.N M)(I:Inv X pins σ H s)(hC:s.heap.objs.size<=C)(p1:∀n c,cl.lookup n=some c->X.env.cells.lookup n=some c)
  (p3:∀y∈scope.names,y.2=.free->(cl.lookup y.1).isSome=true) (f2:∀b∈fp,dU X pins H b) (fo:∀b∈fp,b < s.heap.objs.size):(cg X x M scope cl C s H fp).Ok where
 mod:=I.ok.mod
 kind:=S.kind
 glob:=I.ok.glob
 blt:=I.ok.blt
 above:=hC
 inj:=λy z c h1 h2=>I.ok.inj y z c (p1 y c h1) (p1 z c h2)
 has:=λy hy=>by
  have hy':(bX scope X.env.scope).names.lookup y=some .cell\/(bX scope X.env.scope).names.lookup y=some .free:=hy;have hm:(y,SQ)∈scope.names:=by
   rcases hy' with z | z
   ·exact(S.mem z (.inl rfl)).2.1
   ·exact(S.mem z (.inr rfl)).2.1
  exact Option.isSome_iff_exists.mp (p3 _ hm rfl)
 cab:=λy c h=>absurd h kj
 hd:=I.ok.hd
 frames:=I.ok.frames
 stk:=.inl rfl
 exf:=λb hb=>⟨wa (RX (fo b hb) hC),λy c e=>(f2 b hb).2.2.2.2.1 y c (p1 y c e)⟩
 bs:=I.bs
 bsz:=ku I.ok.bsz I.sz
 Ad:=λb o e hb=>by
  rcases (f2 b hb).2.2.2.1 with z | z
  ·exact I.ok.Ad b o e z
  ·exact absurd (RX (kx (I.ok.bs b o e).1) z) (TU _)
 yu:=λb hb z=>by
  rcases List.mem_cons.mp (I.vB b z) with e | e
  ·exact(f2 b hb).2.1 e
  ·exact(f2 b hb).2.2.1 e
 pD:=I.stack
 frf:=I.vg
theorem BL {cl:List (Str×Addr)}{C D:Addr}{fp:List Addr}{h₁:Heap}{tk:Nat}{m:Str->Option Value}(S:bP scope X.env.scope x X.N M)(I:Inv X pins σ H s)(hC:s.heap.objs.size<=C)(hD:s.heap.objs.size<=D)(hDC:D≠C)
  (p1:∀n c,cl.lookup n=some c->X.env.cells.lookup n=some c)
  (p3:∀y∈scope.names,y.2=.free->(cl.lookup y.1).isSome=true) (f2:∀b∈fp,dU X pins H b) (fo:∀b∈fp,b < s.heap.objs.size)
  (old:∀b o,s.heap.get? b=some o->h₁.get? b=some o) (hn:h₁.Ns C m) (hl:h₁.get? D=some { cls:=.type "list",data:=.seq ([]:List Value).toArray }) :
  Inv (cg X x M scope cl C s H fp) [] (none::σ) (upd H D (.lst [])) { s with heap:=h₁,toks:=tk }:=by
 have cellK:∀c v,s.heap.IsCell c v->h₁.IsCell c v:=λc v ⟨o,e,d⟩=>⟨o,old c o e,d⟩
 refine⟨Kp S I hC p1 p3 f2 fo,rfl,I.bare,Un.laid old hD (I.hok.fresh hD),⟨m,hn,λi n v h1 h2 h3=>?_⟩,λy c e=>?_,?_,λy c e=>?_,λp hp=>absurd (show p∈([]:List (Addr×Obj)) from hp) (by simp),I.hok.laid old hD ⟨Sl _,[],0,.nil,hl⟩,?_⟩
 ·cases i with
  |zero =>
   have h2':(none:Option V)=some v:=by simpa using h2
   cases h2'
  |succ i =>
   have h0':M[i]?=some n:=by simpa [cg] using h1
   have h2':σ[i]?=some (some v):=by simpa using h2
   have h3':(bX scope X.env.scope).names.lookup n=some .local\/(bX scope X.env.scope).names.lookup n=some .cell\/(bX scope X.env.scope).names.lookup n=some .free:=h3;have iA:(bX scope X.env.scope).names.lookup n=some .cell/\(n,SQ)∈scope.names/\X.env.scope.names.lookup n=some .cell:=by
    rcases h3' with z | z | z
    ·exact absurd z (S.nl n (RV h0'))
    ·exact⟨z,(S.mem z (.inl rfl)).2⟩
    ·exact absurd (S.mem z (.inr rfl)).1 (by decide)
   have h1':X.N[i]?=some n:=by
    have hi:i < X.N.length:=by rw[<-S.len];exact(List.getElem?_eq_some_iff.mp h0').1
    rcases S.rel i hi with z | z
    ·rw[<-z];exact h0'
    ·rw[h0']at z;have e:n=SI:=si z;rw[e,S.em]at iA;cases iA.1
   obtain⟨m0,hn0,hl0⟩:=I.loc;obtain⟨u,r,l⟩:=hl0 i n v h1' h2' (.inr (.inl iA.2.2));refine⟨u,r,.inr ⟨.inl iA.1,?_⟩⟩;obtain⟨c,hc⟩:=Option.isSome_iff_exists.mp (p3 _ iA.2.1 rfl);refine⟨c,hc,?_⟩;rcases l with ⟨k,_⟩ | ⟨_,c',hc',z⟩
   ·have k':X.env.scope.names.lookup n=some .local:=k;rw[iA.2.2]at k';cases k'
   ·rw[p1 n c hc]at hc';cases hc';exact cellK c _ z
 ·obtain⟨v,z⟩:=I.cell y c (p1 y c e);exact⟨v,cellK c v z⟩
 ·show (upd H D (.lst [])) C=none;rw[ao (R4 hDC)];exact I.hok.fresh hC
 ·obtain⟨v,z⟩:=I.cell y c (p1 y c e);rw[ao (wa (RX z.lt hD))];exact I.kJ y c (p1 y c e)
 ·show (none::σ).length=(x::M).length;rw[rf,rf,I.len,S.len]
theorem y6 {cl:List (Str×Addr)}{RR:Value->Addr->Result->Shared->Prop}(S:bP scope X.env.scope x X.N M)(hc:X.calm=true)(hi:PI X (.Name x px) iter wi)
  (he:∀cl C s H fp,PE (cg X x M scope cl C s H fp) elt te) (I:Inv X pins σ H s) (h:Hz wi te σ H Q)
  (p1:∀n c,cl.lookup n=some c->X.env.cells.lookup n=some c) (p3:∀y∈scope.names,y.2=.free->(cl.lookup y.1).isSome=true)
  (hRR:∀D C H' s' o m,Inv X (pins++[(C,o)]) σ H' s'->s'.heap.get? C=some o->s'.heap.Ns C m->X.s₀.heap.objs.size<=C->(∀y c,X.env.cells.lookup y=some c->c≠C)->(∀p∈X.pn++pins,p.1≠C)->Q (.ref D) H'->RR (.ref D) C (.ok .next) s') :
  wpAny (model X.prog X.w) X.A (eval iter X.env) (λxv s₁=>wpAny (model X.prog X.w) X.A (pyIter xv) (λit s₂=>wpAny (model X.prog X.w) X.A (newList []) (λacc s₃ =>
   wpAny (model X.prog X.w) X.A (newFunctionEnv scope X.env.globals cl [] X.env.qual none .none (some X.env)) (λsQ s₄ =>
    codeAny (model X.prog X.w) X.A (.compStart (.ListComp elt [⟨.Name x px,iter,[],0⟩] scope pos) 0 it acc { sQ with scope:=relabel scope X.env }) (RR acc sQ.locals) s₄) X.xe s₃) X.xe s₂) X.xe s₁) X.xe s:=by
 refine thn (hi pins s σ H _ I h) λv s1 h1=>thn h1 λitv s2 h2=>?_
 obtain⟨it,fp,tn,J,H2,rfl,I2,T,st2,f2,q⟩:=h2;refine wpAny_newObj_type (wpAny_newFunctionEnv S.sP (by intro y hy;simp at hy) (λh₁ hns₁ hsb₁=>?_) S.kind)
 dsimp only at hns₁ hsb₁ ⊢;generalize hHH:s2.heap.push { cls:=.type "list",dict:=none,data:=.seq ([]:List Value).toArray }=HH at hns₁ hsb₁ ⊢;have hCs:HH.objs.size=s2.heap.objs.size+1:=by rw[<-hHH,Tt]
 have hDC:s2.heap.objs.size≠HH.objs.size:=by rw[hCs];exact wa (TN _)
 have BM:s2.heap.objs.size<=HH.objs.size:=by rw[hCs];exact SG _
 have below:∀b,b < s2.heap.objs.size->b≠HH.objs.size:=λb hb=>by rw[hCs];exact wa (TB hb)
 have old:∀b o,s2.heap.get? b=some o->h₁.get? b=some o:=λb o e=>hsb₁.extBut b o (below b (kx e)) (da _ (hHH▸da _ e))
 have BN:h₁.get? s2.heap.objs.size=some { cls:=.type "list",data:=.seq ([]:List Value).toArray }:=hsb₁.extBut _ _ hDC (da _ (hHH▸wt _ rfl));have fo:∀b∈fp,b < s2.heap.objs.size:=λb hb=>by
  obtain⟨o,e,_⟩:=T.obj _ _ st2 b hb;exact kx e
 have IY:=BL (tk:=s2.toks+([]:List (Str×Value)).length) S I2 BM (gn _) hDC p1 p3 f2 fo old hns₁ BN;have st1:tn 0 h₁:=T.keep _ _ _ st2 λb _ o e=>old b o e
 obtain⟨W,⟨m0,w0⟩,turn⟩:=q _ (I2.hok.fresh (gn _));generalize hC:HH.objs.size=C at *;generalize hDD:s2.heap.objs.size=D at *;have ndY:(cg X x M scope cl C s2 H2 fp).N.Nodup:=by
  refine List.nodup_cons.mpr ⟨λhm=>S.nl x hm (lookup_relabel_local S.hx),S.ndM⟩
 have stat:∀ {H':Hp},(∀b∈fp,H' b=none)->∀b∈fp,dU (cg X x M scope cl C s2 H2 fp) [] H' b:=λhn b hb =>
  ⟨hn b hb,below b (fo b hb),IY.ok.yu b hb,.inl hb,λy c e=>(f2 b hb).2.2.2.2.1 y c (p1 y c e),λp hp=>absurd (show p∈([]:List (Addr×Obj)) from hp) (by simp)⟩
 have loop:codeAny (model X.prog X.w) X.A (.compLoop (.ListComp elt [⟨.Name x px,iter,[],0⟩] scope pos) 0 (.ref it) (.ref D) (compEnvC scope cl C X.env)) (RR (.ref D) C) { s2 with heap:=h₁,toks:=s2.toks+([]:List (Str×Value)).length }:=by
  refine codeAny_compLoop_tests (λn s'=>∃i v0 ys H',Inv (cg X x M scope cl C s2 H2 fp) [] (v0::σ) H' s'/\tn i s'.heap/\(∀b∈fp,H' b=none)/\W i n ys H') ?_ m0 ⟨0,none,[],_,IY,st1,λb hb=>?_,w0⟩
  ·rintro n s3 ⟨i,v0,ys,H3,I3,st3,fr3,w3⟩;obtain⟨hDl,hw⟩:=turn i n ys H3 w3;rcases hw with ⟨stop,qn⟩ | ⟨go,hsz,step⟩
   ·refine thn (T.done (cg X x M scope cl C s2 H2 fp) rfl rfl rfl hc i [] s3 _ H3 _ I3 (stat fr3) st3 stop) λr s4 ⟨hr,I4⟩=>?_
    subst hr;obtain⟨m4,hn4,_⟩:=I4.loc;obtain⟨oC,es4,ep4,e4,r4⟩:=id hn4;have As:s2.heap.objs.size<=C:=by rw[hDD];exact BM
    have IX:Inv X pins σ H3 s4:=I2.Bx (ch:=fp) I4.os I4.base I4.hok I4.bare λb hb=>⟨(f2 b hb).2.2.2.1,(f2 b hb).2.1,(f2 b hb).2.2.2.2.1,(f2 b hb).2.2.2.2.2⟩
    have fC:=I2.sI (H':=H3) As I4.free;have IX2:Inv X (pins++[(C,oC)]) σ H3 s4:=IX.qZ λp hp=>(List.mem_append.mp hp).elim (λz=>IX.pin p (de _ z)) λz=>by
     have e:p=(C,oC):=by simpa using z
     subst e;exact⟨e4,fC.1,fC.2.1,fC.2.2.1,λv z=>by rw[r4.1]at z;cases z⟩
    exact hRR D C H3 s4 oC m4 IX2 e4 hn4 (ku I2.sz As) fC.2.2.2.2.1 fC.2.2.2.2.2 qn
   ·refine thn (T.item (cg X x M scope cl C s2 H2 fp) rfl rfl rfl hc i [] s3 _ H3 _ I3 (stat fr3) st3 go) λr s4 ⟨u,hr,h4⟩=>?_
    subst hr;have e0:∀k:Sem Unit,(letOwnedTupleGo (.Name x px) (.ref it) u >>= λ_=>k)=k:=λk=>by
     rw[show letOwnedTupleGo (.Name x px) (.ref it) u=pure () from rfl,pure_bind]
    show wpAny _ _ (assign (.Name x px) (compEnvC scope cl C X.env) u) _ _ s4;rw[<-e0 (assign (.Name x px) (compEnvC scope cl C X.env) u)];refine cb (thn h4 λ_ s5 ⟨xv,H5,I5,r5,y5,st5,fr5⟩=>?_)
    have I5':=I5.pinned (stat fr5) (T.obj _ _ st5);have hxl:(cg X x M scope cl C s2 H2 fp).env.scope.names.lookup x=some .local:=lookup_relabel_local S.hx;refine wpAny_assign_Name (kK (X:=cg X x M scope cl C s2 H2 fp) (i:=0) I5' ndY rfl (ma hxl) r5 (λs6 I6=>?_) (.inr hxl))
    refine wpAny_tests_nil ?_;rw[if_pos rfl];refine om (he cl C s2 H2 fp _ s6 _ H5 _ I6 (step xv H5 y5)) (λy s7 ⟨yv,H7,I7,r7,hD7,m',hm',w7⟩=>?_) (λ_ _ f=>f.elim)
    refine om (bu (X:=cg X x M scope cl C s2 H2 fp) _ s7 _ H7 (.ref D) [yv] (.ref D) [y] (λ_ H8=>H8=upd H7 D (.lst (ys++[yv]))) I7 rfl (.cons r7 .nil) ⟨D,ys,yv,rfl,rfl,hD7,hsz,rfl⟩)
     (λ_ s8 ⟨_,H8,I8,_,e8⟩=>?_) (λ_ _ f=>f.elim)
    subst e8;refine⟨m',hm',i+1,some xv,ys++[yv],_,I8.cI,T.keep _ _ _ st5 λb hb o e=>(I8.pin (b,o) (de _ (de _ (cP hb e)))).1,λb hb=>?_,w7⟩
    obtain⟨o,e,d⟩:=T.obj _ _ st5 b hb;exact(I8.pin (b,o) (de _ (de _ (cP hb e)))).2.1
  ·show (upd H2 D (.lst [])) b=none;rw[ao (wa (fo b hb))];exact(f2 b hb).1
 exact codeAny_compStart_list loop (T.self _ 0 _ _ _ st1 loop)
theorem oW (S:bP scope X.env.scope x X.N M)(hc:X.calm=true)(hi:PI X (.Name x px) iter wi)(he:∀cl C s H fp,PE (cg X x M scope cl C s H fp) elt te)
  (hs:∀x,foldedSetIterable iter X.env x=pure x:=by intro _;rfl):PE X (.ListComp elt [⟨.Name x px,iter,[],0⟩] scope pos) (Hz wi te):=by
 intro pins s σ H Q I h;obtain⟨cl,rn,p1,p3⟩:=kO (scope:=scope) (env:=X.env) (λy hy hf=>I.ok.has y.1 (.inl (S.free y hy hf)))
 rw[eval_ListComp];refine wpAny_comprehension_free (use:=none) rfl hs rn S.kind S.names (y6 (RR:=λacc C=>compPost (model X.prog X.w) X.A X.xe none (EP X pins σ Q) acc C) S hc hi he I h p1 p3 ?_)
 intro D C H' s' o m I' e hn h0 h1 h2 q;refine⟨m,hn,λh' hs'=>?_⟩
 have pC:=I'.pin (C,o) (de _ (de _ (by simp)))
 have IX:Inv X pins σ H' s':=I'.cI;exact⟨.ref D,H',IX.turned (t':=s'.toks) (λb ob hb e=>(hs'.2 b hb).trans e) pC.2.1 pC.2.2.1 (.inr h0) h1 h2,rfl,q⟩
theorem vM {i:Nat}{y:Str}{py HD:Pos}(S:bP scope X.env.scope x X.N M)(hc:X.calm=true)(hj:X.N[i]?=some y)(hy:Loc X.env.scope y)(hi:PI X (.Name x px) iter wi)(he:∀cl C s H fp,PE (cg X x M scope cl C s H fp) elt te)
  (hsw:swapsWith (.ListComp elt [⟨.Name x px,iter,[],0⟩] scope pos) (some (.Name y py)) HD.line X.env=pure true:=by rfl)
  (hf:X.fn y=true\/X.env.scope.names.lookup y=some .local:=by first | exact .inl rfl | exact .inr rfl | assumption)
  (hs:∀x,foldedSetIterable iter X.env x=pure x:=by intro _;rfl):PS X (.Assign [.Name y py] (.ListComp elt [⟨.Name x px,iter,[],0⟩] scope pos) HD) (Mw (Hz wi te) (cf i)):=by
 intro pins s σ H D I h;obtain⟨cl,rn,p1,p3⟩:=kO (scope:=scope) (env:=X.env) (λy hy hf=>I.ok.has y.1 (.inl (S.free y hy hf)))
 rw[exec_Assign_Name_used _ _ _ _ hsw];refine cb (SD (cb ?_));show wpAny _ _ (do let _ <-comprehension (.ListComp elt [⟨.Name x px,iter,[],0⟩] scope pos) scope X.env _ (newList []) false (eval iter X.env) (some (assign (.Name y py) X.env))) _ _ s
 refine cb (om (wpAny_comprehension_free (use:=some (assign (.Name y py) X.env)) (Q:=λ_ s'=>SP X pins D .next s') rfl hs rn S.kind S.names
  (y6 (RR:=λacc C=>compPost (model X.prog X.w) X.A X.xe (some (assign (.Name y py) X.env)) (λ_ s'=>SP X pins D .next s') acc C) S hc hi he I h p1 p3 ?_)) (λ_ s' hq=>me (me hq)) λ_ _ e=>e)
 intro Dd C H' s' o m I' e hn h0 h1 h2 q;show wpAny _ _ (assign (.Name y py) X.env (.ref Dd)) _ _ s';refine wpAny_assign_Name (kK I' S.nd hj hy (v:=.ref Dd) rfl (λs'' I''=>?_) hf)
 have pC:=I''.pin (C,o) (de _ (de _ (by simp)))
 obtain⟨o',es,ep,e0,r⟩:=hn;rw[e]at e0;cases e0;have IX:Inv X pins _ H' s'':=I''.cI;refine⟨m,⟨o,es,ep,pC.1,r⟩,λh' hs'=>?_⟩
 exact⟨_,H',IX.turned (t':=s''.toks) (λb ob hb e=>(hs'.2 b hb).trans e) pC.2.1 pC.2.2.1 (.inr h0) h1 h2,q⟩
def bS (D:Addr)(n:Nat)(Pv:Nat->List V->Hp->Prop)(i:Nat)(ys:List V):VK:=λy H4=>H4 D=some (.lst ys)/\∃m',m' < n - i/\m'=n - (i+1)/\i+1<=n/\Pv (i+1) (ys++[y]) (upd H4 D (.lst (ys++[y])))
theorem bS.mk {D:Addr}{n:Nat}{Pv:Nat->List V->Hp->Prop}{i:Nat}{ys:List V}{y:V}{H4:Hp}(hi:i < n)(h1:H4 D=some (.lst ys))(h2:Pv (i+1) (ys++[y]) (upd H4 D (.lst (ys++[y])))):bS D n Pv i ys y H4 :=
 ⟨h1,n - (i+1),by omega,rfl,hi,h2⟩
theorem oX {K:bo}{a D:Addr}{xs:List V}{te:TE}{Q:VK}{σ:St}{H1:Hp}(Pv:Nat->List V->Hp->Prop)(h0:Pv 0 [] (upd H1 D (.lst [])))(hz:xs.length<=fe)
  (hl:∀i ys H2,i<=xs.length->Pv i ys H2->SqL K H2 a xs/\H2 D=some (.lst ys)/\ys.length=i)
  (hs:∀i x ys H2,xs[i]?=some x->Pv i ys H2->te (some x::σ) H2 (bS D xs.length Pv i ys)) (hd:∀ys H2,Pv xs.length ys H2->Q (.ref D) H2) :
  rm (Itl K a) te σ D H1 Q:=by
 refine⟨λi m ys H=>m=xs.length - i/\i<=xs.length/\Pv i ys H,⟨xs.length,by simp,Sl _,h0⟩,?_⟩
 rintro i m ys H2 ⟨rfl,hi,p⟩;obtain⟨q,q2,q3⟩:=hl i ys H2 hi p;refine⟨q2,?_⟩
 by_cases hlt:i < xs.length
 ·refine .inr ⟨⟨xs,xs[i],q,by simp[hlt]⟩,by omega,λx H3 y=>?_⟩
  obtain⟨e,y⟩:=y;subst e;exact hs i x ys _ (y xs q) p
 ·have e:i=xs.length:=by omega
  subst e;exact .inl ⟨⟨xs,q,gn _⟩,hd ys H2 p⟩
theorem vN {lo:Int}{n:Nat}{D:Addr}{te:TE}{Q:VK}{σ:St}{H1:Hp}(Pv:Nat->List V->Hp->Prop)(h0:Pv 0 [] (upd H1 D (.lst [])))(hz:n<=fe)
  (hl:∀i ys H2,i<=n->Pv i ys H2->H2 D=some (.lst ys)/\ys.length=i)
  (hs:∀i ys H2,i < n->Pv i ys H2->te (some (.int (lo+i))::σ) H2 (bS D n Pv i ys)) (hd:∀ys H2,Pv n ys H2->Q (.ref D) H2) :
  rm (Itr lo n) te σ D H1 Q:=by
 refine⟨λi m ys H=>m=n - i/\i<=n/\Pv i ys H,⟨n,by simp,Sl _,h0⟩,?_⟩
 rintro i m ys H2 ⟨rfl,hi,p⟩;obtain⟨q2,q3⟩:=hl i ys H2 hi p;refine⟨q2,?_⟩
 by_cases hlt:i < n
 ·refine .inr ⟨hlt,by omega,λx H3 y=>?_⟩
  obtain⟨e,y⟩:=y;subst e y;exact hs i ys _ hlt p
 ·have e:i=n:=by omega
  subst e;exact .inl ⟨gn _,hd ys H2 p⟩
end
structure MkN (K:bo)(C:Addr):Prop where
 makes:PySem.W.makesIn K C=true
 init:RU K (.ref C) "__init__"=some (some (.builtin "object.__init__"))
 kp:Tr K (.ref C)=true
def MV (C:Addr):TE:=λ_ H Q=>∀x dx,H x=none->H dx=none->dx≠x->Q (.ref x) (upd (upd H dx (.own x)) x (.ins C dx []))
section
variable{X:Cx}{C:Addr}{x:Str}{p pos:Pos}
theorem kP (M:MkN X.K C)(hg:Gl X x)(hm:X.mg x=some (.ref C))(hdb:(x == ("__debug__":Str))=false:=by decide):PE X (.Call (.Name x p) [] [] pos) (MV C):=by
 intro pins s σ H Q I h;refine wpAny_Call_Name_kw (fG I hg hm ?_ hdb);refine TM I.kIn M.kp (wpAny_call ?_);have I2:=Inv.made (C:=C) I;have q:=h (s.heap.objs.size+1) s.heap.objs.size (I.hok.fresh (SG _)) (I.hok.fresh (gn _)) (wa (TN _));have fin:EP X pins σ Q (.ref (s.heap.objs.size+1)) { s with heap:=(s.heap.push Si).push (Sm C s.heap.objs.size) }:=⟨.ref _,_,I2,rfl,q⟩
 have X1:=I.kIn;have e2:((s.heap.push Si).push (Sm C s.heap.objs.size)).get? (s.heap.objs.size+1)=some (Sm C s.heap.objs.size):=by
  have:=wt (s.heap.push Si) (o:=Sm C s.heap.objs.size) rfl
  rwa [Tt]at this
 clear I2 q h I;obtain⟨hh,g,d,t,os⟩:=s;have Y:=PySem.W.makes_of (M:=model X.prog X.w) X1 M.makes;refine PySem.W.make_core Y (PySem.W.looks_findIn X1 M.init) (λself=>PySem.W.Looks.of_pure (PySem.W.oi_bind self)) (.inr ⟨rfl,rfl⟩) ?_
 have t1:PySem.W.Looks (model X.prog X.w) ((hh.push Si).push (Sm C hh.objs.size)) (typeOf (.ref (hh.objs.size+1))) (.ref C):=(PySem.W.Looks.ld e2).andThen .now;have t2:PySem.W.Looks (model X.prog X.w) ((hh.push Si).push (Sm C hh.objs.size)) (isInstance (.ref (hh.objs.size+1)) (.type "object")) true:=t1.andThen (Y.top.keeps λb o e=>da _ (da _ e))
 refine codeAny_call_builtin PySem.W.oi_plain PySem.W.entry_oi (@PySem.W.check_slot (model X.prog X.w) _ _ _ "object.__init__" "object" "__init__" (.ref (hh.objs.size+1)) [] [] _ PySem.W.oi_kind PySem.W.oi_split t2 (PySem.W.oi_args (.ref (hh.objs.size+1))) ?_);show wpAny _ _ (Builtin.«object.__init__» ⟨[.ref (hh.objs.size+1)],[]⟩) _ _ _;rw[PySem.W.oi_run];exact me (And.intro rfl fin)
end
structure Kq (P:Params)(K:bo)(a:Addr):Prop where
 ex:∃es n,K.lookup a=some ⟨.type "dict",none,.dict es n,#[]⟩/\PySem.W.KeysLit P es.toList
section
variable{X:Cx}
theorem DL:IxR X (λx y H Q=>∃a z v u,x=.ref a/\y=.str z/\Kq X.w.params X.K a/\Tb X.K a z=some (some u)/\RelV v u/\Q v H):=by
 intro value slice pins s σ H x y v u Q I rx ry h hs;obtain⟨a,z,w',u',rfl,rfl,⟨es,n,hl,hk⟩,e,r,q⟩:=h;cases rx;obtain⟨t,rfl⟩:=ry;have hm:=PySem.W.mapOf_K (prog:=X.prog) I.kIn hl hk;exact tail_any hm.typeIs slot_dict_getitem.lookup (wpAny_getItem_of (strKind_is X.prog X.w z t) hm (PySem.W.find_K hl e) ⟨w',H,I.tok _,r,q⟩) hs
end
theorem Kr (bs:List Bool):(TF bs.length).any (λi=>bs.getD i false)=bs.any id:=by
 have e:(TF bs.length).map (λi=>bs.getD i false)=bs:=by
  apply List.ext_getElem
  ·simp
  ·intro i h1 h2;simp[h2]
 calc _=((TF bs.length).map (λi=>bs.getD i false)).any id:=by rw[List.any_map];rfl
  _=_:=by rw[e]
theorem Ks (bs:List Bool):(TF bs.length).all (λi=>bs.getD i false)=bs.all id:=by
 have e:(TF bs.length).map (λi=>bs.getD i false)=bs:=by
  apply List.ext_getElem
  ·simp
  ·intro i h1 h2;simp[h2]
 calc _=((TF bs.length).map (λi=>bs.getD i false)).all id:=by rw[List.all_map];rfl
  _=_:=by rw[e]
theorem vO:∀ {bs:List Bool} {us:List Value},Vals (bs.map V.bl) us->us=bs.map Tq
 |[],_,.nil=>rfl
 |b::bs,_,.cons r t=>by
  cases r;rw[vO t];rfl
section
variable{X:Cx}
theorem HE (hc:X.calm=true):gS X (.builtin "any") (λxs H Q=>∃(p:Addr) (bs:List Bool),xs=[.ref p]/\SqL X.K H p (bs.map V.bl)/\Q (.bl (bs.any id)) H):=by
 intro pins s σ H xs us Q I r h;obtain⟨p,bs,rfl,hq,q⟩:=h;obtain⟨u,rfl,rx⟩:=vals1 r;cases rx;obtain⟨its,rv,pl,hz⟩:=I.list hq;obtain rfl:=vO rv;refine call_any_walk (wpAny_pyIter_list pl.isList ?_);obtain⟨o,n,e,_⟩:=id pl;have hlt:p < s.heap.objs.size:=kx e;refine⟨s.heap.objs.size,_,_,_,_,_,λi=>bs.getD i false,rfl,Walks.list (A:=X.A.in1) (show X.A.in1.handled=none from I.ok.hd hc) s.heap.objs.size p (wa hlt) (bs.map Tq).toArray,⟨⟨_,wt _ rfl,rfl,rfl⟩,pl.isList.at λo e=>da _ e⟩,?_,λh' tk kk=>?_⟩
 ·intro i v s' Q' E' hv q';have hv':v=Tq (bs.getD i false):=by
   have h2:(bs.map Tq)[i]?=some v:=by simpa using hv
   rw[R0]at h2;cases hb:bs[i]? with
   |none=>rw[hb]at h2;cases h2
   |some b =>
    rw[hb]at h2;rw[RY,hb];exact(si h2).symm
  rw[hv'];exact wpAny_truthy_bool q'
 ·have I1:Inv X pins σ H { s with heap:=h',toks:=tk }:=I.kept λb o e=>kk b o (by simp;exact wa (kx e)) (da _ e)
  refine⟨.bl _,H,I1,rfl,?_⟩;have e1:(bs.map Tq).toArray.size=bs.length:=by simp
  rw[e1,Kr];exact q
theorem HF (hc:X.calm=true):gS X (.builtin "all") (λxs H Q=>∃(p:Addr) (bs:List Bool),xs=[.ref p]/\SqL X.K H p (bs.map V.bl)/\Q (.bl (bs.all id)) H):=by
 intro pins s σ H xs us Q I r h;obtain⟨p,bs,rfl,hq,q⟩:=h;obtain⟨u,rfl,rx⟩:=vals1 r;cases rx;obtain⟨its,rv,pl,hz⟩:=I.list hq;obtain rfl:=vO rv;refine call_all_walk (wpAny_pyIter_list pl.isList ?_);obtain⟨o,n,e,_⟩:=id pl;have hlt:p < s.heap.objs.size:=kx e;refine⟨s.heap.objs.size,_,_,_,_,_,λi=>bs.getD i false,rfl,Walks.list (A:=X.A.in1) (show X.A.in1.handled=none from I.ok.hd hc) s.heap.objs.size p (wa hlt) (bs.map Tq).toArray,⟨⟨_,wt _ rfl,rfl,rfl⟩,pl.isList.at λo e=>da _ e⟩,?_,λh' tk kk=>?_⟩
 ·intro i v s' Q' E' hv q';have hv':v=Tq (bs.getD i false):=by
   have h2:(bs.map Tq)[i]?=some v:=by simpa using hv
   rw[R0]at h2;cases hb:bs[i]? with
   |none=>rw[hb]at h2;cases h2
   |some b =>
    rw[hb]at h2;rw[RY,hb];exact(si h2).symm
  rw[hv'];exact wpAny_truthy_bool q'
 ·have I1:Inv X pins σ H { s with heap:=h',toks:=tk }:=I.kept λb o e=>kk b o (by simp;exact wa (kx e)) (da _ e)
  refine⟨.bl _,H,I1,rfl,?_⟩;have e1:(bs.map Tq).toArray.size=bs.length:=by simp
  rw[e1,Ks];exact q
end
def OW (X:Cx)(pins:List (Addr×Obj))(H:Hp)(h:Heap)(e:Addr)(vs:Array Value):Option Value->Prop
 |none=>vs[1]?=some .none
 |some m=>∃(T:Addr) (oT:Obj) (ts:Array Value),vs[1]?=some (.ref T)/\T≠e/\dU X pins H T/\h.get? T=some oT/\oT.data=.fields ts/\ts[3]?=some m
structure Z2 (X:Cx)(vs:Array Value):Prop where
 sz:1 < vs.size
 cx:X.xc=true->vs[2]?=some .none
structure XAt (X:Cx)(pins:List (Addr×Obj))(H:Hp)(h:Heap)(e:Addr)(cls:Value)(xd:Option Addr)(m:Option Value):Prop where
 ok:dU X pins H e
 ex:∃(sl:Array (Option Value)) (vs:Array Value),h.get? e=some ⟨cls,xd,.fields vs,sl⟩/\Z2 X vs/\OW X pins H h e vs m
def MOk (_:Cx)(m:Option Value):Prop:=m=none\/m=some .none\/∃v,m=some v
def XP (X:Cx)(pins:List (Addr×Obj))(σ:St)(E:XK)(e:Value)(s':Shared):Prop :=
 ∃(ea:Addr) (cls:Value) (xd:Option Addr) (m:Option Value) (H':Hp),e=.ref ea/\Inv X pins σ H' s'/\XAt X pins H' s'.heap ea cls xd m/\MOk X m/\E cls xd H'
abbrev SXK:=St->XK
def XPS (X:Cx)(pins:List (Addr×Obj))(E:SXK)(e:Value)(s':Shared):Prop:=∃σ',XP X pins σ' (E σ') e s'
structure Fr1 (X:Cx):Prop where
 stk:X.stack=X.env::X.outer
 fr:X.env.frame=some X.env.locals
section
variable{X:Cx}{pins:List (Addr×Obj)}{σ:St}{H H':Hp}{s:Shared}{e:Addr}{cls:Value}{xd:Option Addr}{m:Option Value}
theorem dU.Q2 {b:Addr}(I:Inv X pins σ H s)(f:dU X pins H' b):b∉frs X.stack:=λz=>by
 rcases List.mem_cons.mp (I.vB b z) with q | q
 ·exact f.2.1 q
 ·exact f.2.2.1 q
theorem dU.drop {pl:List (Addr×Obj)}{b:Addr}(f:dU X (pins++pl) H b):dU X pins H b :=
 ⟨f.1,f.2.1,f.2.2.1,f.2.2.2.1,f.2.2.2.2.1,λp hp=>f.2.2.2.2.2 p ((List.mem_append.mp hp).elim (λz=>Su _ z) λz=>de _ (Su _ z))⟩
theorem dU.clear {b:Addr}(f:dU X pins H b):dU X [] H b :=
 ⟨f.1,f.2.1,f.2.2.1,f.2.2.2.1,f.2.2.2.2.1,λp hp=>f.2.2.2.2.2 p ((List.mem_append.mp hp).elim (λz=>Su _ z) λz=>nomatch z)⟩
theorem XAt.drop {pl:List (Addr×Obj)}{h:Heap}(x:XAt X (pins++pl) H h e cls xd m):XAt X pins H h e cls xd m:=by
 obtain⟨ok,sl,vs,he,hz,hm⟩:=x;refine⟨ok.drop,sl,vs,he,hz,?_⟩;cases m with
 |none=>exact hm
 |some m=>obtain⟨T,oT,ts,a,b,c,d⟩:=hm;exact⟨T,oT,ts,a,b,c.drop,d⟩
theorem XAt.clear {h:Heap}(x:XAt X pins H h e cls xd m):XAt X [] H h e cls xd m:=by
 obtain⟨ok,sl,vs,he,hz,hm⟩:=x;refine⟨ok.clear,sl,vs,he,hz,?_⟩;cases m with
 |none=>exact hm
 |some m=>obtain⟨T,oT,ts,a,b,c,d⟩:=hm;exact⟨T,oT,ts,a,b,c.clear,d⟩
theorem XP.drop {pl:List (Addr×Obj)}{E:XK}{v:Value}(x:XP X (pins++pl) σ E v s):XP X pins σ E v s:=by
 obtain⟨ea,cls,xd,m,H',rfl,I,hx,hm,q⟩:=x;exact⟨ea,cls,xd,m,H',rfl,I.cI,hx.drop,hm,q⟩
theorem MW {h':Heap}(I:Inv X pins σ H s)(he:dU X pins H e)(k1:∀b o,b∉frs X.stack->b≠e->s.heap.get? b=some o->h'.get? b=some o)
  (k2:∀b o,b≠e->s.heap.get? b=some o->∃sl,h'.get? b=some { o with slots:=sl }):Un (frs X.stack) [e] H H s.heap h'/\HOk X.prog X.w H h':=by
 refine⟨⟨λb o q _ hb hx=>k1 b o hb (by simpa using hx) q,λb o q _ _ hx=>k2 b o (by simpa using hx) q,λb o _ n _=>n,λb o q hx=>?_,λ_ _ q=>q,λ_ _ _ q=>q,λ_ ps q=>⟨#[],by rw[q];simp⟩⟩,λa o q=>?_⟩
 ·obtain⟨sl,z⟩:=k2 b o (by simpa using hx) q
  exact⟨_,z⟩
 ·refine(I.hok a o q).Bv (λb u hb r=>k1 b u (λz=>?_) (λz=>?_) r) (λ_ z=>z) (λ_ _ z=>z)
  ·have n:=I.vg b z;rcases hb with rfl | hb
   ·rw[q]at n;cases n
   ·rw[hb]at n;cases n
  ·have n:=he.1;rw[<-z]at n;rcases hb with rfl | hb
   ·rw[q]at n;cases n
   ·rw[hb]at n;cases n
theorem Kt {h':Heap}(I:Inv X pins σ H s)(he:dU X pins H e)(k1:∀b o,b∉frs X.stack->b≠e->s.heap.get? b=some o->h'.get? b=some o)
  (k2:∀b o,b≠e->s.heap.get? b=some o->∃sl,h'.get? b=some { o with slots:=sl }):Inv X pins σ H { s with heap:=h' }:=by
 obtain⟨u,ok⟩:=MW I he k1 k2;refine I.call (g':=s.gens) (t':=s.toks) (d':=s.drawn) u ok I.bare λb hb=>?_
 obtain rfl:b=e:=by simpa using hb
 exact⟨he.2.2.2.1,he.2.1,he.2.2.2.2.1,he.2.2.2.2.2⟩
theorem Fb {M:Model}{A:Around}{E:Value->Shared->Prop}{head:Value}{Ku:Bool}{sl:Array (Option Value)}{vs:Array Value}{Q:Unit->Shared->Prop}(F:Fr1 X)(hA:A.frames=some X.stack)(I:Inv X pins σ H s)(ok:dU X pins H e)
  (he:s.heap.get? e=some ⟨cls,xd,.fields vs,sl⟩) (hz:Z2 X vs) (h:∀s',Inv X pins σ H s'->XAt X pins H s'.heap e cls xd (some (rawInt X.env.locals))->Q () s') :
  wpAny M A (do let a <-frameOf X.env;let pl <-entryPlaceOf X.env.locals Ku;let b <-EntryCells.newEntry head a .none (rawInt X.env.locals) .none pl;setField (.ref e) 1 b) Q E s:=by
 have nE:e∉frs X.stack:=ok.Q2 I;have fs:=I.stack;rw[F.stk]at hA fs nE;refine cb (wpAny_frameOf_fun hA fs F.fr λh₁ so=>?_)
 refine cb (wpAny_entryPlaceOf λpl hpl=>?_)
 unfold EntryCells.newEntry newFields;refine cb (wpAny_newObj_type ?_ (hpl.sizeOk5 _ _ _ _ _));generalize ht:([head,.ref X.env.locals,.none,rawInt X.env.locals,.none]++(if pl.isEmpty then Tc 6 Tp else pl)).toArray=ts
 have t3:ts[3]?=some (rawInt X.env.locals):=by rw[<-ht];simp
 have e1:h₁.get? e=some ⟨cls,xd,.fields vs,sl⟩:=(so.2.1 e nE).trans he;have e2:=da (h:=h₁) { cls:=.type "traceback",dict:=none,data:=.fields ts } e1;refine wpAny_setField e2 rfl hz.sz ?_;have sz:h₁.objs.size=s.heap.objs.size:=so.1;have nT:h₁.objs.size≠e:=Nat.ne_of_gt (kx e1);have k0:∀b o,b≠e->h₁.get? b=some o->((h₁.push { cls:=.type "traceback",dict:=none,data:=.fields ts }).update e (SX (·.setIfInBounds 1 (RZ h₁.objs.size)))).get? b=some o:=λb o hb q =>
  (Sx _ _ (R4 hb)).trans (da _ q)
 have I':=Kt (h':=(h₁.push { cls:=.type "traceback",dict:=none,data:=.fields ts }).update e (SX (·.setIfInBounds 1 (RZ h₁.objs.size)))) I ok
  (λb o hb hbe q=>k0 b o hbe ((so.2.1 b (by rw[<-F.stk];exact hb)).trans q)) (λb o hbe q=>by obtain⟨sl,z⟩:=so.2.2 b o q;exact⟨sl,k0 b _ hbe z⟩)
 have fT:dU X pins H h₁.objs.size:=I.sI (by rw[sz];exact gn _) (by rw[sz];exact I.fresh)
 have gE:((h₁.push { cls:=.type "traceback",dict:=none,data:=.fields ts }).update e (SX (·.setIfInBounds 1 (RZ h₁.objs.size)))).get? e=some ⟨cls,xd,.fields (vs.setIfInBounds 1 (RZ h₁.objs.size)),sl⟩ :=
  S9 (SX (·.setIfInBounds 1 (RZ h₁.objs.size))) e2 rfl
 have gT:((h₁.push { cls:=.type "traceback",dict:=none,data:=.fields ts }).update e (SX (·.setIfInBounds 1 (RZ h₁.objs.size)))).get? h₁.objs.size=some { cls:=.type "traceback",dict:=none,data:=.fields ts } :=
  (Sx _ _ (R4 nT)).trans (wt h₁ rfl)
 exact h _ I' ⟨ok,sl,_,gE,⟨by simpa using hz.sz,λz=>by rw[Array.getElem?_setIfInBounds_ne (by decide)];exact hz.cx z⟩,h₁.objs.size,_,ts,by simp[hz.sz],nT,fT,gT,rfl,t3⟩
theorem nq {M:Model}{A:Around}{E:Value->Shared->Prop}{f:Option Addr}{mv:Value}{Q:Unit->Shared->Prop}(I:Inv X pins σ H s)(x:XAt X pins H s.heap e cls xd (some mv))
  (h:∀s',Inv X pins σ H s'->XAt X pins H s'.heap e cls xd (some (f.elim .none λb=>rawInt b))->Q () s'):wpAny M A (setFlight (.ref e) f) Q E s:=by
 obtain⟨ok,sl,vs,he,hz,T,oT,ts,h1,nT,fT,hT,hd,h3⟩:=x;unfold setFlight;refine cb (wpAny_field he rfl h1 ?_);rw[if_pos (show (RZ T != Tp)=true by simp)]
 have z3:3 < ts.size:=(Array.getElem?_eq_some_iff.mp h3).1;refine wpAny_setField hT hd z3 ?_;have other:∀b,b≠T->(s.heap.update T (SX (·.setIfInBounds 3 (f.elim Tp λb=>rawInt b)))).get? b=s.heap.get? b:=λb hb=>Sx _ _ (R4 hb)
 have I':=I.turned (t':=s.toks) (h':=s.heap.update T (SX (·.setIfInBounds 3 (f.elim Tp λb=>rawInt b)))) (λb o hb q=>(other b hb).trans q) fT.1 fT.2.1 fT.2.2.2.1 fT.2.2.2.2.1 fT.2.2.2.2.2
 exact h _ I' ⟨ok,sl,vs,(other e (R4 nT)).trans he,hz,T,_,_,h1,nT,fT,S9 _ hT (Obj.isFreed_of_fields (Obj.data_mapFields hd _)),Obj.data_mapFields hd _,by simp[z3]⟩
theorem DM {M:Model}{A:Around}{E:Value->Shared->Prop}{Q:Unit->Shared->Prop}(F:Fr1 X)(hA:A.frames=some X.stack)(I:Inv X pins σ H s)(x:XAt X pins H s.heap e cls xd m)(hm:MOk X m)
  (h:∀s',Inv X pins σ H s'->XAt X pins H s'.heap e cls xd (some (rawInt X.env.locals))->Q () s'):wpAny M A (noteFrame (.ref e) X.env) Q E s:=by
 obtain⟨ok,sl,vs,he,hz,hv⟩:=x;unfold noteFrame;simp only[F.fr];cases m with
 |none =>
  refine cb (wpAny_field he rfl hv ?_);rw[if_neg (by decide)]
  exact Fb F hA I ok he hz h
 |some mv =>
  obtain⟨T,oT,ts,h1,nT,fT,hT,hd,h3⟩:=hv;refine cb (wpAny_field he rfl h1 ?_);rw[if_pos (show (RZ T != Tp)=true by simp)]
  refine cb (wpAny_field hT hd h3 ?_)
  by_cases hmv:mv=rawInt X.env.locals
  ·subst hmv;rw[if_pos (show (rawInt X.env.locals == rawInt X.env.locals)=true by simp)]
   exact me (h s I ⟨ok,sl,vs,he,hz,T,oT,ts,h1,nT,fT,hT,hd,h3⟩)
  ·rw[if_neg (show ¬(mv == rawInt X.env.locals)=true from λz=>hmv (beq_iff_eq.mp z))]
   have z3:3 < ts.size:=(Array.getElem?_eq_some_iff.mp h3).1;refine cb (wpAny_setField hT hd z3 ?_);have other:∀b,b≠T->(s.heap.update T (SX (·.setIfInBounds 3 Tp))).get? b=s.heap.get? b:=λb hb=>Sx _ _ (R4 hb)
   have I':=I.turned (t':=s.toks) (h':=s.heap.update T (SX (·.setIfInBounds 3 Tp))) (λb o hb q=>(other b hb).trans q) fT.1 fT.2.1 fT.2.2.2.1 fT.2.2.2.2.1 fT.2.2.2.2.2
   exact Fb F hA I' ok ((other e (R4 nT)).trans he) hz h
end
abbrev CXB (b:Bool)(P:kr)(w:World):CXT:=λouter H s E e s'=>∃(ea T:Addr) (cls:Value) (xd:Option Addr) (H':Hp),e=.ref ea/\s'.os=s.os/\AllBare s'.gens/\Un (frs outer) [] H H' s.heap s'.heap/\HOk P w H' s'.heap /\
 (H' ea=none/\s.heap.objs.size<=ea)/\(H' T=none/\s.heap.objs.size<=T)/\T≠ea /\
 (∃(sl:Array (Option Value)) (vs:Array Value) (oT:Obj) (ts:Array Value),s'.heap.get? ea=some ⟨cls,xd,.fields vs,sl⟩/\(1 < vs.size/\(b=true->vs[2]?=some .none))/\vs[1]?=some (.ref T)/\s'.heap.get? T=some oT/\oT.data=.fields ts/\ts[3]?=some .none)/\E cls xd H'
abbrev CXX (P:kr)(w:World):CXT:=CXB true P w
section
variable{X:Cx}{pins:List (Addr×Obj)}{σ:St}{H:Hp}{s s':Shared}{b:Bool}
theorem MX {E:XK}{e:Value}(hb:X.xc=true->b=true)(I:Inv X pins σ H s)(h:CXB b X.prog X.w X.stack H s E e s'):XP X pins σ E e s':=by
 obtain⟨ea,T,cls,xd,H',rfl,os,bare,un,hok,⟨e1,e2⟩,⟨t1,t2⟩,ne,⟨sl,vs,oT,ts,g1,g2,g3,g4,g5,g6⟩,q⟩:=h;have I':Inv X pins σ H' s':=I.Bx (ch:=[]) os un hok bare λb z=>absurd z (by simp)
 exact⟨ea,cls,xd,some .none,H',rfl,I',⟨I.sI e2 e1,sl,vs,g1,⟨g2.1,λz=>g2.2 (hb z)⟩,T,oT,ts,g3,ne,I.sI t2 t1,g4,g5,g6⟩,.inr (.inl rfl),q⟩
theorem DN:Passes (CXB b X.prog X.w) X E0:=λ_ _ _ _ _ _ _ ⟨_,_,_,_,_,_,_,_,_,_,_,_,_,_,z⟩=>z.elim
end
section
variable{P:kr}{w:World}{K:bo}{mg:Str->Option Value}{base:Heap}{k:Nat}{f:Addr}{fd:fi}{ps:List Str}{sp:Sp}
theorem aX.calm (F:aX P w K mg base (CXX P w) k f fd ps sp)(h:∀vs H Q E,sp vs H Q E->sp vs H Q E0):aX P w K mg base CX0 k f fd ps sp:=by
 refine⟨F.len,λA outer s H args us vs Q E hr he hb hv hs=>codeAny_mono (F.run A outer s H args us vs Q E0 hr he hb hv (h _ _ _ _ hs)) λr s' q=>?_⟩
 cases r with
 |error e=>obtain⟨_,_,_,_,_,_,_,_,_,_,_,_,_,_,z⟩:=q;exact z.elim
 |ok fl=>cases fl <;> exact q
theorem Kv {N:List Str}{qual:Str}{scope:Scope}{cd:Value}{A:Around}{outer:List Env}{s s':Shared}{H:Hp}{E:XK}{e:Value}{pins:List (Addr×Obj)}
  (h:XPS (bt (CXX P w) P w K mg base N qual scope f cd A outer s H E) pins (λ_=>E) e s'):(bt (CXX P w) P w K mg base N qual scope f cd A outer s H E).xe e s':=by
 obtain⟨σ',ea,cls,xd,m,H',rfl,I,hx,hm,q⟩:=h;have fr:(bt (CXX P w) P w K mg base N qual scope f cd A outer s H E).A.frames=some (bt (CXX P w) P w K mg base N qual scope f cd A outer s H E).stack:=I.ok.frames;have F1:Fr1 (bt (CXX P w) P w K mg base N qual scope f cd A outer s H E):=⟨rfl,rfl⟩;show wpAny _ _ (leaving (bt (CXX P w) P w K mg base N qual scope f cd A outer s H E).env (.ref ea)) _ _ s';unfold leaving;refine cb (DM F1 fr I hx hm λs1 I1 x1=>nq I1 x1 λs2 I2 x2=>?_)
 obtain⟨ok,sl,vs,he,hz,T,oT,ts,h1,nT,fT,hT,hd,h3⟩:=x2;have old:∀ {b:Addr},dU (bt (CXX P w) P w K mg base N qual scope f cd A outer s H E) pins H' b->s.heap.objs.size<=b:=λ{b} z=>by
  rcases z.2.2.2.1 with y | y
  ·exact absurd (show b∈([]:List Addr) from y) (by simp)
  ·exact y
 exact⟨ea,T,cls,xd,H',rfl,I2.os,I2.bare,I2.base,I2.hok,⟨ok.1,old ok⟩,⟨fT.1,old fT⟩,nT,⟨sl,vs,oT,ts,he,⟨hz.sz,λ_=>hz.cx rfl⟩,h1,hT,hd,h3⟩,q⟩
end
abbrev TEX:=St->Hp->VK->XK->Prop
abbrev TAX:=St->Hp->(List V->Hp->Prop)->XK->Prop
abbrev TSX:=Ends->SXK->St->Hp->Prop
def PEX (X:Cx)(e:Expr)(t:TEX):Prop :=
 ∀(pins:List (Addr×Obj)) (s:Shared) (σ:St) (H:Hp) (Q:VK) (E:XK),Inv X pins σ H s->t σ H Q E->wpAny (model X.prog X.w) X.A (eval e X.env) (EP X pins σ Q) (XP X pins σ E) s
def PAX (X:Cx)(es:List Expr)(t:TAX):Prop :=
 ∀(pos:Pos) (pins:List (Addr×Obj)) (s:Shared) (σ:St) (H:Hp) (Q:List V->Hp->Prop) (E:XK),Inv X pins σ H s->t σ H Q E->wpAny (model X.prog X.w) X.A (spliced (backTo pos (Lk es X.env))) (AP X pins σ Q) (XP X pins σ E) s
def PSX (X:Cx)(st:Stmt)(t:TSX):Prop :=
 ∀(pins:List (Addr×Obj)) (s:Shared) (σ:St) (H:Hp) (D:Ends) (E:SXK),Inv X pins σ H s->t D E σ H->wpAny (model X.prog X.w) X.A (exec st X.env) (SP X pins D) (XPS X pins E) s
def BO (X:Cx)(st:List Stmt)(t:TSX):Prop :=
 ∀(pins:List (Addr×Obj)) (s:Shared) (σ:St) (H:Hp) (D:Ends) (E:SXK),Inv X pins σ H s->t D E σ H->wpAny (model X.prog X.w) X.A (execs st X.env) (SP X pins D) (XPS X pins E) s
def MY (te:TE):TEX:=λσ H Q _=>te σ H Q
def MZ (ta:TA):TAX:=λσ H Q _=>ta σ H Q
def HG (ts:TS):TSX:=λD _ σ H=>ts D σ H
def HI (t1:TEX)(t2:TAX):TAX:=λσ H Q E=>t1 σ H (λx H1=>t2 σ H1 (λxs H2=>Q (x::xs) H2) E) E
def L1 (t1 t2:TSX):TSX:=λD E σ H=>t1 { D with nx:=t2 D E } E σ H
def OX (tc:TT)(t1 t2:TSX):TSX:=λD E σ H=>tc σ H λd H1=>if d=true then t1 D E σ H1 else t2 D E σ H1
def HJ (t:TEX):TSX:=λD E σ H=>t σ H (λ_ H1=>D.nx σ H1) (E σ)
def L3 (t:TEX):TSX:=λD E σ H=>t σ H D.rt (E σ)
def HK (t:TAX)(sp:Sp):TEX:=λσ H Q E=>t σ H (λvs H1=>sp vs H1 Q E) E
def HL (C:Addr)(m:Str)(ta:TEX)(t:TAX)(sp:Sp):TEX:=λσ H Q E=>ta σ H (λx H1=>∃a dx fs,x=.ref a/\H1 a=some (.ins C dx fs)/\fs.lookup m=none/\t σ H1 (λvs H2=>sp (x::vs) H2 Q E) E) E
def Fc (C:Addr)(m:Str)(ta:TEX)(sp:Sp):TEX:=λσ H Q E=>ta σ H (λx H1=>∃a dx fs,x=.ref a/\H1 a=some (.ins C dx fs)/\fs.lookup m=none/\sp [x] H1 Q E) E
section
variable{X:Cx}{e:Expr}{es:List Expr}{st:Stmt}{sts:List Stmt}{te:TE}{ta:TA}{ts:TS}{pos:Pos}
theorem EP.cO {pins:List (Addr×Obj)}{σ:St}{Q:VK}{u:Value}{s':Shared}{W:Value->Shared->Prop}(h:EP (X.j4 W) pins σ Q u s'):EP X pins σ Q u s':=by
 obtain⟨v,H',I,r,q⟩:=h;exact⟨v,H',I.cO,r,q⟩
theorem px (h:PE X.nox e te):PEX X e (MY te):=λpins s σ H Q _ I hw =>
 om (h pins s σ H Q (I.j4 _) hw) (λ_ _ q=>q.cO) λ_ _ z=>Sb z
theorem pax (h:PA X.nox es ta):PAX X es (MZ ta):=λpos pins s σ H Q _ I hw =>
 om (h pos pins s σ H Q (I.j4 _) hw) (λ_ _ ⟨vs,H',I',r,q⟩=>⟨vs,H',I'.cO,r,q⟩) λ_ _ z=>Sb z
theorem psx (h:PS X.nox st ts):PSX X st (HG ts):=λpins s σ H D _ I hw =>
 om (h pins s σ H D (I.j4 _) hw) (λ_ _ q=>q.cO) λ_ _ z=>Sb z
theorem rp (h:PSs X.nox sts ts):BO X sts (HG ts):=λpins s σ H D _ I hw =>
 om (h pins s σ H D (I.j4 _) hw) (λ_ _ q=>q.cO) λ_ _ z=>Sb z
theorem vk:PAX X [] (λ_ H Q _=>Q [] H):=λ_ _ _ _ H Q _ I h=>Calls.spliced_nil ⟨[],H,I,.nil,h⟩
theorem gU {t1:TEX}{t2:TAX}(ha:PEX X e t1)(hr:PAX X es t2)(hs:Lk (e::es) X.env=(false,eval e X.env)::Lk es X.env:=by rfl) :
  PAX X (e::es) (HI t1 t2):=by
 intro pos pins s σ H Q E I h;unfold HI at h;rw[hs];refine Calls.spliced_cons (om (ha pins s σ H _ E I h) (λu s1 ⟨x,H1,I1,r1,q1⟩=>?_) λ_ _ z=>z)
 exact om (hr pos pins s1 σ H1 _ E I1 q1) (λus s2 ⟨xs,H2,I2,r2,q2⟩=>⟨x::xs,H2,I2,.cons r1 r2,q2⟩) λ_ _ z=>z
theorem a6 {t1 t2:TSX}(h1:PSX X st t1)(h2:BO X sts t2):BO X (st::sts) (L1 t1 t2):=by
 intro pins s σ H D E I h;unfold L1 at h;refine wpAny_execs_cons (thn (h1 pins s σ H { D with nx:=t2 D E } E I h) λf s1 q=>?_)
 cases f with
 |next =>
  obtain⟨σ',H',I',q⟩:=q;exact h2 pins s1 σ' H' D E I' q
 |ret v=>exact q
 |brk=>exact q
 |cont=>exact q
theorem bw {t1:TSX}(h1:PSX X st t1):BO X [st] t1:=by
 intro pins s σ H D E I h;refine wpAny_execs_cons (thn (h1 pins s σ H D E I h) λf s1 q=>?_)
 cases f with
 |next=>exact wpAny_execs_nil q
 |ret v=>exact q
 |brk=>exact q
 |cont=>exact q
theorem eI {c:Expr}{a b:List Stmt}{tc:TT}{t1 t2:TSX}(hc:PT X.nox c tc)(ha:BO X a t1)(hb:BO X b t2):PSX X (.If c a b pos) (OX tc t1 t2):=by
 intro pins s σ H D E I h;unfold OX at h;refine wpAny_If (om (hc pins s σ H _ (I.j4 _) h) (λd s1 ⟨H1,I1,q1⟩=>?_) λ_ _ z=>Sb z)
 cases d with
 |true=>exact ha pins s1 σ H1 D E I1.cO q1
 |false=>exact hb pins s1 σ H1 D E I1.cO q1
theorem i5 {t:TEX}(he:PEX X e t)(hs:swapsWith e none pos.line X.env=pure false:=by rfl):PSX X (.Expr e pos) (HJ t):=by
 intro pins s σ H D E I h;unfold HJ at h;exact wpAny_Expr_any (om (he pins s σ H _ _ I h) (λv s1 ⟨x,H1,I1,r1,q1⟩=>⟨σ,H1,I1,q1⟩) λ_ _ z=>⟨σ,z⟩) I.quiet hs
theorem vm {t:TEX}(he:PEX X e t):PSX X (.Return (some e) pos) (L3 t):=by
 intro pins s σ H D E I h;unfold L3 at h;exact wpAny_Return_some (om (he pins s σ H _ _ I h) (λv s1 ⟨x,H1,I1,r1,q1⟩=>⟨x,σ,H1,I1,r1,q1⟩) λ_ _ z=>⟨σ,z⟩)
end
section
variable{X:Cx}{k:Nat}{f C:Addr}{fd:fi}{ps:List Str}{sp:Sp}{x m:Str}{p pos apos:Pos}{e o:Expr}{es:List Expr}{t:TAX}
theorem Au {pins:List (Addr×Obj)}{σ:St}{H:Hp}{s:Shared}{Q:VK}{E:XK}{us:List Value}{vs:List V}(F:aX X.prog X.w X.K X.mg X.base (CXX X.prog X.w) k f fd ps sp)(hr:Room k X.A)(hb:Binds X.K fd ps [])
  (I:Inv X pins σ H s) (r:Vals vs us) (h:sp vs H Q E):wpAny (model X.prog X.w) X.A (call (.ref f) us) (EP X pins σ Q) (XP X pins σ E) s:=by
 have hl:(us++[]).length=ps.length:=by rw[S6,<-r.length];exact F.len _ _ _ _ h
 have b:=hb s us I.kIn hl;rw[S6]at b;refine wpAny_call (codeAny_mono (F.run X.A X.stack s H ⟨us,[]⟩ us vs Q E hr I.Kg b r h) λr s' hq=>?_)
 cases r with
 |error e=>exact MX (λ_=>rfl) I hq
 |ok fl =>
  cases fl with
  |ret u=>exact I.after hq
  |next=>exact Sb hq
  |brk=>exact Sb hq
  |cont=>exact Sb hq
theorem rq (F:aX X.prog X.w X.K X.mg X.base (CXX X.prog X.w) k f fd ps sp)(hr:Room k X.A)(hg:Gl X x)(hm:X.mg x=some (.ref f))(hk:Tr X.K (.ref f)=true)(hb:Binds X.K fd ps [])(ha:PAX X (e::es) t)
  (hdb:(x == ("__debug__":Str))=false:=by decide) (he:Lk (e::es) X.env=(false,eval e X.env)::Lk es X.env:=by rfl) (hpl:(backTo pos (Lk es X.env)).any (·.1)=false:=by rfl) :
  PEX X (.Call (.Name x p) (e::es) [] pos) (HK t sp):=by
 intro pins s σ H Q E I h;unfold HK at h;refine wpAny_Call_Name_kw (fG I hg hm ?_ hdb);exact TQ (h₀:=X.base) I.ok.mod.kin hk (thn (ha pos pins s σ H _ E I h) λus s1 ⟨vs,H1,I1,r,q⟩=>⟨I1.kIn,Au F hr hb I1 r q⟩) he hpl
theorem rz {pl:Sem Bool}{ta:TEX}(he:PEX X o ta)(c:Cls X.K C)(hm:Meth X.K C m f)(F:aX X.prog X.w X.K X.mg X.base (CXX X.prog X.w) k f fd ps sp)(hr:Room k X.A)(hb:Binds X.K fd ps [])(ha:PAX X (e::es) t)
  (hst:Lk (e::es) X.env=(false,eval e X.env)::Lk es X.env:=by rfl) (hpl:(backTo pos (Lk es X.env)).any (·.1)=false:=by rfl)
  (ht:eval (.Call (.Attribute o m apos) (e::es) [] pos) X.env=(do
   let ov <-eval o X.env
   standAt apos.atName
   let (f,first) <-holding [ov] (getMethod ov m pl)
   callWith pos f first (backTo pos (Lk (e::es) X.env)) (backToKw pos (keywordEach [] X.env))):=by rfl) :
  PEX X (.Call (.Attribute o m apos) (e::es) [] pos) (HL C m ta t sp):=by
 intro pins s σ H Q E I h;unfold HL at h;refine SJ (pl:=pl) (thn (he pins s σ H _ E I h) λu s1 ⟨x,H1,I1,rx,a,dx,fs,ex,ea,l,q⟩=>?_) ht
 subst ex;obtain rfl:u=RZ a:=rx;refine gj I1 ea c hm l ?_;exact TQ (first:=[.ref a]) (h₀:=X.base) I.ok.mod.kin hm.kp (thn (ha pos pins s1 σ H1 _ E I1 q) λus s2 ⟨vs,H2,I2,r,q2⟩=>⟨I2.kIn,Au (us:=.ref a::us) (vs:=.ref a::vs) F hr hb I2 (.cons rfl r) q2⟩) hst hpl
theorem sS {pl:Sem Bool}{ta:TEX}(he:PEX X o ta)(c:Cls X.K C)(hm:Meth X.K C m f)(F:aX X.prog X.w X.K X.mg X.base (CXX X.prog X.w) k f fd ps sp)(hr:Room k X.A)(hb:Binds X.K fd ps [])
  (ht:eval (.Call (.Attribute o m apos) [] [] pos) X.env=(do
   let ov <-eval o X.env
   standAt apos.atName
   let (f,first) <-holding [ov] (getMethod ov m pl)
   callWith pos f first (backTo pos (Lk [] X.env)) (backToKw pos (keywordEach [] X.env))):=by rfl) :
  PEX X (.Call (.Attribute o m apos) [] [] pos) (Fc C m ta sp):=by
 intro pins s σ H Q E I h;unfold Fc at h;refine SJ (pl:=pl) (thn (he pins s σ H _ E I h) λu s1 ⟨x,H1,I1,rx,a,dx,fs,ex,ea,l,q⟩=>?_) ht
 subst ex;obtain rfl:u=RZ a:=rx;refine gj I1 ea c hm l ?_;exact TM (first:=[.ref a]) I1.kIn hm.kp (Au (us:=[.ref a]) (vs:=[.ref a]) F hr hb I1 (.cons rfl .nil) q)
end
section
variable{P:kr}{w:World}{K:bo}{mg:Str->Option Value}{base:Heap}
theorem Fun.okX {x qual:Str}{st:Stmt}{f:Addr}{fd:fi}{N ps:List Str}{k:Nat}{sp:Sp}(F:Fun K x qual st f fd)(S:aO N ps (ay st))(len:∀vs H Q E,sp vs H Q E->vs.length=ps.length)
  (BC:∀(cdv:Value) (A:Around) (outer:List Env) (s:Shared) (H:Hp) (vs:List V) (Q:VK) (E:XK),Room k (A.deeper (envOfC qual (ay st) s.heap.objs.size f cdv))->sp vs H Q E ->
   ∃t,BO (bt (CXX P w) P w K mg base N qual (ay st) f cdv A outer s H E) (oU st) t/\t { nx:=λ_ H'=>Q .non H',rt:=Q } (λ_=>E) (start N vs) H):aX P w K mg base (CXX P w) (k+1) f fd ps sp:=by
 obtain⟨oc,od,kV,doc,pm,an,cdv,ct,osl,rfl,lk,hcd⟩:=F.ex;refine LZ lk hcd S len λA outer s H vs Q E hr hsp=>?_
 obtain⟨t,h,q⟩:=BC cdv A outer s H vs Q E hr hsp;exact⟨λD σ H=>t D (λ_=>E) σ H,λpins s1 σ H1 D I hw=>om (h pins s1 σ H1 D _ I hw) (λ_ _ z=>z) λ_ _ z=>Kv z,q⟩
end
abbrev hcx (X:Cx)(e:Addr):Cx:={ X with A:=X.A.mark (some (.ref e)),calm:=false,xe:=λ_ _=>False }
section
variable{X:Cx}{pins:List (Addr×Obj)}{σ:St}{H:Hp}{s:Shared}{e:Addr}{cls:Value}{xd:Option Addr}{m:Option Value}
theorem HM (I:Inv X pins σ H s)(e:Addr):Inv (hcx X e) pins σ H s :=
 ⟨⟨I.ok.mod,I.ok.kind,I.ok.glob,I.ok.blt,I.ok.above,I.ok.inj,I.ok.has,I.ok.cab,λz=>absurd (show false=true from z) kj,I.ok.frames,I.ok.stk,I.ok.exf,I.ok.bs,I.ok.bsz,I.ok.Ad,I.ok.yu,I.ok.pD,I.ok.frf⟩,I.os,I.bare,I.base,I.loc,I.cell,I.free,I.kJ,I.pin,I.hok,I.len⟩
theorem vn (ok:X.Ok)(I:Inv (hcx X e) pins σ H s):Inv X pins σ H s:=⟨ok,I.os,I.bare,I.base,I.loc,I.cell,I.free,I.kJ,I.pin,I.hok,I.len⟩
end
abbrev THX:=Ends->SXK->St->XK
def L4 (K:bo)(C:Addr)(ts:TS)(tr:THX):THX:=λD E σ cls xd H=>∃b,Sz K cls (.ref C)=some b/\if b=true then ts D σ H else tr D E σ cls xd H
def L5 (tb:TSX)(th:THX):TSX:=λD E σ H=>tb D (λσ' cls xd H'=>th D E σ' cls xd H') σ H
def PHX (X:Cx)(hs:List ExceptHandler)(t:THX):Prop :=
 ∀(pins:List (Addr×Obj)) (s:Shared) (σ:St) (H:Hp) (D:Ends) (E:SXK) (ea:Addr) (cls:Value) (xd:Option Addr),Inv X pins σ H s->XAt X pins H s.heap ea cls xd (some .none)->t D E σ cls xd H ->
  wpAny (model X.prog X.w) X.A (handleBy (.ref ea) X.env hs) (SP X pins D) (XPS X pins E) s
section
variable{X:Cx}{x n:Str}{C:Addr}{np pos:Pos}{b₀:Stmt}{L6:List Stmt}{rest:List ExceptHandler}{ts:TS}{tr:THX}
theorem Kw (F:Fr1 X):PHX X [] (λ_ E σ cls xd H=>E σ cls xd H):=by
 intro pins s σ H D E ea cls xd I hx h;refine wpAny_handleBy_nil ?_;unfold PySem.passOn;obtain⟨ok,sl,vs,he,hz,T,oT,ts,h1,r⟩:=id hx;refine cb (wpAny_field he rfl h1 ?_);rw[if_neg (show ¬((RZ T == Tp)=true) by simp)]
 have step:wpAny (model X.prog X.w) X.A (do setFlight (.ref ea) X.env.frame;throw (.ref ea):Sem Flow) (SP X pins D) (XPS X pins E) s :=
  cb (nq I hx λs2 I2 x2=>wpAny_throw ⟨σ,ea,cls,xd,_,H,rfl,I2,x2,by rw[F.fr];exact .inr (.inr ⟨_,rfl⟩),h⟩)
 first
  |exact step
  |exact cb (me step)
theorem OY {pins:List (Addr×Obj)}{s:Shared}{σ:St}{H:Hp}{ea:Addr}{cls:Value}{xd:Option Addr}{b:Bool}{E:Value->Shared->Prop}{R:Bool->Shared->Prop}(I:Inv X pins σ H s)(hx:XAt X pins H s.heap ea cls xd (some .none))
  (hg:Gl X x) (hm:X.mg x=some (.ref C)) (eb:Sz X.K cls (.ref C)=some b) (h:R b s) (hd:(x == ("__debug__":Str))=false:=by decide) :
  wpAny (model X.prog X.w) (X.A.mark (some (.ref ea))) (eval (.Name x np) X.env) (λc s₁=>wpAny (model X.prog X.w) (X.A.mark (some (.ref ea))) (excMatches (.ref ea) c) R E s₁) E s:=by
 obtain⟨_,sl,vs,he,_⟩:=hx;refine fG (HM I ea) hg hm ?_ hd;have lt:PySem.W.Looks (model X.prog X.w) s.heap (typeOf (.ref ea)) cls:=(PySem.W.Looks.ld he).andThen .now;exact PySem.W.exm_one I.kIn lt eb _ _ _ s (λ_ _ q=>q) h
theorem HN (hg:Gl X x)(hm:X.mg x=some (.ref C))(hs:∀e,PSs (hcx X e) (b₀::L6) ts)(hr:PHX X rest tr)(hd:(x == ("__debug__":Str))=false:=by decide) :
  PHX X (.ExceptHandler (some (.Name x np)) none (b₀::L6) pos::rest) (L4 X.K C ts tr):=by
 intro pins s σ H D E ea cls xd I hx h;unfold L4 at h;obtain⟨b,eb,h⟩:=h;refine wpAny_handleBy_cons (codeAny_handlers_test (OY I hx hg hm eb ?_ hd)) (by intro q;cases q)
 cases b with
 |true =>
  refine codeAny_handlers_suite (nq I hx λs1 I1 x1=>?_)
  refine om (hs ea pins s1 σ H D (HM I1 ea) h) (λf s2 q=>?_) λ_ _ z=>Sb z
  cases f with
  |next=>obtain⟨σ',H',I',q⟩:=q;exact⟨σ',H',vn I.ok I',q⟩
  |brk=>obtain⟨σ',H',I',q⟩:=q;exact⟨σ',H',vn I.ok I',q⟩
  |cont=>obtain⟨σ',H',I',q⟩:=q;exact⟨σ',H',vn I.ok I',q⟩
  |ret u=>obtain⟨v,σ',H',I',r,q⟩:=q;exact⟨v,σ',H',vn I.ok I',r,q⟩
 |false=>exact hr pins s σ H D E ea cls xd I hx h
theorem Kx {body:List Stmt}{h₀:ExceptHandler}{hs:List ExceptHandler}{tb:TSX}{th:THX}(F:Fr1 X)(hb:BO X body tb)(hh:PHX X (h₀::hs) th) :
  PSX X (.Try body (h₀::hs) [] [] pos) (L5 tb th):=by
 intro pins s σ H D E I h;unfold L5 at h;refine wpAny_Try_except (om (hb pins s σ H D _ I h) (λf s1 q=>?_) (λv s1 q=>?_))
 ·cases f with
  |next=>exact wpAny_execs_nil q
  |ret v=>exact q
  |brk=>exact q
  |cont=>exact q
 ·obtain⟨σ',ea,cls,xd,m,H',rfl,I1,hx,hm,q⟩:=q;exact DM F I1.ok.frames I1 hx hm λs2 I2 x2=>nq I2 x2 λs3 I3 x3=>hh pins s3 σ' H' D E ea cls xd I3 x3 q
end
structure GaX (K:bo)(C:Addr):Prop where
 ga:RU K (.ref C) "__getattribute__"=some (some (.builtin "BaseException.__getattribute__"))
 hk:RU K (.ref C) "__getattr__"=some none
 mb:TV K C (.type "BaseException")=some true
structure OZ (K:bo)(C:Addr):Prop where
 ga:GaX K C
 cd:(PySem.W.clsIn K C).isSome=true
 ha:RU K (.ref C) "__class__"=some (some (.builtin "object.__class__"))
 hn:PySem.W.specialIn K (.builtin "object.__class__") "__get__"=some (some (.builtin "getset_descriptor.__get__"))
 htk:PySem.W.takesIn K (.builtin "object.__class__")=some true
 hm:TV K C (.type "object")=some true
section
variable{prog:kr}{w:World}{A:Around}{E:Value->Shared->Prop}{h:Heap}{g:Array GenState}{d:Drawn}{t:Nat}{os:OsState}
variable{nm q:Str}{C N:Addr}{bs bm bmB:List Value}{hdct:Bool}{sn:List Str}{sub:List Value}{ab:Bool}{col:Option Bool}{dd:Option Addr}{k0 k1 k2 k3 k5:Option Value}{B nid iid:String}
abbrev jK (h:Heap)(C:Addr)(us:List Value):Heap:=(h.push { cls:=.type "tuple",data:=.seq us.toArray }).push ⟨.ref C,none,.fields #[.ref h.objs.size,.none,.none,.none,.bool false,.none],#[]⟩
theorem dH {us:List Value}{b:Addr}{o:Obj}(e:h.get? b=some o):(jK h C us).get? b=some o:=da _ (da _ e)
theorem vP {us:List Value}:(jK h C us).get? (h.objs.size+1)=some ⟨.ref C,none,.fields #[.ref h.objs.size,.none,.none,.none,.bool false,.none],#[]⟩:=by
 have:=wt (h.push { cls:=.type "tuple",data:=.seq us.toArray }) (o:=⟨.ref C,none,.fields #[.ref h.objs.size,.none,.none,.none,.bool false,.none],#[]⟩) rfl
 rwa [Tt]at this
theorem DO (F:ExcBaseFacts B nid iid bmB)(T:OwnTail h bmB bm){mN:Str->Option Value}{us:List Value}{Q:Fin->Shared->Prop}
  (kC:h.get? C=some (Td nm q C N bs bm hdct sn sub ab col dd k0 k1 k2 k3 k5 nid)) (kN:h.Ns N mN) (kI:mN "__init__"=none) (hz:us.length<=fe)
  (hq:∀h',(∀b o,h.get? b=some o->h'.get? b=some o)->(∃tp,h'.get? (h.objs.size+1)=some ⟨.ref C,none,.fields #[.ref tp,.none,.none,.none,.bool false,.none],#[]⟩)->Q (.done (.ret (.ref (h.objs.size+1)))) ⟨h',g,d,t,os⟩) :
  wpAny (model prog w) A (Builtin.«type.__call__» ⟨.ref C::us,[]⟩) Q E ⟨h,g,d,t,os⟩:=by
 repeat (first | with_reducible refine wpAny_loadPart_at kC ?_ | with_reducible refine wpAny_madeBy_exc kC ?_ | wp_step)
 refine codeAny_call_builtin_code (Code.quiet_builtin _ F.quiet) (wpAny_check_new_subT F T kC (codeAny_exc_new_subT F T kC ?_ hz));show wpAny _ _ _ _ _ _;have kC1:(jK h C us).get? C=_:=dH kC;have kN1:(jK h C us).Ns N mN:=kN.keeps λb o e=>dH e
 have T1:OwnTail (jK h C us) bmB bm:=T.keeps λb o e=>dH e
 have kE:=vP (h:=h) (C:=C) (us:=us);have self:(RZ C::bm).contains (.ref C)=true:=by simp
 unfold isInstance
 repeat (first | with_reducible refine wpAny_loadPart_at kE ?_ | (with_reducible refine wpAny_isSubtype_exc kC1 ?_;rw[self]) | wp_step)
 show wpAny _ _ (typeLookup (.ref C) _) _ _ _;refine wpAny_typeLookup_tail kC1 kN1 T1 F.mroIs F.init.lookup ?_;rw[kI];refine wpAny_holding (cb (wpAny_of_eq (F.init.bind _) ?_));refine cb (wpAny_call (codeAny_call_builtin F.init.plain F.initEntry (wpAny_check_init_subT F T1 kC1 kE rfl ?_)))
 wp_walk
 refine hq _ (λb o e=>?_) ⟨h.objs.size+2,?_⟩
 ·rw[Sx _ _ (Nat.ne_of_gt (TB (kx e)))];exact da _ (dH e)
 ·refine(S9 _ (da _ kE) rfl).trans ?_;simp only[Tt];rfl
theorem Ge (F:ExcBaseFacts B nid iid bmB)(T:OwnTail h bmB bm){mN:Str->Option Value}{us:List Value}{Q:Value->Shared->Prop}
  (kC:h.get? C=some (Td nm q C N bs bm hdct sn sub ab col dd k0 k1 k2 k3 k5 nid)) (kN:h.Ns N mN) (kI:mN "__init__"=none) (hz:us.length<=fe)
  (hq:∀h',(∀b o,h.get? b=some o->h'.get? b=some o)->(∃tp,h'.get? (h.objs.size+1)=some ⟨.ref C,none,.fields #[.ref tp,.none,.none,.none,.bool false,.none],#[]⟩)->Q (.ref (h.objs.size+1)) ⟨h',g,d,t,os⟩) :
  wpAny (model prog w) A (call (.ref C) us) Q E ⟨h,g,d,t,os⟩:=by
 have l1:=tc_lookup;have l2:=tc_bind (.ref C);have ty:(⟨h,g,d,t,os⟩:Shared).TypeIs (.ref C) "type":=⟨_,kC,rfl⟩;refine wpAny_call (codeAny_of_tree ?_);show wpAny _ _ (callAny (.ref C) _) _ _ _
 repeat (any_goals (first | assumption | with_reducible refine wpAny_loadPart_at kC ?_ | wp_step))
 refine⟨rfl,codeAny_call_builtin_at (Code.quiet_builtin _ (by trivial)) entry_typeCall (wpAny_check_type_call_sub kC (DO F T kC kN kI hz λh' k e=>?_))⟩
 exact hq h' k e
theorem oY {M:Model}{env:Env}{s:Shared}{x:Sem Value}{Q:Flow->Shared->Prop}(BF:bm.contains (.type "BaseException")=true)(hh:A.handled=none)
  (hx:wpAny M A x (λv s₁=>∃(e:Addr) (xd:Option Addr) (a0:Value) (sl:Array (Option Value)),v=.ref e/\s₁.heap.get? C=some (Td nm q C N bs bm hdct sn sub ab col dd k0 k1 k2 k3 k5 nid) /\
   s₁.heap.get? e=some ⟨.ref C,xd,.fields #[a0,.none,.none,.none,.bool false,.none],sl⟩/\E (.ref e) s₁) E s):wpAny M A (raiseStmt env (some x) none) Q E s:=by
 have top:(RZ C::bm).contains (.type "BaseException")=true:=by rw[List.contains_cons,BF,Bool.or_true]
 unfold raiseStmt;refine cb (om hx (λv s₁ h₁=>?_) λ_ _ z=>z)
 obtain⟨e,xd,a0,sl,rfl,kC,kE,fin⟩:=h₁;obtain⟨hp,g',d',tk,os'⟩:=s₁
 repeat (first | with_reducible refine wpAny_loadPart_at kE ?_ | with_reducible refine wpAny_loadPart_at kC ?_ | (with_reducible refine wpAny_isSubtype_exc kC ?_;rw[top]) | wp_step)
 exact wpAny_raiseNew_none hh fin
end
abbrev Fd:List Value:=[.type "ValueError",.type "Exception",.type "BaseException",.type "object"]
def strKeys (es:Array DictEntry):Bool:=es.toList.all λe=>match e.key with | .str _ _=>true | _=>false
structure Av (K:bo)(N:Addr):Prop where
 ex:∃(c:Value) (dd:Option Addr) (es:Array DictEntry) (n:Nat) (sl:Array (Option Value)),K.lookup N=some ⟨c,dd,.dict es n,sl⟩/\strKeys es=true
 no:Tb K N "__init__"=some none
theorem Av.ns {K:bo}{N:Addr}(x:Av K N){h:Heap}(X:K.In h):∃mN,h.Ns N mN/\mN "__init__"=none:=by
 obtain⟨⟨c,dd,es,n,sl,l,sk⟩,no⟩:=x;have ns:h.Ns N (nsFind es):=⟨_,es,n,X _ _ l,rfl,λe he=>by
  have z:=List.all_eq_true.mp sk e (Array.mem_toList_iff.mpr he);cases hk:e.key with
  |str y t=>exact⟨y,t,rfl⟩
  |_=>rw[hk]at z;exact absurd z kj,λ_=>rfl⟩
 refine⟨_,ns,?_⟩;unfold Tb at no;rw[l]at no;dsimp only at no;unfold nsFind findBy;rw[<-Array.find?_toList];cases hf:es.toList.find? (λe=>e.key.isStr "__init__") with
 |none=>rfl
 |some e=>rw[hf]at no;cases no
inductive Aw (K:bo):List Value->Prop
 |base:Aw K Fd
 |own {D:Addr} {c0:Value} {dd:Option Addr} {cd:ClassData} {sl:Array (Option Value)} {tl:List Value}:K.lookup D=some ⟨c0,dd,.cls cd,sl⟩->Av K cd.ns->Aw K tl->Aw K (.ref D::tl)
theorem Aw.tail {K:bo}{bm:List Value}(x:Aw K bm){h:Heap}(X:K.In h):OwnTail h Fd bm:=by
 induction x with
 |base=>exact .base
 |own l n _ ih =>
  obtain⟨mA,a,b⟩:=n.ns X;exact .own (X _ _ l) a b ih
structure Ax (K:bo)(C:Addr):Prop where
 ex:∃(nm q:Str) (N:Addr) (bs bm:List Value) (hdct:Bool) (sn:List Str) (sub:List Value) (ab:Bool) (col:Option Bool) (dd:Option Addr) (k0 k1 k2 k3 k5:Option Value),
  K.lookup C=some (Td nm q C N bs bm hdct sn sub ab col dd k0 k1 k2 k3 k5 "ValueError.__new__")/\Av K N/\Aw K bm
section
variable{X:Cx}{x:Str}{C:Addr}{np dY pos:Pos}{e₀:Expr}{rest:List Expr}{ta:TA}
theorem gu (ek:Ax X.K C)(hc:X.calm=true)(hg:Gl X x)(hm:X.mg x=some (.ref C))(ha:PA X.nox (e₀::rest) ta)(hdb:(x == ("__debug__":Str))=false:=by decide)
  (he:Lk (e₀::rest) X.env=(false,eval e₀ X.env)::Lk rest X.env:=by rfl) (hpl:(backTo dY (Lk rest X.env)).any (·.1)=false:=by rfl) :
  PSX X (.Raise (some (.Call (.Name x np) (e₀::rest) [] dY)) none pos) (λ_ E σ H=>ta σ H λvs H1=>vs.length<=fe/\E σ (.ref C) none H1):=by
 intro pins s σ H D E I h;obtain⟨nm,q,N,bs,bm,hdct,sn,sub,ab,col,dd,k0,k1,k2,k3,k5,l,n,T⟩:=ek.ex;have go:wpAny (model X.prog X.w) X.A (eval (.Call (.Name x np) (e₀::rest) [] dY) X.env) (λv s₁=>∃(e:Addr) (xd:Option Addr) (a0:Value) (sl:Array (Option Value)),v=.ref e/\s₁.heap.get? C=some (Td nm q C N bs bm hdct sn sub ab col dd k0 k1 k2 k3 k5 "ValueError.__new__") /\
   s₁.heap.get? e=some ⟨.ref C,xd,.fields #[a0,.none,.none,.none,.bool false,.none],sl⟩/\XPS X pins E (.ref e) s₁) (XPS X pins E) s:=by
  refine wpAny_Call_Name_kw (fG I hg hm ?_ hdb);unfold callWith;rw[he];refine cb (wpAny_holding (Calls.evalArgs_plain ?_));have ha':=ha dY pins s σ H _ (I.j4 _) h;rw[show X.nox.env=X.env from rfl,he]at ha'
  refine om ha' (λus s₁ ⟨vs,H1,I1,r,hz,q1⟩=>cb (SD ?_)) λ_ _ z=>Sb z
  have I1':=I1.cO;have kC:=I1'.kIn _ _ l;obtain⟨mN,kN,kI⟩:=n.ns I1'.kIn;have T1:=T.tail I1'.kIn;have pl:(backTo dY ((false,eval e₀ X.env)::Lk rest X.env)).any (·.1)=false:=by
   show (false || (backTo dY (Lk rest X.env)).any (·.1))=false
   rw[hpl];rfl
  obtain⟨hp,g',d',tk,os'⟩:=s₁;simp only[pl];refine cb (wpAny_keeperOf_exc kC ?_);refine cb (Ge (F:=PySem.F.excBase_ValueError) T1 kC kN kI (by rw[List.nil_append,<-r.length];exact hz) λh' k ⟨tp,ke⟩=>cb (wpAny_holding (wpAny_point (me ?_))))
  have I2:Inv X pins σ H1 ⟨h',g',d',tk,os'⟩:=I1'.kept (t':=tk) k;refine⟨_,none,_,#[],rfl,k _ _ kC,ke,σ,_,_,none,none,H1,rfl,I2,⟨I1'.sI (SG _) (I1'.hok.fresh (SG _)),_,_,ke,⟨by show 1 < 6;decide,λ_=>rfl⟩,rfl⟩,.inl rfl,q1⟩
 rw[arm_exec_Raise];have hb:bm.contains (.type "BaseException")=true:=(T.tail I.kIn).hasType (b:=true) (by trivial)
 first
  |exact cb (SD (oY (C:=C) (nm:=nm) (q:=q) (N:=N) (bs:=bs) (bm:=bm) (hdct:=hdct) (sn:=sn) (sub:=sub) (ab:=ab) (col:=col) (dd:=dd) (k0:=k0) (k1:=k1) (k2:=k2) (k3:=k3) (k5:=k5) hb (I.ok.hd hc) (cb (om go (λv s₃ h₃=>cb (SD (me h₃))) λ_ _ z=>z))))
  | (simp only[evalOpt,Option.map];exact cb (SD (oY (C:=C) (nm:=nm) (q:=q) (N:=N) (bs:=bs) (bm:=bm) (hdct:=hdct) (sn:=sn) (sub:=sub) (ab:=ab) (col:=col) (dd:=dd) (k0:=k0) (k1:=k1) (k2:=k2) (k3:=k3) (k5:=k5) hb (I.ok.hd hc) (cb (om go (λv s₃ h₃=>cb (SD (me h₃))) λ_ _ z=>z)))))
end
theorem y7 {α β:Type}(f:α->β):∀(xs:List α) (n:Nat),(xs.eraseIdx n).map f=(xs.map f).eraseIdx n
 |[],_=>rfl
 |_::_,0=>rfl
 |x::xs,n+1=>by
  show f x::(xs.eraseIdx n).map f=f x::(xs.map f).eraseIdx n;rw[y7 f xs n]
section
variable{X:Cx}{pos:Pos}
theorem Vals.insert {xs:List V}{us:List Value}(r:Vals xs us){y:V}{u:Value}(ry:RelV y u)(k:Nat):Vals (xs.take k++y::xs.drop k) (us.take k++u::us.drop k):=(r.take k).append (.cons ry (r.drop k))
def Ky:V->List V->Hp->VK->Prop:=λx vs H Q=>∃(l:Addr) (xs:List V) (i:Int) (k:Nat) (y:V),x=.ref l/\vs=[.int i,y]/\i=(k:Int)/\H l=some (.lst xs)/\k<=xs.length/\xs.length < fe/\Q .non (upd H l (.lst (xs.take k++y::xs.drop k)))
theorem Gf:MtM X "list.insert" Ky:=by
 intro pins s σ H x vs v us Q I rx rv h;obtain⟨l,xs,i,k,y,rfl,rfl,hi,hH,hk,hz,q⟩:=h;cases rx;obtain⟨u1,u2,rfl,r1,r2⟩:=rv.two;obtain⟨t,rfl⟩:=r1;obtain⟨z,its,n,r,hl,e⟩:=I.Am hH;have lim:fe=16777216:=by decide
 have a2:its.toArray.size<=fe:=by rw[kf];omega
 have b:Builtin.List.listFitsIndex i=true:=fitsIndex_both (by omega) (by omega)
 have nb:¬(!Builtin.List.listFitsIndex i)=true:=by rw[b];decide
 refine call_meets F.slot_list_insert ⟨_,e,rfl⟩ F.entry_list_insert (F.args_list_insert_3 _ _ _) (AutoSeq1.list_insert_list_int_val_1 l its.toArray n i t u2 nb a2) ⟨e,?_⟩;refine⟨.non,_,I.Ga (its':=its.take k++u2::its.drop k) hH e ?_ (r.insert r2 k) ?_,rfl,q⟩
 ·show (its.toArray.extract 0 (if i < 0 then (i+(its.toArray.size:Int)).toNat else min i.toNat its.toArray.size)).push u2++its.toArray.extract (if i < 0 then (i+(its.toArray.size:Int)).toNat else min i.toNat its.toArray.size)=_
  have e1:(if i < 0 then (i+(its.toArray.size:Int)).toNat else min i.toNat its.toArray.size)=k:=by
   rw[kf,if_neg (by omega)]
   omega
  rw[e1];apply Array.toList_inj.mp;simp;exact List.take_of_length_le (by rw[To];omega)
 ·rw[ka,rf,Sj,To];omega
end
section
variable{X:Cx}{e:Expr}{te:TE}{y:Str}{j:Nat}{p1 p2 pos:Pos}
def tFR (K:bo)(te:TE)(y:Str):TE:=λσ H Q=>te σ H λx H1=>∃(a:Addr) (d:PyData),x=.ref a/\DV K H1 d x/\d.showable=true/\d.hasDict=false/\d.depth<=60/\d.shown.length+y.length<=fe/\∀z:Str,Q (.str z) H1
theorem len_app (a b:Str):(a++b).length=a.length+b.length:=by
 show (a.cps++b.cps).size=_;simp[Str.length]
theorem O0 (hg:X.A.guards=some [])(hu:X.A.units+64 < cLine)(he:PE X e te):PE X (.JoinedStr [.FormattedValue e 114 none p1,.Constant (.str y) j p2] pos) (tFR X.K te y):=by
 intro pins s σ H Q I h;refine wpAny_JoinedStr ?_;show Joins _ _ _ [eval (.FormattedValue e 114 none p1) X.env,eval (.Constant (.str y) j p2) X.env] _ _ _;refine wpAny_FormattedValue_repr (thn (he pins s σ H _ I h) λv s1 ⟨x,H1,I1,r1,a,d,e1,hd,sh,nd,dp,sz,q⟩=>?_)
 subst e1;obtain rfl:v=RZ a:=r1;obtain⟨as,rd⟩:=DV.reads I1 d hd rfl;refine pyReprObj_of_reads (h₀:=s1.heap) rd sh (λz=>absurd z (by rw[nd];decide)) hg (by omega) (λ_ _ z=>z) (λh' u tk hk=>?_) (by omega)
 have I2:Inv X pins σ H1 { s1 with heap:=h',toks:=tk }:=I1.kept hk
 have emp:(SI++d.shown:Str)=d.shown:=by
  apply Aq;rw[dB];rfl
 have go:∀(t:Tok) (s2:Shared),Inv X pins σ H1 s2->∃z t',Value.str d.shown t=.str z t'/\(SI++z).length<=fe/\Joins (model X.prog X.w) X.A X.xe [eval (.Constant (.str y) j p2) X.env] (SI++z) (λout s₁=>out.length<=fe/\EP X pins σ Q (.str out s₁.toks) { s₁ with toks:=s₁.toks+1 }) s2:=λt s2 I3=>by
  refine⟨_,_,rfl,by rw[emp];omega,Calls.Constant_str ⟨y,_,rfl,?_,?_⟩⟩
  ·rw[emp,len_app];omega
  ·refine⟨by rw[emp,len_app];omega,.str _,H1,(I3.tok _).tok _,⟨_,rfl⟩,q _⟩
 exact wpAny_formatField_str (go _ _ I2) (go _ _ (I2.tok _)) (by omega)
end
theorem BP {K:bo}{a D:Addr}{xs:List V}{te:TE}{Q:VK}{σ:St}{H1:Hp}(Pv:Nat->List V->Hp->Prop)(h0:Pv 0 [] (upd H1 D (.lst [])))(hz:xs.length<=fe)
  (hl:∀i ys H2,i<=xs.length->Pv i ys H2->SqT K H2 a xs/\H2 D=some (.lst ys)/\ys.length=i)
  (hs:∀i x ys H2,xs[i]?=some x->Pv i ys H2->te (some x::σ) H2 (bS D xs.length Pv i ys)) (hd:∀ys H2,Pv xs.length ys H2->Q (.ref D) H2) :
  rm (Itt K a) te σ D H1 Q:=by
 refine⟨λi m ys H=>m=xs.length - i/\i<=xs.length/\Pv i ys H,⟨xs.length,by simp,Sl _,h0⟩,?_⟩
 rintro i m ys H2 ⟨rfl,hi,p⟩;obtain⟨q,q2,q3⟩:=hl i ys H2 hi p;refine⟨q2,?_⟩
 by_cases hlt:i < xs.length
 ·refine .inr ⟨⟨xs,xs[i],q,by simp[hlt]⟩,by omega,λx H3 y=>?_⟩
  obtain⟨e,y⟩:=y;subst e;exact hs i x ys _ (y xs q) p
 ·have e:i=xs.length:=by omega
  subst e;exact .inl ⟨⟨xs,q,gn _⟩,hd ys H2 p⟩
theorem bj {K:bo}{H H':Hp}{t:Addr}{xs:List V}(s:bc H H')(h:SqT K H t xs):SqT K H' t xs:=by
 rcases h with (h | ⟨o,h⟩) | h
 ·exact .inl (.inl (s _ _ h))
 ·exact .inl (.inr ⟨o,s _ _ h⟩)
 ·exact .inr h
end L2
namespace L2
open PySem PySem.Spec PySem.Calls PyProof.Rows
def M0 (n:Nat)(Cf:Nat->Addr)(m:Str)(spf:Nat->Sp)(E:XK)(ta:TE):TE:=λσ H Q=>ta σ H λx H1=>∃k,k < n/\∃a dx fs,x=.ref a/\H1 a=some (.ins (Cf k) dx fs)/\fs.lookup m=none/\spf k [x] H1 Q E
section
variable{X:Cx}{o:Expr}{ta:TE}{m:Str}{apos pos:Pos}{n:Nat}{Cf ff:Nat->Addr}{fdf:Nat->fi}{spf:Nat->Sp}{kk:Nat}{ps:List Str}{CX:CXT}{E:XK}
theorem iU {pl:Sem Bool}(he:PE X o ta)(c:∀k,k < n->Cls X.K (Cf k))(hm:∀k,k < n->Meth X.K (Cf k) m (ff k))(F:∀k,k < n->aX X.prog X.w X.K X.mg X.base CX kk (ff k) (fdf k) ps (spf k))(hr:Room kk X.A)(hb:∀k,k < n->Binds X.K (fdf k) ps [])
  (hx:Passes CX X E)
  (ht:eval (.Call (.Attribute o m apos) [] [] pos) X.env=(do
   let ov <-eval o X.env
   standAt apos.atName
   let (f,first) <-holding [ov] (getMethod ov m pl)
   callWith pos f first (backTo pos (Lk [] X.env)) (backToKw pos (keywordEach [] X.env))):=by rfl) :
  PE X (.Call (.Attribute o m apos) [] [] pos) (M0 n Cf m spf E ta):=by
 intro pins s σ H Q I h;refine SJ (pl:=pl) (thn (he pins s σ H _ I h) λu s1 ⟨x,H1,I1,rx,k,hk,a,dx,fs,ex,ea,l,q⟩=>?_) ht
 subst ex;obtain rfl:u=RZ a:=rx;refine gj I1 ea (c k hk) (hm k hk) l ?_;exact TM (first:=[.ref a]) I1.kIn (hm k hk).kp (vI (us:=[.ref a]) (vs:=[.ref a]) (dvs:=[]) (F k hk) hr (hb k hk) .nil hx I1 (.cons rfl .nil) q)
theorem O1 {P:kr}{w:World}{K:bo}{mg:Str->Option Value}{base:Heap}{CX:CXT}{k:Nat}{f:Addr}{fd:fi}{ps:List Str}{sp sp':Sp}(F:aX P w K mg base CX k f fd ps sp)(G:aX P w K mg base CX k f fd ps sp') :
  aX P w K mg base CX k f fd ps (λvs H Q E=>sp vs H Q E\/sp' vs H Q E) :=
 ⟨λvs H Q E z=>z.elim (F.len vs H Q E) (G.len vs H Q E),λa b c H d e vs Q E p q r s z=>z.elim (F.run a b c H d e vs Q E p q r s) (G.run a b c H d e vs Q E p q r s)⟩
end
section
variable{X:Cx}
def M3 (K:bo):V->List V->Hp->VK->Prop:=λx vs H Q=>∃(l:Addr) (ws:List Str) (z:Str) (j:Nat),x=.ref l/\vs=[.str z]/\SqL K H l (ws.map V.str)/\ws[j]?=some z/\(∀m,m < j->ws[m]?≠some z)/\Q (.int j) H
theorem HP:MtR X "list.index" (M3 X.K):=by
 intro pins s σ H x vs v us Q I rx rv h;obtain⟨l,ws,z,j,rfl,rfl,hq,hj,hno,q⟩:=h;cases rx;obtain⟨u,rfl,t,rfl⟩:=vals1 rv;obtain⟨its,r,pl,hz⟩:=I.list hq;have hlen:=r.length;rw[ba]at hlen;obtain⟨⟨cls,dd,data,sl⟩,ho,hc,n,hd⟩:=pl.isList;simp only at hc hd;subst hc hd;have flat:(ws.map V.str).all rg=true:=by
  rw[List.all_eq_true];intro y hy;obtain⟨w,_,rfl⟩:=List.mem_map.mp hy;rfl
 have at_:∀(i:Nat) (h:i < its.toArray.size),∃w,ws[i]?=some w/\eqU (.str z) its.toArray[i]=(w == z):=λi h=>by
  have h':i < ws.length:=by rw[kf]at h;omega
  refine⟨ws[i],tu h',?_⟩;obtain⟨u,hu,ru⟩:=Vals.get r (show (ws.map V.str)[i]?=some (V.str ws[i]) by rw[R0,tu h'];rfl)
  have e:its.toArray[i]=u:=by
   rw[tu (by rw[kf]at h;exact h)]at hu
   simpa using si hu
  rw[e,DG ru rfl];rfl
 have jl:j < ws.length:=(List.getElem?_eq_some_iff.mp hj).1;have hn:=qi;have hsz:ws.length<=fe:=by rw[ba]at hz;exact hz
 refine call_meets PySem.F.slot_list_index ⟨_,ho,rfl⟩ PySem.F.entry_list_index (PySem.F.args_list_index_2 _ _) (SeqAt.list_indexAt l its.toArray n dd sl (.str z t) (eqU (.str z)) j (by rw[kf];omega) (by rw[sizeLine_eq]at hsz;omega) ?_ ?_) ⟨ho,λy hy=>rh (x:=.str z) (v:=.str z t) ⟨t,rfl⟩ rfl r flat y (by simpa using hy),?_⟩
 ·obtain⟨w,h1,h2⟩:=at_ j (by rw[kf];omega)
  rw[h2];obtain rfl:=si (h1.symm.trans hj);exact beq_self_eq_true _
 ·intro m hm hmj;obtain⟨w,h1,h2⟩:=at_ m hm;rw[h2];exact beq_eq_false_iff_ne.mpr λe=>hno m hmj (by rw[h1,e])
 ·exact⟨.int j,H,I.tok _,⟨_,rfl⟩,q⟩
end
end L2
namespace L2
open PySem PySem.Spec PyProof.Rows
def y9 (J:It)(tc:TT)(te:TE)(σ:St)(D:Addr)(H1:Hp)(Q:VK):Prop:=∃W:Nat->Nat->List V->Hp->Prop,(∃m,W 0 m [] (upd H1 D (.lst [])))/\∀i m ys H2,W i m ys H2 ->
 H2 D=some (.lst ys)/\((J.stop i H2/\Q (.ref D) H2)\/(J.go i H2/\ys.length < fe/\∀x H3,J.yld i H2 x H3->tc (some x::σ) H3 λb H4=>if b=true then te (some x::σ) H4 λy H5=>H5 D=some (.lst ys)/\∃m',m' < m/\W (i+1) m' (ys++[y]) (upd H5 D (.lst (ys++[y]))) else ∃m',m' < m/\W (i+1) m' ys H4))
def HQ (wi:TI)(tc:TT)(te:TE):TE:=λσ H Q=>wi σ H λJ H1=>∀D,H1 D=none->y9 J tc te σ D H1 Q
section
variable{X:Cx}{pins:List (Addr×Obj)}{σ:St}{H:Hp}{s:Shared}{elt iter cnd:Expr}{x:Str}{px pos:Pos}{scope:Scope}{wi:TI}{tc:TT}{te:TE}{Q:VK}{M:List Str}
theorem DQ {cl:List (Str×Addr)}{RR:Value->Addr->Result->Shared->Prop}(S:bP scope X.env.scope x X.N M)(hc:X.calm=true)(hi:PI X (.Name x px) iter wi)
  (ht:∀cl C s H fp,PT (cg X x M scope cl C s H fp) cnd tc) (he:∀cl C s H fp,PE (cg X x M scope cl C s H fp) elt te) (I:Inv X pins σ H s) (h:HQ wi tc te σ H Q)
  (p1:∀n c,cl.lookup n=some c->X.env.cells.lookup n=some c) (p3:∀y∈scope.names,y.2=.free->(cl.lookup y.1).isSome=true)
  (hRR:∀D C H' s' o m,Inv X (pins++[(C,o)]) σ H' s'->s'.heap.get? C=some o->s'.heap.Ns C m->X.s₀.heap.objs.size<=C->(∀y c,X.env.cells.lookup y=some c->c≠C)->(∀p∈X.pn++pins,p.1≠C)->Q (.ref D) H'->RR (.ref D) C (.ok .next) s') :
  wpAny (model X.prog X.w) X.A (eval iter X.env) (λxv s₁=>wpAny (model X.prog X.w) X.A (pyIter xv) (λit s₂=>wpAny (model X.prog X.w) X.A (newList []) (λacc s₃ =>
   wpAny (model X.prog X.w) X.A (newFunctionEnv scope X.env.globals cl [] X.env.qual none .none (some X.env)) (λsQ s₄ =>
    codeAny (model X.prog X.w) X.A (.compStart (.ListComp elt [⟨.Name x px,iter,[cnd],0⟩] scope pos) 0 it acc { sQ with scope:=relabel scope X.env }) (RR acc sQ.locals) s₄) X.xe s₃) X.xe s₂) X.xe s₁) X.xe s:=by
 refine thn (hi pins s σ H _ I h) λv s1 h1=>thn h1 λitv s2 h2=>?_
 obtain⟨it,fp,tn,J,H2,rfl,I2,T,st2,f2,q⟩:=h2;refine wpAny_newObj_type (wpAny_newFunctionEnv S.sP (by intro y hy;simp at hy) (λh₁ hns₁ hsb₁=>?_) S.kind)
 dsimp only at hns₁ hsb₁ ⊢;generalize hHH:s2.heap.push { cls:=.type "list",dict:=none,data:=.seq ([]:List Value).toArray }=HH at hns₁ hsb₁ ⊢;have hCs:HH.objs.size=s2.heap.objs.size+1:=by rw[<-hHH,Tt]
 have hDC:s2.heap.objs.size≠HH.objs.size:=by rw[hCs];exact wa (TN _)
 have BM:s2.heap.objs.size<=HH.objs.size:=by rw[hCs];exact SG _
 have below:∀b,b < s2.heap.objs.size->b≠HH.objs.size:=λb hb=>by rw[hCs];exact wa (TB hb)
 have old:∀b o,s2.heap.get? b=some o->h₁.get? b=some o:=λb o e=>hsb₁.extBut b o (below b (kx e)) (da _ (hHH▸da _ e))
 have BN:h₁.get? s2.heap.objs.size=some { cls:=.type "list",data:=.seq ([]:List Value).toArray }:=hsb₁.extBut _ _ hDC (da _ (hHH▸wt _ rfl));have fo:∀b∈fp,b < s2.heap.objs.size:=λb hb=>by
  obtain⟨o,e,_⟩:=T.obj _ _ st2 b hb;exact kx e
 have IY:=BL (tk:=s2.toks+([]:List (Str×Value)).length) S I2 BM (gn _) hDC p1 p3 f2 fo old hns₁ BN;have st1:tn 0 h₁:=T.keep _ _ _ st2 λb _ o e=>old b o e
 obtain⟨W,⟨m0,w0⟩,turn⟩:=q _ (I2.hok.fresh (gn _));generalize hC:HH.objs.size=C at *;generalize hDD:s2.heap.objs.size=D at *;have ndY:(cg X x M scope cl C s2 H2 fp).N.Nodup:=by
  refine List.nodup_cons.mpr ⟨λhm=>S.nl x hm (lookup_relabel_local S.hx),S.ndM⟩
 have stat:∀ {H':Hp},(∀b∈fp,H' b=none)->∀b∈fp,dU (cg X x M scope cl C s2 H2 fp) [] H' b:=λhn b hb =>
  ⟨hn b hb,below b (fo b hb),IY.ok.yu b hb,.inl hb,λy c e=>(f2 b hb).2.2.2.2.1 y c (p1 y c e),λp hp=>absurd (show p∈([]:List (Addr×Obj)) from hp) (by simp)⟩
 have loop:codeAny (model X.prog X.w) X.A (.compLoop (.ListComp elt [⟨.Name x px,iter,[cnd],0⟩] scope pos) 0 (.ref it) (.ref D) (compEnvC scope cl C X.env)) (RR (.ref D) C) { s2 with heap:=h₁,toks:=s2.toks+([]:List (Str×Value)).length }:=by
  refine codeAny_compLoop_tests (λn s'=>∃i v0 ys H',Inv (cg X x M scope cl C s2 H2 fp) [] (v0::σ) H' s'/\tn i s'.heap/\(∀b∈fp,H' b=none)/\W i n ys H') ?_ m0 ⟨0,none,[],_,IY,st1,λb hb=>?_,w0⟩
  ·rintro n s3 ⟨i,v0,ys,H3,I3,st3,fr3,w3⟩;obtain⟨hDl,hw⟩:=turn i n ys H3 w3;rcases hw with ⟨stop,qn⟩ | ⟨go,hsz,step⟩
   ·refine thn (T.done (cg X x M scope cl C s2 H2 fp) rfl rfl rfl hc i [] s3 _ H3 _ I3 (stat fr3) st3 stop) λr s4 ⟨hr,I4⟩=>?_
    subst hr;obtain⟨m4,hn4,_⟩:=I4.loc;obtain⟨oC,es4,ep4,e4,r4⟩:=id hn4;have As:s2.heap.objs.size<=C:=by rw[hDD];exact BM
    have IX:Inv X pins σ H3 s4:=I2.Bx (ch:=fp) I4.os I4.base I4.hok I4.bare λb hb=>⟨(f2 b hb).2.2.2.1,(f2 b hb).2.1,(f2 b hb).2.2.2.2.1,(f2 b hb).2.2.2.2.2⟩
    have fC:=I2.sI (H':=H3) As I4.free;have IX2:Inv X (pins++[(C,oC)]) σ H3 s4:=IX.qZ λp hp=>(List.mem_append.mp hp).elim (λz=>IX.pin p (de _ z)) λz=>by
     have e:p=(C,oC):=by simpa using z
     subst e;exact⟨e4,fC.1,fC.2.1,fC.2.2.1,λv z=>by rw[r4.1]at z;cases z⟩
    exact hRR D C H3 s4 oC m4 IX2 e4 hn4 (ku I2.sz As) fC.2.2.2.2.1 fC.2.2.2.2.2 qn
   ·refine thn (T.item (cg X x M scope cl C s2 H2 fp) rfl rfl rfl hc i [] s3 _ H3 _ I3 (stat fr3) st3 go) λr s4 ⟨u,hr,h4⟩=>?_
    subst hr;have e0:∀k:Sem Unit,(letOwnedTupleGo (.Name x px) (.ref it) u >>= λ_=>k)=k:=λk=>by
     rw[show letOwnedTupleGo (.Name x px) (.ref it) u=pure () from rfl,pure_bind]
    show wpAny _ _ (assign (.Name x px) (compEnvC scope cl C X.env) u) _ _ s4;rw[<-e0 (assign (.Name x px) (compEnvC scope cl C X.env) u)];refine cb (thn h4 λ_ s5 ⟨xv,H5,I5,r5,y5,st5,fr5⟩=>?_)
    have I5':=I5.pinned (stat fr5) (T.obj _ _ st5);have hxl:(cg X x M scope cl C s2 H2 fp).env.scope.names.lookup x=some .local:=lookup_relabel_local S.hx;refine wpAny_assign_Name (kK (X:=cg X x M scope cl C s2 H2 fp) (i:=0) I5' ndY rfl (ma hxl) r5 (λs6 I6=>?_) (.inr hxl))
    refine wpAny_tests_one (om (ht cl C s2 H2 fp _ s6 _ H5 _ I6 (step xv H5 y5)) (λb s6' ⟨H6,I6',hb⟩=>?_) (λ_ _ f=>f.elim))
    cases b with
    |true =>
     rw[if_pos rfl];have hb':=(if_pos rfl).mp hb;refine om (he cl C s2 H2 fp _ s6' _ H6 _ I6' hb') (λy s7 ⟨yv,H7,I7,r7,hD7,m',hm',w7⟩=>?_) (λ_ _ f=>f.elim)
     refine om (bu (X:=cg X x M scope cl C s2 H2 fp) _ s7 _ H7 (.ref D) [yv] (.ref D) [y] (λ_ H8=>H8=upd H7 D (.lst (ys++[yv]))) I7 rfl (.cons r7 .nil) ⟨D,ys,yv,rfl,rfl,hD7,hsz,rfl⟩)
      (λ_ s8 ⟨_,H8,I8,_,e8⟩=>?_) (λ_ _ f=>f.elim)
     subst e8;refine⟨m',hm',i+1,some xv,ys++[yv],_,I8.cI,T.keep _ _ _ st5 λb hb o e=>(I8.pin (b,o) (de _ (de _ (cP hb e)))).1,λb hb=>?_,w7⟩
     obtain⟨o,e,d⟩:=T.obj _ _ st5 b hb;exact(I8.pin (b,o) (de _ (de _ (cP hb e)))).2.1
    |false =>
     rw[if_neg kj];rw[if_neg kj]at hb;obtain⟨m',hm',w7⟩:=hb;refine⟨m',hm',i+1,some xv,ys,_,I6'.cI,T.keep _ _ _ st5 λb hb o e=>(I6'.pin (b,o) (de _ (de _ (cP hb e)))).1,λb hb=>?_,w7⟩
     obtain⟨o,e,d⟩:=T.obj _ _ st5 b hb;exact(I6'.pin (b,o) (de _ (de _ (cP hb e)))).2.1
  ·show (upd H2 D (.lst [])) b=none;rw[ao (wa (fo b hb))];exact(f2 b hb).1
 exact codeAny_compStart_list loop (T.self _ 0 _ _ _ st1 loop)
theorem HR (S:bP scope X.env.scope x X.N M)(hc:X.calm=true)(hi:PI X (.Name x px) iter wi)(ht:∀cl C s H fp,PT (cg X x M scope cl C s H fp) cnd tc)(he:∀cl C s H fp,PE (cg X x M scope cl C s H fp) elt te)
  (hs:∀x,foldedSetIterable iter X.env x=pure x:=by intro _;rfl):PE X (.ListComp elt [⟨.Name x px,iter,[cnd],0⟩] scope pos) (HQ wi tc te):=by
 intro pins s σ H Q I h;obtain⟨cl,rn,p1,p3⟩:=kO (scope:=scope) (env:=X.env) (λy hy hf=>I.ok.has y.1 (.inl (S.free y hy hf)))
 rw[eval_ListComp];refine wpAny_comprehension_free (use:=none) rfl hs rn S.kind S.names (DQ (RR:=λacc C=>compPost (model X.prog X.w) X.A X.xe none (EP X pins σ Q) acc C) S hc hi ht he I h p1 p3 ?_)
 intro D C H' s' o m I' e hn h0 h1 h2 q;refine⟨m,hn,λh' hs'=>?_⟩
 have pC:=I'.pin (C,o) (de _ (de _ (by simp)))
 have IX:Inv X pins σ H' s':=I'.cI;exact⟨.ref D,H',IX.turned (t':=s'.toks) (λb ob hb e=>(hs'.2 b hb).trans e) pC.2.1 pC.2.2.1 (.inr h0) h1 h2,rfl,q⟩
end
end L2
namespace L2
open PySem PySem.Spec PySem.Calls PyProof.Rows
def KeysAre:List DictEntry->List Str->Prop
 |[],ns=>ns=[]
 |e::r,ns=>∃x xs t,ns=x::xs/\e.key=.str x t/\KeysAre r xs
theorem vQ:∀ {es:List DictEntry} {xs:List (Str×Tok)},es.map DictEntry.key=xs.map (λp=>.str p.1 p.2)->KeysAre es (xs.map (·.1))
 |[],[],_=>rfl
 |[],_::_,h=>by simp at h
 |_::_,[],h=>by simp at h
 |e::es,(x,t)::xs,h=>by
  rw[gr,gr]at h;injection h with h1 h2
  exact⟨x,xs.map (·.1),t,rfl,h1,vQ h2⟩
structure rA (P:Params)(K:bo)(a:Addr)(ns:List Str):Prop where
 ex:∃es n,K.lookup a=some ⟨.type "dict",none,.dict es n,#[]⟩/\PySem.W.KeysLit P es.toList/\KeysAre es.toList ns
 nd:ns.Nodup
 lo:(a == Ti)=false
def Itk (ns:List Str):It:=⟨λi _=>i < ns.length,λi H x H'=>H'=H/\∃z,ns[i]?=some z/\x=.str z,λi _=>ns.length<=i⟩
theorem DR {prog:kr}{w:World}:∀(es:List DictEntry) (ns:List Str),PySem.W.KeysLit w.params es->KeysAre es ns->∃kvs:List (Str×Value),Pairs (strKind prog w) es kvs/\kvs.map (·.1)=ns:=by
 intro es
 induction es with
 |nil =>
  intro ns _ h;have h':ns=[]:=h;subst h';exact⟨[],by first | exact .nil | exact trivial | exact rfl | constructor,rfl⟩
 |cons e r ih =>
  rintro ns ⟨⟨x,t,e1,e2⟩,hk⟩ ⟨y,ys,t',rfl,e3,hr⟩;obtain⟨kvs,h1,h2⟩:=ih ys hk hr;rw[e1]at e3;injection e3 with e4 _
  subst e4;exact⟨(x,e.val)::kvs,.cons (by rw[e1];exact strKind_is prog w x t) rfl h1,by rw[gr,h2]⟩
theorem rA.at {prog:kr}{w:World}{K:bo}{a:Addr}{ns:List Str}(T:rA w.params K a ns):∃(kvs:List (Str×Value)) (n:Nat),kvs.map (·.1)=ns/\∀h:Heap,K.In h->h.DictAt (strKind prog w) a kvs n:=by
 obtain⟨es,n,hl,hk,ha⟩:=T.ex;obtain⟨kvs,h1,h2⟩:=DR (prog:=prog) es.toList ns hk ha;refine⟨kvs,n,h2,λh X=>⟨_,es,X _ _ hl,⟨rfl,rfl,rfl⟩,rfl,λe he=>?_,h1,by rw[h2];exact T.nd⟩⟩
 obtain⟨x,t,e1,e2⟩:=hk.all e (Array.mem_toList_iff.mpr he);exact⟨x,by rw[e1];exact strKind_is prog w x t,e2⟩
theorem BQ {prog:kr}{w:World}{k:Str}{v:Value}(h:(strKind prog w).is k v=true):∃t,v=.str k t:=by
 have h':Value.isStrOf k v=true:=h;cases v with
 |str x t =>
  have:k=x\/x=k:=by first | exact .inl (by simpa [Value.isStrOf] using h') | exact .inr (by simpa [Value.isStrOf] using h')
  rcases this with rfl | rfl <;> exact⟨t,rfl⟩
 |_=>exact absurd h' (by simp[Value.isStrOf])
theorem Gg {P:kr}{w:World}{K:bo}{tg:Expr}(it d:Addr)(ns:List Str)(kvs:List (Str×Value))(n:Nat)(hn:kvs.map (·.1)=ns)(hd:∀h:Heap,K.In h->h.DictAt (strKind P w) d kvs n)(hne:d≠it) :
  Turn P w K tg (Itk ns) [it] it (λi h=>h.IsKeyIter it d i kvs.length n) where
 mem:=by simp
 obj:=λi h st b hb=>by
  have e:b=it:=by simpa using hb
  subst e;obtain⟨o,e,c,dd⟩:=st;exact⟨o,e,λv z=>by rw[dd]at z;cases z⟩
 keep:=λi h h' st k=>st.at λo e=>k it (by simp) o e
 item:=by
  intro X hP hw hK hc i pins s σ H E I hf st hg;subst hP hw hK;obtain⟨f0,f1,f2,f3,f4,f5⟩:=hf it (by simp)
  have W:=Walks.dictKeys (knd:=strKind X.prog X.w) (A:=X.A) (I.ok.hd hc) it d hne kvs n;have hlen:kvs.length=ns.length:=by rw[<-hn,ba]
  refine W.item i s _ _ (by rw[hlen];exact hg) ⟨st,hd _ I.kIn⟩ λv h' tk hv st' kk=>?_
  obtain⟨k,x,hx,hk⟩:=hv;obtain⟨t,rfl⟩:=BQ hk;have I1:Inv X pins σ H { s with heap:=h',toks:=tk }:=I.turned (λb o hb e=>kk b o (by simpa using hb) e) f0 f1 f3 f4 f5
  obtain⟨oi,ei,ci,di⟩:=id st'.1;exact⟨_,rfl,E3 (s:={ s with heap:=h',toks:=tk }) (n:="dict_keyiterator") ei ci di (by decide) ⟨.str k,H,I1,⟨t,rfl⟩,⟨rfl,k,by rw[<-hn,R0,hx];rfl,rfl⟩,st'.1,λb hb=>(hf b hb).1⟩⟩
 done:=by
  intro X hP hw hK hc i pins s σ H E I hf st hg;subst hP hw hK;obtain⟨f0,f1,f2,f3,f4,f5⟩:=hf it (by simp)
  have hlen:kvs.length=ns.length:=by rw[<-hn,ba]
  have hg':ns.length<=i:=hg;exact wpAny_pyNext_dict_end (I.ok.hd hc) st (hd _ I.kIn) (by first | omega | (rw[List.getElem?_eq_none_iff];omega)) λh' eb=>⟨rfl,I.turned (t':=s.toks) (λb o hb e=>eb b o hb e) f0 f1 f3 f4 f5⟩
 self:=λ_ _ _ _ _ st h=>wpAny_pyIter_keyiter st h
section
variable{X:Cx}{tg:Expr}
def Q3 (ns:List Str):TI:=λ_ H R=>R (Itk ns) H
theorem M4 {x:Str}{d:Addr}{ns:List Str}{p:Pos}(T:rA X.w.params X.K d ns)(hg:Gl X x)(hm:X.mg x=some (.ref d))(hdb:(x == ("__debug__":Str))=false:=by decide):PI X tg (.Name x p) (Q3 ns):=by
 intro pins s σ H R I h;refine fG I hg hm ?_ hdb;obtain⟨kvs,n,hn,hd⟩:=T.at (prog:=X.prog);have hda:=hd _ I.kIn;refine wpAny_pyIter_dict T.lo hda ?_;refine⟨s.heap.objs.size,[s.heap.objs.size],_,_,H,rfl,I.kept (t':=s.toks) λb o e=>da _ e,Gg _ d ns kvs n hn hd (wa hda.lt_size),⟨_,wt _ rfl,rfl,rfl⟩,λb hb=>?_,h⟩
 have e:b=s.heap.objs.size:=by simpa using hb
 subst e;exact I.sI (gn _) (I.hok.fresh (gn _))
end
def nr (n:Nat)(Pv:Nat->List V->Hp->Prop)(i:Nat)(ys:List V)(H4:Hp):Prop:=∃m',m' < n - i/\m'=n - (i+1)/\i+1<=n/\Pv (i+1) ys H4
theorem nr.mk {n:Nat}{Pv:Nat->List V->Hp->Prop}{i:Nat}{ys:List V}{H4:Hp}(hi:i < n)(h:Pv (i+1) ys H4):nr n Pv i ys H4:=⟨n - (i+1),by omega,rfl,hi,h⟩
theorem Gh {ns:List Str}{D:Addr}{tc:TT}{te:TE}{Q:VK}{σ:St}{H1:Hp}(Pv:Nat->List V->Hp->Prop)(h0:Pv 0 [] (upd H1 D (.lst [])))(hz:ns.length<=fe)
  (hl:∀i ys H2,i<=ns.length->Pv i ys H2->H2 D=some (.lst ys)/\ys.length<=i)
  (hs:∀i z ys H2,ns[i]?=some z->Pv i ys H2->tc (some (.str z)::σ) H2 λb H4=>if b=true then te (some (.str z)::σ) H4 (bS D ns.length Pv i ys) else nr ns.length Pv i ys H4) (hd:∀ys H2,Pv ns.length ys H2->Q (.ref D) H2) :
  y9 (Itk ns) tc te σ D H1 Q:=by
 refine⟨λi m ys H=>m=ns.length - i/\i<=ns.length/\Pv i ys H,⟨ns.length,by simp,Sl _,h0⟩,?_⟩
 rintro i m ys H2 ⟨rfl,hi,p⟩;obtain⟨q2,q3⟩:=hl i ys H2 hi p;refine⟨q2,?_⟩
 by_cases hlt:i < ns.length
 ·refine .inr ⟨hlt,by omega,λx H3 y=>?_⟩
  obtain⟨e,z,hz',ex⟩:=y;subst e ex;exact hs i z ys _ hz' p
 ·have e:i=ns.length:=by omega
  subst e;exact .inl ⟨gn _,hd ys H2 p⟩
section
variable{X:Cx}
theorem Kz {K:bo}{pr:Params}(ek:X.K=K)(ep:X.w.params=pr):IxR X (λx y H Q=>∃a z v u,x=.ref a/\y=.str z/\Kq pr K a/\Tb K a z=some (some u)/\RelV v u/\Q v H):=by
 subst ek ep;exact DL
end
end L2
namespace L2
open PySem PySem.Spec PyProof.Rows
inductive M5:List Expr->List Str->Prop
 |nil:M5 [] []
 |cons {x:Str} {j:_} {p:Pos} {es:List Expr} {ss:List Str}:M5 es ss->M5 (.Constant (.str x) j p::es) (x::ss)
structure dC (scope outer:Scope)(xs N M:List Str):Prop where
 kind:scope.kind=.function
 Hy:outer.kind=.function
 sP:∀y∈scope.names,y.2≠.cell
 names:∀y∈scope.names,y.2=.local->scope.names.lookup y.1=some .local
 hx:∀x∈xs,scope.names.lookup x=some .local
 free:∀y∈scope.names,y.2=.free->outer.names.lookup y.1=some .cell
 nl:∀n∈M,(bX scope outer).names.lookup n≠some .local
 nd2:(xs++M).Nodup
 nd:N.Nodup
 len:M.length=N.length
 rel:∀i:Nat,i < N.length->M[i]?=N[i]?\/M[i]?=some SI
 em:(bX scope outer).names.lookup SI=none
theorem dC.mem {scope outer:Scope}{xs:List Str}{N M:List Str}(S:dC scope outer xs N M){n:Str}{k:NameKind}(h:(bX scope outer).names.lookup n=some k)(hk:k=.cell\/k=.free) :
  k=.cell/\(n,SQ)∈scope.names/\outer.names.lookup n=some .cell:=by
 obtain⟨⟨n',k'⟩,hm,e⟩:=List.mem_map.mp (S0 h);dsimp only at e
 by_cases hc:(k' == SQ && outer.kind == .function && outer.names.lookup n' == some .cell)=true
 ·rw[if_pos hc]at e;injection e with e1 e2
  subst e1 e2;rw[SE,SE]at hc;have hk':k'=.free:=beq_iff_eq.mp hc.1.1;subst hk';exact⟨rfl,hm,beq_iff_eq.mp hc.2⟩
 ·rw[if_neg hc]at e;injection e with e1 e2
  subst e1 e2;rcases hk with z | z
  ·exact absurd z (S.sP _ hm)
  ·subst z
   exfalso
   refine hc ?_;rw[S.free _ hm rfl,S.Hy];rfl
def cX (X:Cx)(xs M:List Str)(scope:Scope)(cl:List (Str×Addr))(C:Addr)(s:Shared)(H:Hp)(fp:List Addr):Cx :=
 { X with N:=xs++M,s₀:=s,H₀:=H,env:=compEnvC scope cl C X.env,outer:=X.stack,ex:=fp,fn:=λ_=>false,pn:=[],xe:=λ_ _=>False }
def oZ (n:Nat)(J:It)(g:TG)(te:TEX)(σ:St)(D:Addr)(H1:Hp)(Q:VK)(E:XK):Prop:=∃W:Nat->Nat->List V->Hp->Prop,(∃m,W 0 m [] (upd H1 D (.lst [])))/\∀i m ys H2,W i m ys H2 ->
 H2 D=some (.lst ys)/\((J.stop i H2/\Q (.ref D) H2)\/(J.go i H2/\ys.length < fe/\∀x H3,J.yld i H2 x H3->∀vs:St,vs.length=n->g x (vs++σ) H3 λσ' H4=>∃ws:St,ws.length=n/\σ'=ws++σ /\
  te σ' H4 (λy H5=>H5 D=some (.lst ys)/\∃m',m' < m/\W (i+1) m' (ys++[y]) (upd H5 D (.lst (ys++[y])))) E))
def DS (n:Nat)(wi:TI)(g:TG)(te:TEX):TEX:=λσ H Q E=>wi σ H λJ H1=>∀D,H1 D=none->oZ n J g te σ D H1 Q E
section
variable{prog:kr}{w:World}{A:Around}{R:Result->Shared->Prop}{s:Shared}
theorem DT {elt target iter:Expr}{scope:Scope}{pos:Pos}{it acc:Value}{env:Env}(I:Nat->Shared->Prop)
  (turn:∀n s,I n s->wpAny (model prog w) A (pyNext it) (λr s₁=>match r with
   |none=>R (.ok .next) s₁
   |some v=>wpAny (model prog w) A (letOwnedTupleGo target it v) (λ_ s₀=>wpAny (model prog w) A (assign target env v) (λ_ s₂ =>
     wpAny (model prog w) A (eval elt env) (λx s₄ =>
       wpAny (model prog w) A (call (.builtin "list.append") [acc,x]) (λ_ s₅=>∃m,m < n/\I m s₅) (notedBy (model prog w) A env λe s'=>R (.error e) s') s₄) (notedBy (model prog w) A env λe s'=>R (.error e) s') s₂)
      (notedBy (model prog w) A env λe s'=>R (.error e) s') s₀) (notedBy (model prog w) A env λe s'=>R (.error e) s') s₁) (notedBy (model prog w) A env λe s'=>R (.error e) s') s)
  (n:Nat) (h:I n s) :
  codeAny (model prog w) A (.compLoop (.ListComp elt [⟨target,iter,[],0⟩] scope pos) 0 it acc env) R s:=by
 refine codeAny_loop rfl I (λn s hI=>?_) n h
 show wpAny _ A ((compTurn (.ListComp elt [⟨target,iter,[],0⟩] scope pos) 0 it acc env).onRaise (λx=>do noteFrame x env;theTreesLotGoes x)) _ _ s
 refine wpAny_noted ?_;rw[compTurn_list];refine cb (SD (cb (om (turn n s hI) (λr s₁ h₁=>?_) λ_ _ h'=>h')))
 cases r with
 |none=>exact me h₁
 |some v =>
  refine cb (om h₁ (λ_ s₀ h₀=>?_) λ_ _ h'=>h')
  refine cb (om h₀ (λ_ s₂ h₂=>cb (wpAny_tests_nil ?_)) λ_ _ h'=>h')
  exact cb (cb (om h₂ (λx s₄ h₄=>cb (om h₄ (λ_ s₅ h₅=>me (me ⟨rfl,h₅⟩)) λ_ _ h'=>h')) λ_ _ h'=>h'))
end
section
variable{X:Cx}{pins:List (Addr×Obj)}{σ:St}{H:Hp}{s:Shared}{elt iter tg:Expr}{xs:List Str}{px pos:Pos}{scope:Scope}{wi:TI}{te:TEX}{g:TG}{Q:VK}{E:XK}{M:List Str}
theorem HS {cl:List (Str×Addr)}{C:Addr}{fp:List Addr}(S:dC scope X.env.scope xs X.N M)(I:Inv X pins σ H s)(hC:s.heap.objs.size<=C)(p1:∀n c,cl.lookup n=some c->X.env.cells.lookup n=some c)
  (p3:∀y∈scope.names,y.2=.free->(cl.lookup y.1).isSome=true) (f2:∀b∈fp,dU X pins H b) (fo:∀b∈fp,b < s.heap.objs.size):(cX X xs M scope cl C s H fp).Ok where
 mod:=I.ok.mod
 kind:=S.kind
 glob:=I.ok.glob
 blt:=I.ok.blt
 above:=hC
 inj:=λy z c h1 h2=>I.ok.inj y z c (p1 y c h1) (p1 z c h2)
 has:=λy hy=>by
  have hy':(bX scope X.env.scope).names.lookup y=some .cell\/(bX scope X.env.scope).names.lookup y=some .free:=hy;have hm:(y,SQ)∈scope.names:=by
   rcases hy' with z | z
   ·exact(S.mem z (.inl rfl)).2.1
   ·exact(S.mem z (.inr rfl)).2.1
  exact Option.isSome_iff_exists.mp (p3 _ hm rfl)
 cab:=λy c h=>absurd h kj
 hd:=I.ok.hd
 frames:=I.ok.frames
 stk:=.inl rfl
 exf:=λb hb=>⟨wa (RX (fo b hb) hC),λy c e=>(f2 b hb).2.2.2.2.1 y c (p1 y c e)⟩
 bs:=I.bs
 bsz:=ku I.ok.bsz I.sz
 Ad:=λb o e hb=>by
  rcases (f2 b hb).2.2.2.1 with z | z
  ·exact I.ok.Ad b o e z
  ·exact absurd (RX (kx (I.ok.bs b o e).1) z) (TU _)
 yu:=λb hb z=>by
  rcases List.mem_cons.mp (I.vB b z) with e | e
  ·exact(f2 b hb).2.1 e
  ·exact(f2 b hb).2.2.1 e
 pD:=I.stack
 frf:=I.vg
theorem Gi {cl:List (Str×Addr)}{C D:Addr}{fp:List Addr}{h₁:Heap}{tk:Nat}{m:Str->Option Value}(S:dC scope X.env.scope xs X.N M)(I:Inv X pins σ H s)(hC:s.heap.objs.size<=C)(hD:s.heap.objs.size<=D)(hDC:D≠C)
  (p1:∀n c,cl.lookup n=some c->X.env.cells.lookup n=some c)
  (p3:∀y∈scope.names,y.2=.free->(cl.lookup y.1).isSome=true) (f2:∀b∈fp,dU X pins H b) (fo:∀b∈fp,b < s.heap.objs.size)
  (old:∀b o,s.heap.get? b=some o->h₁.get? b=some o) (hn:h₁.Ns C m) (hl:h₁.get? D=some { cls:=.type "list",data:=.seq ([]:List Value).toArray }) :
  Inv (cX X xs M scope cl C s H fp) [] (Tc xs.length none++σ) (upd H D (.lst [])) { s with heap:=h₁,toks:=tk }:=by
 have cellK:∀c v,s.heap.IsCell c v->h₁.IsCell c v:=λc v ⟨o,e,d⟩=>⟨o,old c o e,d⟩
 refine⟨HS S I hC p1 p3 f2 fo,rfl,I.bare,Un.laid old hD (I.hok.fresh hD),⟨m,hn,λi n v h1 h2 h3=>?_⟩,λy c e=>?_,?_,λy c e=>?_,λp hp=>absurd (show p∈([]:List (Addr×Obj)) from hp) (by simp),I.hok.laid old hD ⟨Sl _,[],0,.nil,hl⟩,?_⟩
 ·have h1':(xs++M)[i]?=some n:=h1
  by_cases hi:i < xs.length
  ·rw[List.getElem?_append_left (by rw[SK];exact hi),List.getElem?_replicate,if_pos hi]at h2
   cases h2
  ·rw[Tu (by omega)]at h1'
   rw[Tu (by rw[SK];omega),SK]at h2
   generalize i - xs.length=i at h1' h2;have h3':(bX scope X.env.scope).names.lookup n=some .local\/(bX scope X.env.scope).names.lookup n=some .cell\/(bX scope X.env.scope).names.lookup n=some .free:=h3;have iA:(bX scope X.env.scope).names.lookup n=some .cell/\(n,SQ)∈scope.names/\X.env.scope.names.lookup n=some .cell:=by
    rcases h3' with z | z | z
    ·exact absurd z (S.nl n (RV h1'))
    ·exact⟨z,(S.mem z (.inl rfl)).2⟩
    ·exact absurd (S.mem z (.inr rfl)).1 (by decide)
   have Q4:X.N[i]?=some n:=by
    have hi:i < X.N.length:=by rw[<-S.len];exact(List.getElem?_eq_some_iff.mp h1').1
    rcases S.rel i hi with z | z
    ·rw[<-z];exact h1'
    ·rw[h1']at z;have e:n=SI:=si z;rw[e,S.em]at iA;cases iA.1
   obtain⟨m0,hn0,hl0⟩:=I.loc;obtain⟨u,r,l⟩:=hl0 i n v Q4 h2 (.inr (.inl iA.2.2));refine⟨u,r,.inr ⟨.inl iA.1,?_⟩⟩;obtain⟨c,hc⟩:=Option.isSome_iff_exists.mp (p3 _ iA.2.1 rfl);refine⟨c,hc,?_⟩;rcases l with ⟨k,_⟩ | ⟨_,c',hc',z⟩
   ·have k':X.env.scope.names.lookup n=some .local:=k;rw[iA.2.2]at k';cases k'
   ·rw[p1 n c hc]at hc';cases hc';exact cellK c _ z
 ·obtain⟨v,z⟩:=I.cell y c (p1 y c e);exact⟨v,cellK c v z⟩
 ·show (upd H D (.lst [])) C=none;rw[ao (R4 hDC)];exact I.hok.fresh hC
 ·obtain⟨v,z⟩:=I.cell y c (p1 y c e);rw[ao (wa (RX z.lt hD))];exact I.kJ y c (p1 y c e)
 ·show (Tc xs.length none++σ).length=(xs++M).length;rw[ka,ka,SK,I.len,S.len]
def XPC (X:Cx)(pins:List (Addr×Obj))(σ:St)(E:XK)(C:Addr)(ea:Addr)(s':Shared):Prop :=
 ∃(cls:Value) (xd:Option Addr) (m:Value) (H':Hp) (o:Obj),Inv X (pins++[(C,o)]) σ H' s'/\(∃mC,s'.heap.Ns C mC)/\X.s₀.heap.objs.size<=C/\(∀y c,X.env.cells.lookup y=some c->c≠C)/\(∀p∈X.pn++pins,p.1≠C)/\XAt X (pins++[(C,o)]) H' s'.heap ea cls xd (some m)/\E cls xd H'
theorem vR {cl:List (Str×Addr)}{RR:Value->Addr->Result->Shared->Prop}{xe:Value->Shared->Prop}(F1:Fr1 X)(S:dC scope X.env.scope xs X.N M)(hc:X.calm=true)(hi:PI X.nox tg iter wi)
  (hg:∀cl C s H fp,PG (cX X xs M scope cl C s H fp) tg g)
  (he:∀cl C s H fp,PEX (cX X xs M scope cl C s H fp) elt te) (I:Inv X pins σ H s) (h:DS xs.length wi g te σ H Q E)
  (p1:∀n c,cl.lookup n=some c->X.env.cells.lookup n=some c) (p3:∀y∈scope.names,y.2=.free->(cl.lookup y.1).isSome=true)
  (hRR:∀D C H' s' o m,Inv X (pins++[(C,o)]) σ H' s'->s'.heap.get? C=some o->s'.heap.Ns C m->X.s₀.heap.objs.size<=C->(∀y c,X.env.cells.lookup y=some c->c≠C)->(∀p∈X.pn++pins,p.1≠C)->Q (.ref D) H'->RR (.ref D) C (.ok .next) s')
  (hRX:∀D C ea s',XPC X pins σ E C ea s'->RR (.ref D) C (.error (.ref ea)) s') :
  wpAny (model X.prog X.w) X.A (eval iter X.env) (λxv s₁=>wpAny (model X.prog X.w) X.A (pyIter xv) (λit s₂=>wpAny (model X.prog X.w) X.A (newList []) (λacc s₃ =>
   wpAny (model X.prog X.w) X.A (newFunctionEnv scope X.env.globals cl [] X.env.qual none .none (some X.env)) (λsQ s₄ =>
    codeAny (model X.prog X.w) X.A (.compStart (.ListComp elt [⟨tg,iter,[],0⟩] scope pos) 0 it acc { sQ with scope:=relabel scope X.env }) (RR acc sQ.locals) s₄) xe s₃) xe s₂) xe s₁) xe s:=by
 refine om (hi pins s σ H _ (I.j4 _) h) (λv s1 h1=>om h1 (λitv s2 h2=>?_) λ_ _ z=>Sb z) λ_ _ z=>Sb z
 obtain⟨it,fp,tn,J,H2,rfl,I2',T,st2,f2',q⟩:=h2;have I2:Inv X pins σ H2 s2:=I2'.cO;have f2:∀b∈fp,dU X pins H2 b:=f2';refine wpAny_newObj_type (wpAny_newFunctionEnv S.sP (by intro y hy;simp at hy) (λh₁ hns₁ hsb₁=>?_) S.kind)
 dsimp only at hns₁ hsb₁ ⊢;generalize hHH:s2.heap.push { cls:=.type "list",dict:=none,data:=.seq ([]:List Value).toArray }=HH at hns₁ hsb₁ ⊢;have hCs:HH.objs.size=s2.heap.objs.size+1:=by rw[<-hHH,Tt]
 have hDC:s2.heap.objs.size≠HH.objs.size:=by rw[hCs];exact wa (TN _)
 have BM:s2.heap.objs.size<=HH.objs.size:=by rw[hCs];exact SG _
 have below:∀b,b < s2.heap.objs.size->b≠HH.objs.size:=λb hb=>by rw[hCs];exact wa (TB hb)
 have old:∀b o,s2.heap.get? b=some o->h₁.get? b=some o:=λb o e=>hsb₁.extBut b o (below b (kx e)) (da _ (hHH▸da _ e))
 have BN:h₁.get? s2.heap.objs.size=some { cls:=.type "list",data:=.seq ([]:List Value).toArray }:=hsb₁.extBut _ _ hDC (da _ (hHH▸wt _ rfl));have fo:∀b∈fp,b < s2.heap.objs.size:=λb hb=>by
  obtain⟨o,e,_⟩:=T.obj _ _ st2 b hb;exact kx e
 have IY:=Gi (tk:=s2.toks+([]:List (Str×Value)).length) S I2 BM (gn _) hDC p1 p3 f2 fo old hns₁ BN;have st1:tn 0 h₁:=T.keep _ _ _ st2 λb _ o e=>old b o e
 obtain⟨W,⟨m0,w0⟩,turn⟩:=q _ (I2.hok.fresh (gn _));generalize hC:HH.objs.size=C at *;generalize hDD:s2.heap.objs.size=D at *;have As:s2.heap.objs.size<=C:=by rw[hDD];exact BM
 have stat:∀ {H':Hp},(∀b∈fp,H' b=none)->∀b∈fp,dU (cX X xs M scope cl C s2 H2 fp) [] H' b:=λhn b hb =>
  ⟨hn b hb,below b (fo b hb),IY.ok.yu b hb,.inl hb,λy c e=>(f2 b hb).2.2.2.2.1 y c (p1 y c e),λp hp=>absurd (show p∈([]:List (Addr×Obj)) from hp) (by simp)⟩
 have out:∀ {H':Hp} {s':Shared} {σ':St} {pl:List (Addr×Obj)},Inv (cX X xs M scope cl C s2 H2 fp) pl σ' H' s'->∃oC mC,Inv X (pins++[(C,oC)]) σ H' s'/\s'.heap.get? C=some oC/\s'.heap.Ns C mC/\dU X pins H' C:=λ{H' s' σ' pl} I4=>by
  obtain⟨m4,hn4,_⟩:=I4.loc;obtain⟨oC,es4,ep4,e4,r4⟩:=id hn4;have IX:Inv X pins σ H' s':=I2.Bx (ch:=fp) I4.os I4.base I4.hok I4.bare λb hb=>⟨(f2 b hb).2.2.2.1,(f2 b hb).2.1,(f2 b hb).2.2.2.2.1,(f2 b hb).2.2.2.2.2⟩
  have fC:=I2.sI (H':=H') As I4.free;have IX2:Inv X (pins++[(C,oC)]) σ H' s':=IX.qZ λp hp=>(List.mem_append.mp hp).elim (λz=>IX.pin p (de _ z)) λz=>by
   have e:p=(C,oC):=by simpa using z
   subst e;exact⟨e4,fC.1,fC.2.1,fC.2.2.1,λv z=>by rw[r4.1]at z;cases z⟩
  exact⟨oC,m4,IX2,e4,hn4,fC⟩
 have exo:∀ {e:Value} {s':Shared} {σ':St} {pl:List (Addr×Obj)},XP (cX X xs M scope cl C s2 H2 fp) pl σ' E e s'->notedBy (model X.prog X.w) X.A (compEnvC scope cl C X.env) (λe s''=>RR (.ref D) C (.error e) s'') e s':=λ{e s' σ' pl} xp=>by
  obtain⟨ea,cls,xd,m,H',rfl,I4,hx,_,qe⟩:=xp;obtain⟨oC,mC,IX2,e4,hn4,fC⟩:=out I4;have fpx:∀ {b:Addr},dU (cX X xs M scope cl C s2 H2 fp) pl H' b->dU X (pins++[(C,oC)]) H' b:=λ{b} z=>by
   have base:dU X pins H' b:=by
    rcases z.2.2.2.1 with y | y
    ·exact⟨z.1,(f2 b y).2⟩
    ·exact I2.sI y z.1
   refine⟨base.1,base.2.1,base.2.2.1,base.2.2.2.1,base.2.2.2.2.1,λp hp=>?_⟩
   rcases List.mem_append.mp hp with y | y
   ·exact base.2.2.2.2.2 p (Su _ y)
   ·rcases List.mem_append.mp y with y | y
    ·exact base.2.2.2.2.2 p (de _ y)
    ·have e:p=(C,oC):=by simpa using y
     subst e;exactλe=>z.2.1 e.symm
  have hx':XAt X (pins++[(C,oC)]) H' s'.heap ea cls xd m:=by
   obtain⟨ok,sl,vs,he',hz,hm⟩:=hx;refine⟨fpx ok,sl,vs,he',⟨hz.sz,λz=>hz.cx (by first | exact z | rfl)⟩,?_⟩
   cases m with
   |none=>exact hm
   |some m=>obtain⟨T',oT,ts,a,b,c,d⟩:=hm;exact⟨T',oT,ts,a,b,fpx c,d⟩
  have hmk:MOk X m:=by cases m with | none=>exact .inl rfl | some m=>exact .inr (.inr ⟨m,rfl⟩)
  show wpAny _ _ (noteFrame (.ref ea) X.env) _ _ s';refine DM F1 IX2.ok.frames IX2 hx' hmk λs5 I5 x5=>?_
  refine hRX D C ea s5 ⟨cls,xd,_,H',oC,I5,?_,ku I2.sz As,fC.2.2.2.2.1,fC.2.2.2.2.2,x5,qe⟩;have pC:=I5.pin (C,oC) (de _ (de _ (by simp)))
  obtain⟨o',es,ep,e0,r⟩:=hn4;rw[e4]at e0;cases e0;exact⟨mC,oC,es,ep,pC.1,r⟩
 have loop:codeAny (model X.prog X.w) X.A (.compLoop (.ListComp elt [⟨tg,iter,[],0⟩] scope pos) 0 (.ref it) (.ref D) (compEnvC scope cl C X.env)) (RR (.ref D) C) { s2 with heap:=h₁,toks:=s2.toks+([]:List (Str×Value)).length }:=by
  refine DT (λn s'=>∃i vs ys H',Inv (cX X xs M scope cl C s2 H2 fp) [] (vs++σ) H' s'/\vs.length=xs.length/\tn i s'.heap/\(∀b∈fp,H' b=none)/\W i n ys H') ?_ m0 ⟨0,Tc xs.length none,[],_,IY,SK,st1,λb hb=>?_,w0⟩
  ·rintro n s3 ⟨i,vs,ys,H3,I3,hvs,st3,fr3,w3⟩;obtain⟨hDl,hw⟩:=turn i n ys H3 w3;rcases hw with ⟨stop,qn⟩ | ⟨go,hsz,step⟩
   ·refine thn (T.done (cX X xs M scope cl C s2 H2 fp) rfl rfl rfl hc i [] s3 _ H3 _ I3 (stat fr3) st3 stop) λr s4 ⟨hr,I4⟩=>?_
    subst hr;obtain⟨oC,m4,IX2,e4,hn4,fC⟩:=out I4;exact hRR D C H3 s4 oC m4 IX2 e4 hn4 (ku I2.sz As) fC.2.2.2.2.1 fC.2.2.2.2.2 qn
   ·refine thn (T.item (cX X xs M scope cl C s2 H2 fp) rfl rfl rfl hc i [] s3 _ H3 _ I3 (stat fr3) st3 go) λr s4 ⟨u,hr,h4⟩=>?_
    subst hr;refine thn h4 λ_ s5 ⟨xv,H5,I5,r5,y5,st5,fr5⟩=>?_
    have I5':=I5.pinned (stat fr5) (T.obj _ _ st5);refine om (hg cl C s2 H2 fp _ s5 _ H5 xv u _ I5' r5 (step xv H5 y5 vs hvs)) (λ_ s6 ⟨σ6,H6,I6,ws,hws,e6,q6⟩=>?_) (λ_ _ f=>f.elim)
    subst e6;refine om (he cl C s2 H2 fp _ s6 _ H6 _ E I6 q6) (λy s7 ⟨yv,H7,I7,r7,hD7,m',hm',w7⟩=>?_) (λ_ _ f=>exo f)
    refine om (bu (X:=cX X xs M scope cl C s2 H2 fp) _ s7 _ H7 (.ref D) [yv] (.ref D) [y] (λ_ H8=>H8=upd H7 D (.lst (ys++[yv]))) I7 rfl (.cons r7 .nil) ⟨D,ys,yv,rfl,rfl,hD7,hsz,rfl⟩)
     (λ_ s8 ⟨_,H8,I8,_,e8⟩=>?_) (λ_ _ f=>f.elim)
    subst e8;refine⟨m',hm',i+1,ws,ys++[yv],_,I8.cI,hws,T.keep _ _ _ st5 λb hb o e=>(I8.pin (b,o) (de _ (de _ (cP hb e)))).1,λb hb=>?_,w7⟩
    obtain⟨o,e,d⟩:=T.obj _ _ st5 b hb;exact(I8.pin (b,o) (de _ (de _ (cP hb e)))).2.1
  ·show (upd H2 D (.lst [])) b=none;rw[ao (wa (fo b hb))];exact(f2 b hb).1
 exact codeAny_compStart_list loop (T.self _ 0 _ _ _ st1 loop)
theorem Fe {C ea:Addr}{s':Shared}{h':Heap}{sQ:Env}{α:Type}{w1:String}{Q':α->Shared->Prop}(x:XPC X pins σ E C ea s')(hs':Heap.SameBut C s'.heap h') :
  wpAny (model X.prog X.w) X.A (passOn w1 (.ref ea) sQ:Sem α) Q' (XP X pins σ E) { s' with heap:=h' }:=by
 obtain⟨cls,xd,m,H',o,I5,⟨mC,hn⟩,h0,h1,h2,hx,qe⟩:=x;have pC:=I5.pin (C,o) (de _ (de _ (by simp)))
 have IX:Inv X pins σ H' s':=I5.cI;have I6:Inv X pins σ H' { s' with heap:=h' }:=IX.turned (t':=s'.toks) (λb ob hb e=>(hs'.2 b hb).trans e) pC.2.1 pC.2.2.1 (.inr h0) h1 h2
 have ne:∀ {b:Addr},dU X (pins++[(C,o)]) H' b->b≠C:=λ{b} z e=>z.2.2.2.2.2 (C,o) (de _ (de _ (by simp))) e.symm
 obtain⟨ok,sl,vs,he,hz,T,oT,ts,a1,nT,fT,hT,hd,h3⟩:=hx;have x6:XAt X pins H' h' ea cls xd (some m):=⟨ok.drop,sl,vs,(hs'.2 ea (ne ok)).trans he,hz,T,oT,ts,a1,nT,fT.drop,(hs'.2 T (ne fT)).trans hT,hd,h3⟩;unfold PySem.passOn;refine cb (wpAny_field (s:={ s' with heap:=h' }) ((hs'.2 ea (ne ok)).trans he) rfl a1 ?_)
 rw[if_neg (show ¬((RZ T == Tp)=true) by simp)]
 have step:wpAny (model X.prog X.w) X.A (do setFlight (.ref ea) sQ.frame;throw (.ref ea):Sem α) Q' (XP X pins σ E) { s' with heap:=h' } :=
  cb (nq I6 x6 λs2 I2 x2=>wpAny_throw ⟨ea,cls,xd,_,H',rfl,I2,x2,.inr (.inr ⟨_,rfl⟩),qe⟩)
 first
  |exact step
  |exact cb (me step)
theorem PEX.pe {e:Expr}{t:TEX}(h:PEX X e t):PE X e (λσ H Q=>t σ H Q E0):=λpins s σ H Q I hw =>
 om (h pins s σ H Q E0 I hw) (λ_ _ z=>z) λ_ _ ⟨_,_,_,_,_,_,_,_,_,z⟩=>z.elim
theorem HU (F1:Fr1 X)(S:dC scope X.env.scope xs X.N M)(hc:X.calm=true)(hi:PI X.nox tg iter wi)(hg:∀cl C s H fp,PG (cX X xs M scope cl C s H fp) tg g)
  (he:∀cl C s H fp,PEX (cX X xs M scope cl C s H fp) elt te)
  (hs:∀x,foldedSetIterable iter X.env x=pure x:=by intro _;rfl):PEX X (.ListComp elt [⟨tg,iter,[],0⟩] scope pos) (DS xs.length wi g te):=by
 intro pins s σ H Q E I h;obtain⟨cl,rn,p1,p3⟩:=kO (scope:=scope) (env:=X.env) (λy hy hf=>I.ok.has y.1 (.inl (S.free y hy hf)))
 rw[eval_ListComp];refine wpAny_comprehension_free (use:=none) rfl hs rn S.kind S.names (vR (RR:=λacc C=>compPost (model X.prog X.w) X.A (XP X pins σ E) none (EP X pins σ Q) acc C) F1 S hc hi hg he I h p1 p3 ?_ ?_)
 ·intro D C H' s' o m I' e hn h0 h1 h2 q;refine⟨m,hn,λh' hs'=>?_⟩
  have pC:=I'.pin (C,o) (de _ (de _ (by simp)))
  have IX:Inv X pins σ H' s':=I'.cI;exact⟨.ref D,H',IX.turned (t':=s'.toks) (λb ob hb e=>(hs'.2 b hb).trans e) pC.2.1 pC.2.2.1 (.inr h0) h1 h2,rfl,q⟩
 ·intro D C ea s' x;obtain⟨_,_,_,_,_,_,⟨mC,hn⟩,_⟩:=id x;exact⟨mC,hn,λh' hs' sQ _=>Fe x hs'⟩
theorem BR {i:Nat}{y:Str}{py HD:Pos}(F1:Fr1 X)(S:dC scope X.env.scope xs X.N M)(hc:X.calm=true)(hj:X.N[i]?=some y)(hy:Loc X.env.scope y)(hi:PI X.nox tg iter wi)(hg:∀cl C s H fp,PG (cX X xs M scope cl C s H fp) tg g)
  (he:∀cl C s H fp,PEX (cX X xs M scope cl C s H fp) elt te)
  (hsw:swapsWith (.ListComp elt [⟨tg,iter,[],0⟩] scope pos) (some (.Name y py)) HD.line X.env=pure true:=by rfl)
  (hf:X.fn y=true\/X.env.scope.names.lookup y=some .local:=by first | exact .inl rfl | exact .inr rfl | assumption)
  (hs:∀x,foldedSetIterable iter X.env x=pure x:=by intro _;rfl):PSX X (.Assign [.Name y py] (.ListComp elt [⟨tg,iter,[],0⟩] scope pos) HD) (λD E σ H=>DS xs.length wi g te σ H (λv H1=>D.nx (σ.set i (some v)) H1) (E σ)):=by
 intro pins s σ H D E I h;obtain⟨cl,rn,p1,p3⟩:=kO (scope:=scope) (env:=X.env) (λy hy hf=>I.ok.has y.1 (.inl (S.free y hy hf)))
 rw[exec_Assign_Name_used _ _ _ _ hsw];refine cb (SD (cb ?_));show wpAny _ _ (do let _ <-comprehension (.ListComp elt [⟨tg,iter,[],0⟩] scope pos) scope X.env _ (newList []) false (eval iter X.env) (some (assign (.Name y py) X.env))) _ _ s
 refine cb (om (wpAny_comprehension_free (use:=some (assign (.Name y py) X.env)) (Q:=λ_ s'=>SP X pins D .next s') rfl hs rn S.kind S.names
  (vR (RR:=λacc C=>compPost (model X.prog X.w) X.A (XP X pins σ (E σ)) (some (assign (.Name y py) X.env)) (λ_ s'=>SP X pins D .next s') acc C) F1 S hc hi hg he I h p1 p3 ?_ ?_)) (λ_ s' hq=>me (me hq)) λ_ _ e=>⟨σ,e⟩)
 ·intro Dd C H' s' o m I' e hn h0 h1 h2 q;show wpAny _ _ (assign (.Name y py) X.env (.ref Dd)) _ _ s';refine wpAny_assign_Name (kK I' S.nd hj hy (v:=.ref Dd) rfl (λs'' I''=>?_) hf)
  have pC:=I''.pin (C,o) (de _ (de _ (by simp)))
  obtain⟨o',es,ep,e0,r⟩:=hn;rw[e]at e0;cases e0;have IX:Inv X pins _ H' s'':=I''.cI;refine⟨m,⟨o,es,ep,pC.1,r⟩,λh' hs'=>?_⟩
  exact⟨_,H',IX.turned (t':=s''.toks) (λb ob hb e=>(hs'.2 b hb).trans e) pC.2.1 pC.2.2.1 (.inr h0) h1 h2,q⟩
 ·intro Dd C ea s' x;obtain⟨_,_,_,_,_,_,⟨mC,hn⟩,_⟩:=id x;exact⟨mC,hn,λh' hs' sQ _=>Fe x hs'⟩
end
theorem Ff {X:Cx}{K:bo}{es:List Expr}{k:Nat}{t:TGs}{n:Nat}{pos:Pos}(ek:X.K=K)(hc:X.calm=true)(h:PGs X es t)
  (hn:(assignEach es X.env).length=n:=by rfl) (hst:(assignEach es X.env).findIdx? (·.1)=none:=by rfl):PG X (.Tuple es k pos) (Kb K n t):=by
 subst ek;exact Ae hc h hn hst
def O2 (t:TAX):TEX:=λσ H Q E=>t σ H (λxs H1=>xs.length<=fe/\∀p,H1 p=none->Q (.ref p) (upd H1 p (.tup xs))) E
theorem vo {X:Cx}{es:List Expr}{t:TAX}{x1:_}{pos:Pos}(h:PAX X es t):PEX X (.Tuple es x1 pos) (O2 t):=by
 intro pins s σ H Q E I hq;refine wpAny_Tuple_spliced (thn (h pos pins s σ H _ E I hq) λus s1 ⟨xs,H1,I1,r,z,q⟩=>⟨by rw[<-r.length];exact z,?_⟩)
 have hf:H1 s1.heap.objs.size=none:=I1.hok.fresh (gn _);refine⟨.ref s1.heap.objs.size,upd H1 s1.heap.objs.size (.tup xs),I1.laid (t':=s1.toks) (λb u e=>da _ e) (gn _) ?_,rfl,q _ hf⟩
 exact⟨z,us,r,⟨_,wt _ rfl,rfl,_,rfl⟩⟩
theorem KA {X:Cx}{K:bo}(ek:X.K=K)(hu:X.A.units+64 < cLine):OpR X (SH .Eq) (OU K):=by
 subst ek;exact sN hu
theorem M6 {K:bo}{a D:Addr}{xs:List V}{te:TEX}{Q:VK}{E:XK}{σ:St}{H1:Hp}(Pv:Nat->List V->Hp->Prop)(h0:Pv 0 [] (upd H1 D (.lst [])))(hz:xs.length<=fe)
  (hl:∀i ys H2,i<=xs.length->Pv i ys H2->SqL K H2 a xs/\H2 D=some (.lst ys)/\ys.length=i)
  (hs:∀i x ys H2,xs[i]?=some x->Pv i ys H2->te (some x::σ) H2 (bS D xs.length Pv i ys) E) (hd:∀ys H2,Pv xs.length ys H2->Q (.ref D) H2) :
  oZ 1 (Itl K a) (cf 0) te σ D H1 Q E:=by
 refine⟨λi m ys H=>m=xs.length - i/\i<=xs.length/\Pv i ys H,⟨xs.length,by simp,Sl _,h0⟩,?_⟩
 rintro i m ys H2 ⟨rfl,hi,p⟩;obtain⟨q,q2,q3⟩:=hl i ys H2 hi p;refine⟨q2,?_⟩
 by_cases hlt:i < xs.length
 ·refine .inr ⟨⟨xs,xs[i],q,by simp[hlt]⟩,by omega,λx H3 y vs hv=>?_⟩
  obtain⟨e,y⟩:=y;subst e;obtain⟨v0,rfl⟩:=List.length_eq_one_iff.mp hv;exact⟨[some x],rfl,rfl,hs i x ys _ (y xs q) p⟩
 ·have e:i=xs.length:=by omega
  subst e;exact .inl ⟨⟨xs,q,gn _⟩,hd ys H2 p⟩
theorem DU {K:bo}{a D:Addr}{xs:List V}{te:TEX}{Q:VK}{E:XK}{σ:St}{H1:Hp}(Pv:Nat->List V->Hp->Prop)(h0:Pv 0 [] (upd H1 D (.lst [])))(hz:xs.length<=fe)
  (hl:∀i ys H2,i<=xs.length->Pv i ys H2->SqL K H2 a xs/\H2 D=some (.lst ys)/\ys.length=i)
  (hs:∀i x ys H2,xs[i]?=some x->Pv i ys H2->∃p t0 t1,x=.ref p/\SqT K H2 p [t0,t1]/\te (some t0::some t1::σ) H2 (bS D xs.length Pv i ys) E) (hd:∀ys H2,Pv xs.length ys H2->Q (.ref D) H2) :
  oZ 2 (Itl K a) (Kb K 2 (yP (cf 0) (yP (cf 1) Mv))) te σ D H1 Q E:=by
 refine⟨λi m ys H=>m=xs.length - i/\i<=xs.length/\Pv i ys H,⟨xs.length,by simp,Sl _,h0⟩,?_⟩
 rintro i m ys H2 ⟨rfl,hi,p⟩;obtain⟨q,q2,q3⟩:=hl i ys H2 hi p;refine⟨q2,?_⟩
 by_cases hlt:i < xs.length
 ·refine .inr ⟨⟨xs,xs[i],q,by simp[hlt]⟩,by omega,λx H3 y vs hv=>?_⟩
  obtain⟨e,y⟩:=y;subst e;obtain⟨v0,v1,rfl⟩:∃v0 v1,vs=[v0,v1]:=by
   match vs,hv with
   |[v0,v1],_=>exact⟨v0,v1,rfl⟩
  obtain⟨p',t0,t1,rfl,ht,hw⟩:=hs i x ys _ (y xs q) p;exact⟨p',_,rfl,ht,rfl,t0,_,rfl,t1,_,rfl,rfl,[some t0,some t1],rfl,rfl,hw⟩
 ·have e:i=xs.length:=by omega
  subst e;exact .inl ⟨⟨xs,q,gn _⟩,hd ys H2 p⟩
abbrev TJ:=St->Hp->Str->(Str->Hp->Prop)->Prop
def PJ (X:Cx)(es:List Expr)(t:TJ):Prop :=
 ∀(pins:List (Addr×Obj)) (s:Shared) (σ:St) (H:Hp) (acc:Str) (Q:Str->Hp->Prop),Inv X pins σ H s->t σ H acc Q ->
  Joins (model X.prog X.w) X.A X.xe (evalEach es X.env) acc (λout s1=>∃H1,Inv X pins σ H1 s1/\out.length<=fe/\Q out H1) s
theorem Joins.mono {M:Model}{A:Around}{E:Value->Shared->Prop}{Q Q':Str->Shared->Prop}(hQ:∀o s,Q o s->Q' o s):∀ {ps:List (Sem Value)} {acc:Str} {s:Shared},Joins M A E ps acc Q s->Joins M A E ps acc Q' s
 |[],_,_,h=>hQ _ _ h
 |_::_,_,_,h=>om h (λ_ _ ⟨y,t,e,l,r⟩=>⟨y,t,e,l,Joins.mono hQ r⟩) λ_ _ z=>z
inductive BS:V->Str->Prop
 |int {i:Int}:i.natAbs.log2 < 1920->BS (.int i) (toString i)
 |str {x:Str}:BS (.str x) x
section
variable{X:Cx}{e:Expr}{es:List Expr}{te:TE}{t:TJ}{y:Str}{j:Nat}{p1 p2 pos:Pos}
theorem sT:PJ X [] (λ_ H acc Q=>acc.length<=fe/\Q acc H):=λ_ _ _ H _ _ I h=>⟨H,I,h.1,h.2⟩
theorem i6 (h:PJ X es t):PJ X (.Constant (.str y) j p1::es) (λσ H acc Q=>(acc++y).length<=fe/\t σ H (acc++y) Q):=by
 intro pins s σ H acc Q I hw;show wpAny _ _ (eval (.Constant (.str y) j p1) X.env) _ _ s;exact Calls.Constant_str ⟨y,_,rfl,hw.1,h pins _ σ H _ Q (I.tok _) hw.2⟩
theorem sU (he:PE X e te)(h:PJ X es t):PJ X (.FormattedValue e (-1) none p1::es) (λσ H acc Q=>te σ H λx H1=>∃z,BS x z/\z.length<=fe/\(acc++z).length<=fe/\t σ H1 (acc++z) Q):=by
 intro pins s σ H acc Q I hw;show wpAny _ _ (eval (.FormattedValue e (-1) none p1) X.env) _ _ s;refine wpAny_FormattedValue_plain (thn (he pins s σ H _ I hw) λv s1 ⟨x,H1,I1,r1,z,fz,l1,l2,q⟩=>?_)
 cases fz with
 |int hl =>
  obtain⟨tk,rfl⟩:=r1;exact wpAny_formatField_int hl ⟨_,_,rfl,l2,h pins _ σ H1 _ Q ((I1.tok _).tok _) q⟩
 |str =>
  obtain⟨tk,rfl⟩:=r1;exact wpAny_formatField_str ⟨_,_,rfl,l2,h pins _ σ H1 _ Q I1 q⟩ ⟨_,_,rfl,l2,h pins _ σ H1 _ Q (I1.tok _) q⟩ l1
theorem za {e₂:Expr}(h:PJ X (e::e₂::es) t):PE X (.JoinedStr (e::e₂::es) pos) (λσ H Q=>t σ H SI λz H1=>Q (.str z) H1):=by
 intro pins s σ H Q I hw;refine wpAny_JoinedStr ?_;have:=h pins s σ H SI _ I hw;refine Joins.mono ?_ this;rintro out s1 ⟨H1,I1,l,q⟩;exact⟨l,.str out,H1,I1.tok _,⟨_,rfl⟩,q⟩
end
def xi (a C:Addr)(xd:Option Addr):HO:=.ext λh=>∃a0:Addr,h.get? a=some ⟨.ref C,xd,.fields #[.ref a0,.none,.none,.none,.bool false,.none],#[]⟩
section
variable{P:kr}{w:World}{H:Hp}{h:Heap}{a C:Addr}{xd:Option Addr}
theorem HV {a0:Addr}(e:h.get? a=some ⟨.ref C,xd,.fields #[.ref a0,.none,.none,.none,.bool false,.none],#[]⟩):dO P w H h a (xi a C xd) :=
 ⟨⟨a0,e⟩,⟨_,e⟩,λ_ _ ⟨b,z⟩ k=>⟨b,k _ z⟩⟩
theorem HW (x:dO P w H h a (xi a C xd)):∃a0:Addr,h.get? a=some ⟨.ref C,xd,.fields #[.ref a0,.none,.none,.none,.bool false,.none],#[]⟩:=x.1
end
structure L7 (K:bo)(D:Addr):Prop where
 rd:PySem.W.readsIn K D (.type "type")=true
 sp:PySem.W.specialIn K (.ref D) "__getattribute__"=some (some (.builtin "type.__getattribute__"))
 fc:PySem.W.findCls K (.ref D) (.type "type") "__init__"=some (.val (.builtin "ValueError.__init__"))
structure Ay (K:bo)(N f:Addr):Prop where
 ex:∃(c:Value) (dd:Option Addr) (es:Array DictEntry) (n:Nat) (sl:Array (Option Value)),K.lookup N=some ⟨c,dd,.dict es n,sl⟩/\strKeys es=true
 at_:Tb K N "__init__"=some (some (.ref f))
theorem Ay.ns {K:bo}{N f:Addr}(x:Ay K N f){h:Heap}(X:K.In h):∃mN,h.Ns N mN/\mN "__init__"=some (.ref f):=by
 obtain⟨⟨c,dd,es,n,sl,l,sk⟩,no⟩:=x;have ns:h.Ns N (nsFind es):=⟨_,es,n,X _ _ l,rfl,λe he=>by
  have z:=List.all_eq_true.mp sk e (Array.mem_toList_iff.mpr he);cases hk:e.key with
  |str y t=>exact⟨y,t,rfl⟩
  |_=>rw[hk]at z;exact absurd z kj,λ_=>rfl⟩
 refine⟨_,ns,?_⟩;unfold Tb at no;rw[l]at no;dsimp only at no;unfold nsFind findBy;rw[<-Array.find?_toList];cases hf:es.toList.find? (λe=>e.key.isStr "__init__") with
 |none =>
  rw[hf]at no;dsimp only at no
  by_cases q:es.toList.any (·.refKey)=true
  ·rw[if_pos q]at no;cases no
  ·rw[if_neg q]at no;cases no
 |some e=>rw[hf]at no;exact si no
structure vS (K:bo)(C f:Addr)(name:Str):Prop where
 ex:∃(nm q:Str) (N:Addr) (bs bm:List Value) (hdct:Bool) (sn:List Str) (sub:List Value) (ab:Bool) (col:Option Bool) (dd:Option Addr) (k0 k1 k2 k3 k5:Option Value),
  K.lookup C=some (Td nm q C N bs bm hdct sn sub ab col dd k0 k1 k2 k3 k5 "ValueError.__new__")/\Aw K bm/\hdct=true/\Ay K N f
 fn:PySem.W.isFn K (.ref f)=true
 sa:RU K (.ref C) "__setattr__"=some (some (.builtin "object.__setattr__"))
 na:RU K (.ref C) name=some none
section
variable{X:Cx}{pins:List (Addr×Obj)}{σ:St}{H:Hp}{s:Shared}{C f:Addr}{name:Str}
theorem Aw.pass {K:bo}{bm:List Value}(x:Aw K bm)(self:Value):refuseLoop self "__setattr__" bm=pure ():=by
 induction x with
 |base=>exact PySem.F.store_ValueError.passes self
 |own _ _ _ ih=>rw[refuseLoop_ref];exact ih
theorem DW {xk:vS X.K C f name}:gS X (.builtin "ValueError.__init__") (λxs H Q=>∃ea v,xs=[.ref ea,v]/\H ea=some (xi ea C none)/\Q .non H):=by
 intro pins s σ H xs us Q I r h;obtain⟨ea,v,rfl,hx,q⟩:=h;obtain⟨nm,qn,N,bs,bm,hdct,sn,sub,ab,col,dd,k0,k1,k2,k3,k5,l,T,hd,hi⟩:=xk.ex;obtain⟨u,u2,rfl,rx,rv⟩:=vals2 r;cases rx;obtain⟨a0,e⟩:=HW (P:=X.prog) (w:=X.w) (I.hok _ _ hx);have kC:=I.kIn _ _ l;have T1:=T.tail I.kIn;have F:=PySem.F.excBase_ValueError;have ha:X.A.handled=X.A.handled:=rfl;obtain⟨hp,g,d,tk,os⟩:=s;dsimp only at e kC T1;refine wpAny_call (codeAny_call_builtin F.init.plain F.initEntry (wpAny_check_init_subT F T1 kC e rfl ?_))
 wp_walk
 have hE:ea≠hp.objs.size:=wa (kx e);have e1:(hp.push { cls:=.type "tuple",data:=.seq #[u2] }).get? ea=_:=da _ e;have k:∀b o,b≠ea->hp.get? b=some o->((hp.push { cls:=.type "tuple",data:=.seq #[u2] }).update ea (SX λx=>x.setIfInBounds 0 (.ref hp.objs.size))).get? b=some o:=λb o hb q =>
  (Sx _ _ (R4 hb)).trans (da _ q)
 have e2:((hp.push { cls:=.type "tuple",data:=.seq #[u2] }).update ea (SX λx=>x.setIfInBounds 0 (.ref hp.objs.size))).get? ea=some ⟨.ref C,none,.fields #[.ref hp.objs.size,.none,.none,.none,.bool false,.none],#[]⟩:=S9 _ e1 rfl
 have un:upd H ea (xi ea C none)=H:=by
  funext b
  by_cases z:b=ea
  ·rw[z,ae,hx]
  ·rw[ao z]
 have I2:=I.write (x:=ea) (e:=ea) (o:=xi ea C none) (t':=tk) (by rw[hx];exact Ts) (.inl rfl) k ⟨_,e2⟩ (HV e2)
 rw[un]at I2;exact⟨.non,H,I2,rfl,q⟩
end
end L2
namespace L2
open PySem PySem.Spec PyProof.Rows PySem.Builtin PySem.Builtin.ObjectAttr
section
variable{prog:kr}{w:World}{A:Around}{E:Value->Shared->Prop}{K:bo}{x C f:Addr}{name:Str}{v:Value}
theorem HX {s:Shared}{vs:Array Value}{sl:Array (Option Value)}{Q:Unit->Shared->Prop}(X:K.In s.heap)(xk:vS K C f name)(hx:s.heap.get? x=some ⟨.ref C,none,.fields vs,sl⟩)
  (h:∀h' tk,h'.get? x=some ⟨.ref C,some s.heap.objs.size,.fields vs,sl⟩->h'.Ns1 s.heap.objs.size (λy=>if y=name then some v else none)->(∀b o,b≠x->s.heap.get? b=some o->h'.get? b=some o) ->
   Q () { s with heap:=h',toks:=tk }):wpAny (model prog w) A (setAttr (.ref x) name v) Q E s:=by
 obtain⟨nm,qn,N,bs,bm,hdct,sn,sub,ab,col,dd,k0,k1,k2,k3,k5,l,T,hd,hi⟩:=xk.ex;subst hd;obtain⟨hp,g,d,tk,os⟩:=s;dsimp only at hx h X;have J:PySem.W.InstAt hp x ⟨.ref C,none,.fields vs,sl⟩ C none:=⟨hx,rfl,rfl,trivial⟩;have SF:=PySem.F.store_object;have kC:=X _ _ l;have hT:=T.tail X;have hob:(RZ C::bm).contains (.type "object")=true:=by rw[List.contains_cons,hT.hasType (b:=true) (by trivial),Bool.or_true]
 have pass:refuseLoop (.ref x) "__setattr__" (.ref C::bm)=pure ():=by rw[refuseLoop_ref];exact T.pass _
 refine PySem.W.set_plain X J xk.sa ?_;have sb:PySem.W.Looks (model prog w) hp (isInstance (.ref x) (.type "object")) true:=J.type.andThen (PySem.W.looks_mroIn X (by unfold TV PySem.W.clsIn;rw[l];simpa using hob))
 refine codeAny_call_builtin SF.slot.plain SF.entry (@PySem.W.check_slot (model prog w) _ _ ⟨hp,g,d,tk+1,os⟩ "object.__setattr__" "object" "__setattr__" (.ref x) [.str name tk,v] [] _ SF.kind SF.split sb (SF.args (.ref x) (.str name tk) v) ?_);have hm:PySem.W.Looks (model prog w) hp (mroOf (.ref C)) (.ref C::bm):=(PySem.W.looks_clsIn X (by unfold PySem.W.clsIn;rw[l])).andThen .now
 rw[PySem.W.osa_eq,refuse_eq];refine cb (cb ((J.type (M:=model prog w)).at (cb (hm.at ?_))));rw[pass];refine me (cb ((J.type (M:=model prog w)).at (cb ((PySem.W.looks_findIn X xk.na).at (cb ((show PySem.W.Looks (model prog w) hp (storeTaker? none) none from .now).at ?_))))))
 have hxs:x≠hp.objs.size:=wa (kx hx);obtain⟨cd,hcl,hdd⟩:∃cd,PySem.W.clsIn K C=some cd/\cd.hasDict=true:=⟨_,by unfold PySem.W.clsIn;rw[l],rfl⟩
 refine cb (me (cb (cb (wpAny_loadPart hx (cb ((PySem.W.looks_clsIn X hcl).at ?_))))));rw[hdd];have hx₁:(hp.push { cls:=.type "dict",data:=.dict #[] }).get? x=some _:=da _ hx;refine cb (wpAny_alloc' ?_);refine cb (wpAny_update' hx₁ ?_);refine me ?_;have hgd:((hp.push { cls:=.type "dict",data:=.dict #[] }).update x λo=>{ cls:=o.cls,dict:=some hp.objs.size,data:=o.data,slots:=o.slots }).get? hp.objs.size
   = some { cls:=.type "dict",data:=.dict #[] } :=
  (Heap.get?_update_ne _ _ _ _ hxs.symm).trans (Heap.get?_push_at rfl rfl)
 have hnd:((hp.push { cls:=.type "dict",data:=.dict #[] }).update x λo=>{ cls:=o.cls,dict:=some hp.objs.size,data:=o.data,slots:=o.slots }).Ns hp.objs.size (λ_=>none) :=
  ⟨_,#[],_,hgd,rfl,λe he=>absurd he (by simp),λ_=>rfl⟩
 show wpAny _ _ (storeInDict hp.objs.size (.str name tk) name v) _ _ _;unfold storeInDict newKeyGuard;refine cb (me (cb (wpAny_nsSet1 (Heap.Ns1.of_empty hnd) λh' hn' hs=>?_)))
 obtain⟨oD,esD,epD,hoD,hdD,hcD⟩:=hn'.count (Within.cons name v Within.nil);refine cb (wpAny_lookBehind hoD (by rw[hdD];exact pastItsLine_dict (ku hcD (by rw[rf,TR,sizeLine_eq];omega))) ?_)
 refine me (h h' _ ?_ hn' λb ob hbx hb=>(hs.2 b (wa (kx hb))).trans ((Heap.get?_update_ne _ _ _ _ hbx).trans (da _ hb)))
 exact(hs.2 x hxs).trans (S9 _ hx₁ rfl)
end
end L2
namespace L2
open PySem PySem.Spec PyProof.Rows
section
variable{prog:kr}{w:World}{A:Around}{E:Value->Shared->Prop}{h:Heap}{g:Array GenState}{d:Drawn}{t:Nat}{os:OsState}
variable{nm q:Str}{C N fI:Addr}{bs bm bmB:List Value}{hdct:Bool}{sn:List Str}{sub:List Value}{ab:Bool}{col:Option Bool}{dd:Option Addr}{k0 k1 k2 k3 k5:Option Value}{B nid iid:String}{K:bo}
theorem Gj (X:K.In h)(F:ExcBaseFacts B nid iid bmB)(T:OwnTail h bmB bm){mN:Str->Option Value}{us:List Value}{Q:Fin->Shared->Prop}
  (kC:h.get? C=some (Td nm q C N bs bm hdct sn sub ab col dd k0 k1 k2 k3 k5 nid)) (kN:h.Ns N mN) (kI:mN "__init__"=some (.ref fI)) (hf:PySem.W.typeIn K (.ref fI)=some (.type "function")) (hz:us.length<=fe)
  (hq:wpAny (model prog w) A (call (.ref fI) (.ref (h.objs.size+1)::us)) (λr s'=>r=.none/\Q (.done (.ret (.ref (h.objs.size+1)))) s') E ⟨jK h C us,g,d,t,os⟩) :
  wpAny (model prog w) A (Builtin.«type.__call__» ⟨.ref C::us,[]⟩) Q E ⟨h,g,d,t,os⟩:=by
 repeat (first | with_reducible refine wpAny_loadPart_at kC ?_ | with_reducible refine wpAny_madeBy_exc kC ?_ | wp_step)
 refine codeAny_call_builtin_code (Code.quiet_builtin _ F.quiet) (wpAny_check_new_subT F T kC (codeAny_exc_new_subT F T kC ?_ hz));show wpAny _ _ _ _ _ _;have kC1:(jK h C us).get? C=_:=dH kC;have kN1:(jK h C us).Ns N mN:=kN.keeps λb o e=>dH e
 have X1:K.In (jK h C us):=X.keeps λb o e=>dH e
 have T1:OwnTail (jK h C us) bmB bm:=T.keeps λb o e=>dH e
 have kE:=vP (h:=h) (C:=C) (us:=us);have self:(RZ C::bm).contains (.ref C)=true:=by simp
 unfold isInstance
 repeat (first | with_reducible refine wpAny_loadPart_at kE ?_ | (with_reducible refine wpAny_isSubtype_exc kC1 ?_;rw[self]) | wp_step)
 show wpAny _ _ (typeLookup (.ref C) _) _ _ _;refine wpAny_typeLookup_tail kC1 kN1 T1 F.mroIs F.init.lookup ?_;rw[kI];refine wpAny_holding (cb ((PySem.W.bind_fn X1 (.ref (h.objs.size+1)) hf).at ?_));refine cb (om hq (λr s' hr=>?_) λ_ _ z=>z)
 obtain⟨rfl,hQ⟩:=hr
 wp_walk
 exact hQ
theorem HY (X:K.In h)(F:ExcBaseFacts B nid iid bmB)(T:OwnTail h bmB bm){mN:Str->Option Value}{us:List Value}{Q:Value->Shared->Prop}
  (kC:h.get? C=some (Td nm q C N bs bm hdct sn sub ab col dd k0 k1 k2 k3 k5 nid)) (kN:h.Ns N mN) (kI:mN "__init__"=some (.ref fI)) (hf:PySem.W.typeIn K (.ref fI)=some (.type "function")) (hz:us.length<=fe)
  (hq:wpAny (model prog w) (A.under (.builtin "type.__call__" ⟨.ref C::us,[]⟩)) (call (.ref fI) (.ref (h.objs.size+1)::us)) (λr s'=>r=.none/\Q (.ref (h.objs.size+1)) s') E ⟨jK h C us,g,d,t,os⟩) :
  wpAny (model prog w) A (call (.ref C) us) Q E ⟨h,g,d,t,os⟩:=by
 have l1:=tc_lookup;have l2:=tc_bind (.ref C);have ty:(⟨h,g,d,t,os⟩:Shared).TypeIs (.ref C) "type":=⟨_,kC,rfl⟩;refine wpAny_call (codeAny_of_tree ?_);show wpAny _ _ (callAny (.ref C) _) _ _ _
 repeat (any_goals (first | assumption | with_reducible refine wpAny_loadPart_at kC ?_ | wp_step))
 exact⟨rfl,codeAny_call_builtin_at (Code.quiet_builtin _ (by trivial)) entry_typeCall (wpAny_check_type_call_sub kC (Gj X F T kC kN kI hf hz hq))⟩
end
def DX (C:Addr)(name:Str):Sp:=λvs H Q _=>∃(e:Addr) (v:V),vs=[.ref e,v]/\H e=some (xi e C none)/\(∃z,BS v z/\z.length<=10000)/\∀d,H d=none->Q .non (upd (upd H d (.xd [(name,v)])) e (xi e C (some d)))
section
variable{X:Cx}{pins:List (Addr×Obj)}{σ:St}{H:Hp}{s:Shared}{C f:Addr}{name x:Str}{fd:fi}{ps:List Str}{k:Nat}{np dY pos:Pos}{e₀:Expr}{ta:TA}
theorem DY {E:Value->Shared->Prop}{v:V}{u:Value}{Q:Value->Shared->Prop}(xk:vS X.K C f name)(len:ps.length=2)(run:∀(s:Shared) (H:Hp) (us:List Value) (vs:List V) (Q:VK),vH X.prog X.w X.K X.mg X.base (X.A.under (.builtin "type.__call__" ⟨.ref C::[u],[]⟩)) X.stack s H->BindsTo s fd ⟨us,[]⟩ (ps.zip us)->Vals vs us->DX C name vs H Q E0->codeAny (model X.prog X.w) (X.A.under (.builtin "type.__call__" ⟨.ref C::[u],[]⟩)) (.call (.ref f) ⟨us,[]⟩) (CR CX0 X.stack X.prog X.w H s Q E0) s)(hb:Binds X.K fd ps [])(I:Inv X pins σ H s)(r:RelV v u)
  (hv:∃z,BS v z/\z.length<=10000)
  (h:∀(e d:Addr) (a0:Value) (s':Shared),H d=none->Inv X pins σ (upd H d (.xd [(name,v)])) s'->dU X pins (upd H d (.xd [(name,v)])) e->s'.heap.get? e=some ⟨.ref C,some d,.fields #[a0,.none,.none,.none,.bool false,.none],#[]⟩->Q (.ref e) s') :
  wpAny (model X.prog X.w) X.A (call (.ref C) [u]) Q E s:=by
 obtain⟨nm,qn,N,bs,bm,hdct,sn,sub,ab,col,dd,k0,k1,k2,k3,k5,l,T,hd,hi⟩:=xk.ex;obtain⟨mN,kN,kI⟩:=hi.ns I.kIn;have fre:=I.hok.fresh (gn _);obtain⟨hp,g,dr,tk,os⟩:=s;have ne:H (hp.objs.size+1)=none:=I.hok.fresh (SG _);have I2:Inv X pins σ (upd H (hp.objs.size+1) (xi (hp.objs.size+1) C none)) ⟨jK hp C [u],g,dr,tk,os⟩ :=
  I.laid (h':=jK hp C [u]) (t':=tk) (λb o q=>dH q) (SG _) (HV vP)
 have r2:Vals [V.ref (hp.objs.size+1),v] [RZ (hp.objs.size+1),u]:=.cons rfl (.cons r .nil);have hsp:DX C name [V.ref (hp.objs.size+1),v] (upd H (hp.objs.size+1) (xi (hp.objs.size+1) C none))
   (λv' H'=>v'=.non/\∃d,H d=none/\d≠hp.objs.size+1/\H'=upd (upd (upd H (hp.objs.size+1) (xi (hp.objs.size+1) C none)) d (.xd [(name,v)])) (hp.objs.size+1) (xi (hp.objs.size+1) C (some d))) E0:=by
  refine⟨_,v,rfl,ae,hv,λd hd=>⟨rfl,d,?_,?_,rfl⟩⟩
  ·by_cases z:d=hp.objs.size+1
   ·rw[z,ae]at hd;cases hd
   ·rwa [ao z]at hd
  ·intro z;rw[z,ae]at hd;cases hd
 have hl:[RZ (hp.objs.size+1),u].length=ps.length:=len.symm;refine HY I.kIn (F:=PySem.F.excBase_ValueError) (T.tail I.kIn) (I.kIn _ _ l) kN kI (beq_iff_eq.mp xk.fn) (show 1<=fe by decide) (wpAny_call (codeAny_mono (run _ _ [RZ (hp.objs.size+1),u] _ _
  (I2.Kg.make C [u] []) (by have b:=hb _ [RZ (hp.objs.size+1),u] I2.kIn (by rw[S6];exact hl);rw[S6]at b;exact b) r2 hsp) λrr s' hq=>?_))
 cases rr with
 |error e=>exact hq.elim
 |ok fl =>
  cases fl with
  |ret u' =>
   obtain⟨v',H',os',bare,un,hok,rv,rfl,d,hd1,hd2,rfl⟩:=hq;cases rv;refine⟨rfl,?_⟩;have HeE:∀ {o:HO},upd (upd (upd H (hp.objs.size+1) (xi (hp.objs.size+1) C none)) d (.xd [(name,v)])) (hp.objs.size+1) o (hp.objs.size+1)=some o:=ae;have Hne:∀b,b≠hp.objs.size+1->upd (upd (upd H (hp.objs.size+1) (xi (hp.objs.size+1) C none)) d (.xd [(name,v)])) (hp.objs.size+1) (xi (hp.objs.size+1) C (some d)) b=upd H d (.xd [(name,v)]) b:=λb hb=>by
    rw[ao hb]
    by_cases z:b=d
    ·rw[z,ae,ae]
    ·rw[ao z,ao z,ao hb]
   have He2:upd H d (.xd [(name,v)]) (hp.objs.size+1)=none:=by rw[ao (R4 hd2)];exact ne
   have U1:Un (frs X.stack) [] H (upd H (hp.objs.size+1) (xi (hp.objs.size+1) C none)) hp (jK hp C [u]):=Un.laid (λb o q=>dH q) (SG _) ne
   have U2:=U1.trans un;have lt:∀b o,hp.get? b=some o->b≠hp.objs.size+1:=λb o q=>wa (TB (kx q))
   have U3:Un (frs X.stack) [] H (upd H d (.xd [(name,v)])) hp s'.heap:=by
    refine⟨U2.keep,U2.slot,λb o q n hx=>?_,U2.there,λb xs q=>?_,λb o u q=>?_,λb p q=>?_⟩
    ·have z:=U2.free b o q n hx
     rwa [Hne b (lt b o q)]at z
    ·have z:=U2.sG b xs q
     rwa [Hne b (λe=>by rw[e,ne]at q;cases q)]at z
    ·have z:=U2.qY b o u q
     rwa [Hne b (λe=>by rw[e,ne]at q;cases q)]at z
    ·obtain⟨m,z⟩:=U2.sH b p q;rw[Hne b (λe=>by rw[e,ne]at q;cases q)]at z
     exact⟨m,z⟩
   have K3:HOk X.prog X.w (upd H d (.xd [(name,v)])) s'.heap:=λa o q=>by
    have ha:a≠hp.objs.size+1:=λe=>by rw[e,He2]at q;cases q
    refine(hok a o (by rw[Hne a ha];exact q)).Bv (λb u _ z=>z) (λb z=>?_) (λb xs z=>?_)
    ·rwa [Hne b (λe=>by rw[e,HeE]at z;cases z)]at z
    ·rwa [Hne b (λe=>by rw[e,HeE]at z;cases z)]at z
   obtain⟨a0,ea⟩:=HW (P:=X.prog) (w:=X.w) (hok _ _ HeE);have I3:Inv X pins σ (upd H d (.xd [(name,v)])) s':=I.Bx (ch:=[]) os' U3 K3 bare λb z=>absurd z (by simp)
   exact h _ d (.ref a0) s' hd1 I3 (I.sI (SG _) He2) ea
  |next=>exact Sb hq
  |brk=>exact Sb hq
  |cont=>exact Sb hq
theorem Gk {E:Value->Shared->Prop}{v:V}{u:Value}{Q:Value->Shared->Prop}(xk:vS X.K C f name)(F:aX X.prog X.w X.K X.mg X.base CX0 k f fd ps (DX C name))(hr:Room (k+1) X.A)(hb:Binds X.K fd ps [])(I:Inv X pins σ H s)(r:RelV v u)
  (hv:∃z,BS v z/\z.length<=10000)
  (h:∀(e d:Addr) (a0:Value) (s':Shared),H d=none->Inv X pins σ (upd H d (.xd [(name,v)])) s'->dU X pins (upd H d (.xd [(name,v)])) e->s'.heap.get? e=some ⟨.ref C,some d,.fields #[a0,.none,.none,.none,.bool false,.none],#[]⟩->Q (.ref e) s') :
  wpAny (model X.prog X.w) X.A (call (.ref C) [u]) Q E s :=
 DY xk (by have z:=F.len [V.ref 0,v] (upd H 0 (xi 0 C none)) (λ_ _=>True) E0 ⟨0,v,rfl,ae,hv,λ_ _=>trivial⟩;exact z.symm) (λs H us vs Q e0 b r sp=>F.run _ X.stack s H ⟨us,[]⟩ us vs Q E0 (hr.make C [u] []) e0 b r sp) hb I r hv h
theorem l7 (xk:vS X.K C f name)(F:aX X.prog X.w X.K X.mg X.base CX0 k f fd ps (DX C name))(hr:Room (k+1) X.A)(hb:Binds X.K fd ps [])(hc:X.calm=true)(hg:Gl X x)(hm:X.mg x=some (.ref C))(ha:PA X.nox [e₀] ta)
  (hdb:(x == ("__debug__":Str))=false:=by decide) (he:Lk [e₀] X.env=[(false,eval e₀ X.env)]:=by rfl) :
  PSX X (.Raise (some (.Call (.Name x np) [e₀] [] dY)) none pos) (λ_ E σ H=>ta σ H λvs H1=>∃v,vs=[v]/\(∃z,BS v z/\z.length<=10000)/\∀d,H1 d=none->E σ (.ref C) (some d) (upd H1 d (.xd [(name,v)]))):=by
 intro pins s σ H D E I h;obtain⟨nm,q,N,bs,bm,hdct,sn,sub,ab,col,dd,k0,k1,k2,k3,k5,l,T,hd,hi⟩:=xk.ex;have go:wpAny (model X.prog X.w) X.A (eval (.Call (.Name x np) [e₀] [] dY) X.env) (λv s₁=>∃(e:Addr) (xd:Option Addr) (a0:Value) (sl:Array (Option Value)),v=.ref e/\s₁.heap.get? C=some (Td nm q C N bs bm hdct sn sub ab col dd k0 k1 k2 k3 k5 "ValueError.__new__") /\
   s₁.heap.get? e=some ⟨.ref C,xd,.fields #[a0,.none,.none,.none,.bool false,.none],sl⟩/\XPS X pins E (.ref e) s₁) (XPS X pins E) s:=by
  refine wpAny_Call_Name_kw (fG I hg hm ?_ hdb);unfold callWith;rw[he];refine cb (wpAny_holding (Calls.evalArgs_plain ?_));have ha':=ha dY pins s σ H _ (I.j4 _) h;rw[show X.nox.env=X.env from rfl,he]at ha'
  refine om ha' (λus s₁ ⟨vs,H1,I1,r,v,hvs,hv,q1⟩=>cb (SD ?_)) λ_ _ z=>Sb z
  subst hvs;obtain⟨u,rfl,rv⟩:=Vals.one r;have I1':=I1.cO;have kC:=I1'.kIn _ _ l;have pl:(backTo dY [(false,eval e₀ X.env)]).any (·.1)=false:=rfl
  have fin:wpAny (model X.prog X.w) X.A (call (.ref C) ([]++[u])) (λr s'=>∃(e:Addr) (xd:Option Addr) (a0:Value) (sl:Array (Option Value)),r=.ref e/\s'.heap.get? C=some (Td nm q C N bs bm hdct sn sub ab col dd k0 k1 k2 k3 k5 "ValueError.__new__") /\
   s'.heap.get? e=some ⟨.ref C,xd,.fields #[a0,.none,.none,.none,.bool false,.none],sl⟩/\XPS X pins E (.ref e) s') (XPS X pins E) s₁:=by
   refine Gk xk F hr hb I1' rv hv λe d a0 s' hd1 I2 fp ke=>?_
   exact⟨e,some d,a0,#[],rfl,I2.kIn _ _ l,ke,σ,e,.ref C,some d,none,_,rfl,I2,⟨fp,_,_,ke,⟨by show 1 < 6;decide,λ_=>rfl⟩,rfl⟩,.inl rfl,q1 d hd1⟩
  obtain⟨hp,g',d',tk,os'⟩:=s₁;simp only[pl];refine cb (wpAny_keeperOf_exc kC ?_);exact cb (om fin (λv s2 z=>cb (wpAny_holding (wpAny_point (me z)))) λ_ _ z=>z)
 rw[arm_exec_Raise];have hbx:bm.contains (.type "BaseException")=true:=(T.tail I.kIn).hasType (b:=true) (by trivial)
 first
  |exact cb (SD (oY (C:=C) (nm:=nm) (q:=q) (N:=N) (bs:=bs) (bm:=bm) (hdct:=hdct) (sn:=sn) (sub:=sub) (ab:=ab) (col:=col) (dd:=dd) (k0:=k0) (k1:=k1) (k2:=k2) (k3:=k3) (k5:=k5) hbx (I.ok.hd hc) (cb (om go (λv s₃ h₃=>cb (SD (me h₃))) λ_ _ z=>z))))
  | (simp only[evalOpt,Option.map];exact cb (SD (oY (C:=C) (nm:=nm) (q:=q) (N:=N) (bs:=bs) (bm:=bm) (hdct:=hdct) (sn:=sn) (sub:=sub) (ab:=ab) (col:=col) (dd:=dd) (k0:=k0) (k1:=k1) (k2:=k2) (k3:=k3) (k5:=k5) hbx (I.ok.hd hc) (cb (om go (λv s₃ h₃=>cb (SD (me h₃))) λ_ _ z=>z)))))
end
section
variable{X:Cx}{pins:List (Addr×Obj)}{σ:St}{H:Hp}{s:Shared}{C D f:Addr}{name x:Str}{np apos dY pos pos':Pos}{o e value:Expr}{ta tv:TE}{t:TA}
theorem vT {pl:Sem Bool}(ik:L7 X.K D)(xk:vS X.K C f name)(hg:Gl X x)(hm:X.mg x=some (.ref D))(ha:PA X [o,e] t)(hdb:(x == ("__debug__":Str))=false:=by decide)
  (hst:Lk [o,e] X.env=(false,eval o X.env)::Lk [e] X.env:=by rfl) (hpl:(backTo pos (Lk [e] X.env)).any (·.1)=false:=by rfl)
  (ht:eval (.Call (.Attribute (.Name x np) "__init__" apos) [o,e] [] pos) X.env=(do
   let ov <-eval (.Name x np) X.env
   standAt apos.atName
   let (f,first) <-holding [ov] (getMethod ov "__init__" pl)
   callWith pos f first (backTo pos (Lk [o,e] X.env)) (backToKw pos (keywordEach [] X.env))):=by rfl) :
  PE X (.Call (.Attribute (.Name x np) "__init__" apos) [o,e] [] pos) (λσ H Q=>t σ H λvs H1=>∃ea v,vs=[.ref ea,v]/\H1 ea=some (xi ea C none)/\Q .non H1):=by
 intro pins s σ H Q I h;refine SJ (pl:=pl) (fG I hg hm ?_ hdb) ht;refine PySem.W.method_cls I.kIn ik.sp (PySem.W.cls_value I.kIn ik.rd ik.fc (by trivial) ?_)
 show wpAny _ _ (callWith pos (.builtin "ValueError.__init__") [] (backTo pos (Lk [o,e] X.env)) []) _ _ _;exact PyProof.Rows.callWith_builtin1 (thn (ha pos pins _ σ H _ (I.tok _) h) λus s1 ⟨vs,H1,I1,r1,ea,v,hv,hx,q⟩=>DW (xk:=xk) pins s1 σ H1 vs us Q I1 r1 ⟨ea,v,hv,hx,q⟩) hst hpl
theorem Az (xk:vS X.K C f name)(ha:PE X o ta)(hv:PE X value tv)(hs:swapsWith value (some (.Attribute o name pos')) pos.line X.env=pure false:=by rfl):PS X (.Assign [.Attribute o name pos'] value pos)
  (λD σ H=>tv σ H λy H1=>ta σ H1 λx H2=>∃ea,x=.ref ea/\H2 ea=some (xi ea C none)/\∀d,H2 d=none->D.nx σ (upd (upd H2 d (.xd [(name,y)])) ea (xi ea C (some d)))):=by
 intro pins s σ H D I h;refine plainObj_wpAny_Assign_Attribute (thn (hv pins s σ H _ I h) λu s1 ⟨y,H1,I1,ry,q⟩=>thn (ha pins s1 σ H1 _ I1 q) λov s2 ⟨x,H2,I2,rx,ea,ex,hx,q2⟩=>?_) hs
 subst ex;obtain rfl:ov=RZ ea:=rx;obtain⟨a0,e0⟩:=HW (P:=X.prog) (w:=X.w) (I2.hok _ _ hx);have fr:H2 s2.heap.objs.size=none:=I2.hok.fresh (gn _);refine HX I2.kIn xk e0 λh' tk hx' ns kk=>⟨σ,_,?_,q2 _ fr⟩
 have hde:ea≠s2.heap.objs.size:=az hx fr;have old:∀b,b≠ea->b≠s2.heap.objs.size->upd (upd H2 s2.heap.objs.size (.xd [(name,y)])) ea (xi ea C (some s2.heap.objs.size)) b=H2 b:=λb h1 h2=>by rw[ao h1,ao h2]
 have lt:∀b ob,s2.heap.get? b=some ob->b≠s2.heap.objs.size:=λb ob q=>wa (kx q)
 have nx:∀b,H2 b=none->b≠ea:=λb n z=>by rw[z,hx]at n;cases n
 have ns':∀b {o:HO},H2 b=some o->b≠s2.heap.objs.size:=λb _ n z=>by rw[z,fr]at n;cases n
 refine I2.un (t':=tk) ⟨λb ob q n _ _=>kk b ob (nx b n) q,λb ob q n _ _=>⟨ob.slots,kk b ob (nx b n) q⟩,λb ob q n _=>by rw[old b (nx b n) (lt b ob q)];exact n,λb ob q _=>?_,λb xs q=>?_,λb ob u q=>?_,λb ps q=>?_⟩ λa ob q=>?_
 ·by_cases z:b=ea
  ·exact⟨_,by rw[z];exact hx'⟩
  ·exact⟨ob,kk b ob z q⟩
 ·rw[old b (λz=>by rw[z,hx]at q;cases q) (ns' b q)];exact q
 ·rw[old b (λz=>by rw[z,hx]at q;cases q) (ns' b q)];exact q
 ·exact⟨#[],by rw[old b (λz=>by rw[z,hx]at q;cases q) (ns' b q),q];simp⟩
 ·by_cases z:a=ea
  ·subst z;rw[ae]at q;cases q;exact HV hx'
  ·rw[ao z]at q
   by_cases z2:a=s2.heap.objs.size
   ·rw[z2,ae]at q;cases q;refine⟨_,by rw[z2];exact ns,λg=>?_⟩
    rw[List.lookup_cons]
    by_cases hg:g=name
    ·rw[if_pos hg,show (g == name)=true from beq_iff_eq.mpr hg];exact ry
    ·rw[if_neg hg,show (g == name)=false from beq_eq_false_iff_ne.mpr hg];exact Ts
   ·rw[ao z2]at q;refine(I2.hok a ob q).Bv (λb u hb r=>kk b u ?_ r) (λb r=>?_) (λb xs r=>?_)
    ·rintro rfl;rcases hb with hb | hb
     ·exact z hb.symm
     ·rw[hx]at hb;cases hb
    ·rw[old b (λz=>by rw[z,hx]at r;cases r) (ns' b r)];exact r
    ·rw[old b (λz=>by rw[z,hx]at r;cases r) (ns' b r)];exact r
structure Q5 (K:bo)(C:Addr)(name:Str):Prop where
 ga:GaX K C
 na:RU K (.ref C) name=some none
 hd:PySem.W.hasDictIn K C=true
end
section
variable{κ:Type}[DecidableEq κ]
def et (kvs:List (κ×V))(k:κ):Option V:=(kvs.find? λkv=>decide (kv.1=k)).map (·.2)
def putK (kvs:List (κ×V))(k:κ)(v:V):List (κ×V) :=
 if (kvs.any λkv=>decide (kv.1=k))=true then kvs.map (λkv=>if kv.1=k then (kv.1,v) else kv) else kvs++[(k,v)]
def fA (kvs:List (κ×V))(k:κ):List (κ×V):=kvs.filter λkv=>decide (kv.1≠k)
theorem df {p:κ×V}{r:List (κ×V)}{k:κ}(e:p.1=k):et (p::r) k=some p.2:=by simp[et,Sn,e]
theorem bF {p:κ×V}{r:List (κ×V)}{k:κ}(e:¬p.1=k):et (p::r) k=et r k:=by simp[et,Sn,e]
theorem nv (k:κ):∀kvs:List (κ×V),(kvs.any λkv=>decide (kv.1=k))=(et kvs k).isSome
 |[]=>rfl
 |p::r=>by
  rw[List.any_cons]
  by_cases e:p.1=k
  ·simp only[df e,decide_eq_true e,Bool.true_or,Option.isSome_some]
  ·rw[bF e,decide_eq_false e,Bool.false_or];exact nv k r
theorem ny (kvs:List (κ×V))(k:κ)(v:V):(putK kvs k v).length<=kvs.length+1:=by
 unfold putK;split
 ·rw[ba];omega
 ·rw[ka,rf,TR];omega
theorem HZ {kvs:List (κ×V)}{k:κ}(v:V)(h:et kvs k=none):putK kvs k v=kvs++[(k,v)]:=by
 unfold putK;rw[nv,h];exact if_neg (by decide)
theorem l5.o8 {o:Option V}{u:Option Value}(r:l5 o u):o.isSome=u.isSome:=by
 cases o with
 |none=>cases u with
  |none=>rfl
  |some _=>exact(show False from r).elim
 |some _=>cases u with
  |none=>exact(show False from r).elim
  |some _=>rfl
theorem l5.getD {o:Option V}{u:Option Value}{d:V}{d':Value}(r:l5 o u)(rd:RelV d d'):RelV (o.getD d) (u.getD d'):=by
 cases o with
 |none=>cases u with
  |none=>exact rd
  |some _=>exact(show False from r).elim
 |some _=>cases u with
  |none=>exact(show False from r).elim
  |some _=>exact r
theorem KV.val {kvs:List (κ×V)}{vs:List (κ×Value)}(r:KV kvs vs)(k:κ):l5 (et kvs k) (valueAt vs k):=by
 unfold KV at r
 induction r with
 |nil=>exact Ts
 | @cons p q ps qs h t ih =>
  obtain⟨h1,h2⟩:=h
  by_cases e:p.1=k
  ·have e':q.1=k:=h1.symm.trans e;have b:valueAt (q::qs) k=some q.2:=by simp[valueAt,Sn,e']
   rw[df e,b];exact h2
  ·have e':¬q.1=k:=λz=>e (h1.trans z)
   have b:valueAt (q::qs) k=valueAt qs k:=by simp[valueAt,Sn,e']
   rw[bF e,b];exact ih
theorem KV.any {kvs:List (κ×V)}{vs:List (κ×Value)}(r:KV kvs vs)(k:κ):(kvs.any λkv=>decide (kv.1=k))=vs.any λkv=>decide (kv.1=k):=by
 unfold KV at r
 induction r with
 |nil=>rfl
 |cons h t ih=>rw[List.any_cons,List.any_cons,ih,h.1]
theorem KV.M7 {kvs:List (κ×V)}{vs:List (κ×Value)}(r:KV kvs vs)(k:κ){y:V}{u:Value}(ry:RelV y u) :
  KV (kvs.map λkv=>if kv.1=k then (kv.1,y) else kv) (vs.map λkv=>if kv.1=k then (kv.1,u) else kv):=by
 unfold KV at r ⊢
 induction r with
 |nil=>exact .nil
 | @cons p q ps qs h t ih =>
  rw[gr,gr];refine .cons ?_ ih;obtain⟨h1,h2⟩:=h
  by_cases e:p.1=k
  ·rw[if_pos e,if_pos (h1.symm.trans e)];exact⟨h1,ry⟩
  ·rw[if_neg e,if_neg (λz=>e (h1.trans z))];exact⟨h1,h2⟩
theorem KV.put {kvs:List (κ×V)}{vs:List (κ×Value)}(r:KV kvs vs)(k:κ){y:V}{u:Value}(ry:RelV y u):KV (putK kvs k y) (stored vs k u):=by
 unfold putK stored;rw[r.any k]
 by_cases e:(vs.any λkv=>decide (kv.1=k))=true
 ·rw[if_pos e,if_pos e];exact r.M7 k ry
 ·rw[if_neg e,if_neg e];exact Paired.snoc r ⟨rfl,ry⟩
theorem KV.drop {kvs:List (κ×V)}{vs:List (κ×Value)}(r:KV kvs vs)(k:κ):KV (fA kvs k) (without vs k):=by
 unfold KV at r ⊢;unfold fA without
 induction r with
 |nil=>exact .nil
 | @cons p q ps qs h t ih =>
  obtain⟨h1,h2⟩:=h;rw[List.filter_cons,List.filter_cons]
  by_cases e:p.1=k
  ·have a:¬decide (p.1≠k)=true:=by simp[e]
   have b:¬decide (q.1≠k)=true:=by simp[h1.symm.trans e]
   rw[if_neg a,if_neg b];exact ih
  ·have e':¬q.1=k:=λz=>e (h1.trans z)
   have a:decide (p.1≠k)=true:=by simp[e]
   have b:decide (q.1≠k)=true:=by simp[e']
   rw[if_pos a,if_pos b];exact .cons ⟨h1,h2⟩ ih
theorem KV.keys {kvs:List (κ×V)}{vs:List (κ×Value)}(r:KV kvs vs):kvs.map (·.1)=vs.map (·.1):=by
 unfold KV at r
 induction r with
 |nil=>rfl
 |cons h t ih=>rw[gr,gr,ih,h.1]
theorem KV.length {kvs:List (κ×V)}{vs:List (κ×Value)}(r:KV kvs vs):kvs.length=vs.length:=Paired.length r
theorem BU (kvs:List (κ×V))(k:κ):(fA kvs k).length<=kvs.length:=SM _ _
end
theorem vU {P:kr}{w:World}{k:Key}{u:Value}(r:RelV (kV k) u):(b8 P w).is k u=true:=by
 cases k with
 |inl i=>obtain⟨t,e⟩:=(show ∃t,u=Value.int i t from r);subst e;exact Bt P w i t
 |inr x=>obtain⟨t,e⟩:=(show ∃t,u=Value.str x t from r);subst e;exact Bu P w x t
theorem zb {P:kr}{w:World}:∀ {ks:List Key} {us:List Value},Vals (ks.map kV) us->ItemsAre (b8 P w) ks us
 |[],_,r=>by rw[Sq]at r;cases r;exact .nil
 |k::ks,_,r=>by
  rw[gr]at r;cases r with
  |cons h t=>exact .cons (vU h) (zb t)
abbrev KT (H:Hp):List (List Key×V)->List (List Key×Addr×Value)->Prop:=Paired λp q=>p.1=q.1/\H q.2.1=some (.tup (p.1.map kV))/\RelV p.2 q.2.2
theorem KT.val {H:Hp}{kvs:List (List Key×V)}{xs:List (List Key×Addr×Value)}(r:KT H kvs xs)(k:List Key):l5 (et kvs k) ((atKey xs k).map (·.2)):=by
 induction r with
 |nil=>exact Ts
 | @cons p q ps qs h t ih =>
  obtain⟨h1,_,h2⟩:=h
  by_cases e:p.1=k
  ·have e':q.1=k:=h1.symm.trans e;have b:atKey (q::qs) k=some q.2:=by simp[atKey,Sn,e']
   rw[df e,b];exact h2
  ·have e':¬q.1=k:=λz=>e (h1.trans z)
   have b:atKey (q::qs) k=atKey qs k:=by simp[atKey,Sn,e']
   rw[bF e,b];exact ih
theorem KT.M7 {H:Hp}{kvs:List (List Key×V)}{xs:List (List Key×Addr×Value)}(r:KT H kvs xs)(k:List Key){y:V}{u:Value}(ry:RelV y u) :
  KT H (kvs.map λkv=>if kv.1=k then (kv.1,y) else kv) (xs.map (putAt k u)):=by
 induction r with
 |nil=>exact .nil
 | @cons p q ps qs h t ih =>
  rw[gr,gr];refine .cons ?_ ih;obtain⟨h1,h2,h3⟩:=h;unfold putAt
  by_cases e:p.1=k
  ·rw[if_pos e,if_pos (h1.symm.trans e)];exact⟨h1,h2,ry⟩
  ·rw[if_neg e,if_neg (λz=>e (h1.trans z))];exact⟨h1,h2,h3⟩
theorem KT.put {H:Hp}{kvs:List (List Key×V)}{xs:List (List Key×Addr×Value)}(r:KT H kvs xs)(k:List Key){b:Addr}{y:V}{u:Value}(hb:H b=some (.tup (k.map kV)))(ry:RelV y u) :
  KT H (putK kvs k y) (storedH xs k b u):=by
 have e:(kvs.any λkv=>decide (kv.1=k))=(atKey xs k).isSome:=by
  rw[nv,(r.val k).o8,Option.isSome_map]
 unfold putK storedH;rw[e]
 by_cases q:(atKey xs k).isSome=true
 ·rw[if_pos q,if_pos q];exact r.M7 k ry
 ·rw[if_neg q,if_neg q];exact Paired.snoc r ⟨rfl,hb,ry⟩
theorem KT.keeps {H H':Hp}{kvs:List (List Key×V)}{xs:List (List Key×Addr×Value)}(r:KT H kvs xs)(ht:∀b ys,H b=some (.tup ys)->H' b=some (.tup ys)):KT H' kvs xs :=
 Paired.Ms r λ_ _ z=>⟨z.1,ht _ _ z.2.1,z.2.2⟩
section
variable{P:kr}{w:World}{H:Hp}{h:Heap}{a:Addr}
theorem L8 {u:HO}(ok:HOk P w H h)(e:Rd H a u):dO P w H h a u:=e.ok ok
theorem zc {kvs:List (Key×V)}(ok:HOk P w H h)(e:Rd H a (.dK kvs)):kvs.length<=fe/\(a == Ti)=false/\∃vs,KV kvs vs/\h.DictOf (b8 P w) a vs :=
 show dO P w H h a (.dK kvs) from L8 ok e
theorem vV {kvs:List (Key×V)}(ok:HOk P w H h)(e:H a=some (.dK kvs)):kvs.length<=fe/\(a == Ti)=false/\∃vs,KV kvs vs/\h.DictOf (b8 P w) a vs:=zc ok (.inl e)
theorem AA {ks:List Key}(ok:HOk P w H h)(e:H a=some (.tup (ks.map kV))):(tupleKind (b8 P w)).is h ks a:=by
 obtain⟨_,its,r,o,h1,h2,n,h3⟩:=(show dO P w H h a (.tup (ks.map kV)) from ok a _ e)
 exact⟨o,its.toArray,n,h1,h2,h3,by simpa using zb r⟩
theorem BV {kvs:List (List Key×V)}(ok:HOk P w H h)(e:Rd H a (.dT kvs)):kvs.length<=fe/\(a == Ti)=false /\
  ∃xs,KT H kvs xs/\h.DictOfH (tupleKind (b8 P w)) a xs:=by
 obtain⟨z,y,xs,r,o,es,ep,h1,h2,h3,h4,h5⟩:=(show dO P w H h a (.dT kvs) from L8 ok e)
 refine⟨z,y,xs,r,o,es,ep,h1,h2,h3,h4,λx hx=>?_,h5⟩
 have all:∀ {l:List (List Key×V)} {m:List (List Key×Addr×Value)},KT H l m->∀x∈m,(tupleKind (b8 P w)).is h x.1 x.2.1:=by
  intro l m q
  induction q with
  |nil=>intro x hx;exact nomatch hx
  | @cons p q ps qs hq t ih =>
   intro x hx;rcases List.mem_cons.mp hx with e | hx
   ·subst e;exact AA ok (by rw[<-hq.1];exact hq.2.1)
   ·exact ih x hx
 exact all r x hx
theorem O3 {kvs:List (List Key×V)}(ok:HOk P w H h)(e:H a=some (.dT kvs)):kvs.length<=fe/\(a == Ti)=false /\
  ∃xs,KT H kvs xs/\h.DictOfH (tupleKind (b8 P w)) a xs:=BV ok (.inl e)
end
def qj (H:Hp)(a:Addr)(y:V)(r:Option V):Prop :=
 (∃kvs k,Rd H a (.dK kvs)/\y=kV k/\r=et kvs k)\/∃kvs k b,Rd H a (.dT kvs)/\y=.ref b/\H b=some (.tup (k.map kV))/\r=et kvs k
def kQ (H:Hp)(a:Addr)(y v:V)(H':Hp):Prop :=
 (∃kvs k,H a=some (.dK kvs)/\y=kV k/\kvs.length < fe/\H'=upd H a (.dK (putK kvs k v))) \/
 ∃kvs k b,H a=some (.dT kvs)/\y=.ref b/\H b=some (.tup (k.map kV))/\kvs.length < fe/\H'=upd H a (.dT (putK kvs k v))
theorem qj.k {H:Hp}{a:Addr}{kvs:List (Key×V)}{k:Key}(e:H a=some (.dK kvs)):qj H a (kV k) (et kvs k):=.inl ⟨kvs,k,.inl e,rfl,rfl⟩
theorem qj.t {H:Hp}{a b:Addr}{kvs:List (List Key×V)}{k:List Key}(e:H a=some (.dT kvs))(eb:H b=some (.tup (k.map kV))):qj H a (.ref b) (et kvs k):=.inr ⟨kvs,k,b,.inl e,rfl,eb,rfl⟩
theorem kQ.k {H:Hp}{a:Addr}{kvs:List (Key×V)}{k:Key}{v:V}(e:H a=some (.dK kvs))(hl:kvs.length < fe):kQ H a (kV k) v (upd H a (.dK (putK kvs k v))):=.inl ⟨kvs,k,e,rfl,hl,rfl⟩
theorem kQ.t {H:Hp}{a b:Addr}{kvs:List (List Key×V)}{k:List Key}{v:V}(e:H a=some (.dT kvs))(eb:H b=some (.tup (k.map kV)))(hl:kvs.length < fe) :
  kQ H a (.ref b) v (upd H a (.dT (putK kvs k v))):=.inr ⟨kvs,k,b,e,rfl,eb,hl,rfl⟩
section
variable{X:Cx}{pins:List (Addr×Obj)}{σ:St}{H:Hp}{s:Shared}{a:Addr}{y v:V}{u r:Value}{o:Option V}{A:Around}{E:Value->Shared->Prop}
theorem Inv.big (I:Inv X pins σ H s):Ti < s.heap.objs.size:=by
 have h:mainGlobals < s.heap.objs.size:=(I.mod.glob.keeps I.bk).lt;exact Nat.lt_trans (by decide) h
theorem Gm {Q:Value->Shared->Prop}(hu:A.units+1 < cLine)(I:Inv X pins σ H s)(g:qj H a y (some v))(ry:RelV y u)(h:∀w' s',Inv X pins σ H s'->RelV v w'->Q w' s') :
  wpAny (model X.prog X.w) A (getItem (.ref a) u) Q E s:=by
 rcases g with ⟨kvs,k,e,ey,l⟩ | ⟨kvs,k,b,e,ey,eb,l⟩
 ·subst ey;obtain⟨z,hd,vs,rel,dd⟩:=zc I.hok e;obtain⟨w',hw,rw'⟩:=l5.some_of (v:=v) (o:=valueAt vs k) (by rw[l];exact rel.val k)
  exact wpAny_getItem_of (vU ry) dd.mapOf hw (h w' _ (I.tok _) rw')
 ·subst ey;cases (show u=RZ b from ry)
  obtain⟨z,hd,xs,rel,dd⟩:=BV I.hok e;obtain⟨w',hw,rw'⟩:=l5.some_of (v:=v) (o:=(atKey xs k).map (·.2)) (by rw[l];exact rel.val k)
  obtain⟨p,hp,hp2⟩:=Option.map_eq_some_iff.mp hw;refine wpAny_getItem_heap (tupleKind_room_in1 hu) (AA I.hok eb) dd hp ?_;rw[hp2];exact h w' _ (I.tok _) rw'
theorem KC {Q:Value->Shared->Prop}(hu:A.units+1 < cLine)(I:Inv X pins σ H s)(g:qj H a y o)(ry:RelV y u)(h:∀s',Inv X pins σ H s'->Q (.bool (!o.isSome)) s') :
  wpAny (model X.prog X.w) A (SH .NotIn u (.ref a)) Q E s:=by
 rcases g with ⟨kvs,k,e,ey,l⟩ | ⟨kvs,k,b,e,ey,eb,l⟩
 ·subst ey;obtain⟨z,hd,vs,rel,dd⟩:=zc I.hok e;refine wpAny_notIn_of (vU ry) hd dd.mapOf ?_;rw[<-(rel.val k).o8,<-l];exact h _ (I.tok _)
 ·subst ey;cases (show u=RZ b from ry)
  obtain⟨z,hd,xs,rel,dd⟩:=BV I.hok e;refine wpAny_notIn_heap (tupleKind_room_in1 hu) (AA I.hok eb) hd dd ?_;have q:=(rel.val k).o8;rw[Option.isSome_map]at q;rw[<-q,<-l];exact h _ (I.tok _)
theorem rB {h':Heap}{t':Nat}{ob:HO}(I:Inv X pins σ H s)(mu:Mut (H a))(hs:Heap.SameBut a s.heap h')(he:∃q,h'.get? a=some q)(new:dO X.prog X.w (upd H a ob) h' a ob) :
  Inv X pins σ (upd H a ob) { s with heap:=h',toks:=t' } :=
 I.write (x:=a) (e:=a) mu (.inl rfl) (λb q hb z=>(hs.2 b hb).trans z) he new
theorem AB {P:kr}{w:World}{H':Hp}{h':Heap}{kvs:List (Key×V)}{vs:List (Key×Value)}(z:kvs.length<=fe)(hd:(a == Ti)=false)(rel:KV kvs vs)(dd:h'.DictOf (b8 P w) a vs) :
  dO P w H' h' a (.dK kvs):=⟨z,hd,vs,rel,dd⟩
theorem Gn {H':Hp}{Q:Unit->Shared->Prop}(hu:A.units+1 < cLine)(I:Inv X pins σ H s)(g:kQ H a y v H')(ry:RelV y u)(rv:RelV v r)(h:∀s',Inv X pins σ H' s'->Q () s') :
  wpAny (model X.prog X.w) A (setItem (.ref a) u r) Q E s:=by
 rcases g with ⟨kvs,k,e,ey,l,eH⟩ | ⟨kvs,k,b,e,ey,eb,l,eH⟩
 ·subst ey eH;obtain⟨z,hd,vs,rel,dd⟩:=vV I.hok e;have hz:vs.length<=fe:=by rw[<-rel.length];exact z
  have hl:(putK kvs k v).length<=fe:=by have:=ny kvs k v;omega
  refine wpAny_setItem_pairs (hsz:=hz) (vU ry) dd λh' dd' hs=>h _ ?_
  have he:∃q,h'.get? a=some q:=let ⟨q,_,_,hq,_⟩:=dd';⟨q,hq⟩
  exact rB I (by rw[e];exact Ts) hs he (AB hl hd (rel.put k rv) dd')
 ·subst ey eH;cases (show u=RZ b from ry)
  obtain⟨z,hd,xs,rel,dd⟩:=O3 I.hok e;have hz:xs.length<=fe:=by rw[<-Paired.length rel];exact z
  have hl:(putK kvs k v).length<=fe:=by have:=ny kvs k v;omega
  refine wpAny_setItem_heap (hsz:=hz) (tupleKind_room_in1 hu) (AA I.hok eb) dd λh' dd' hs=>h _ ?_
  obtain⟨q,es,ep,hq,h2,h3,h4,_,h5⟩:=dd';refine rB I (by rw[e];exact Ts) hs ⟨q,hq⟩ ⟨hl,hd,_,(rel.put k eb rv).keeps λc ys ec=>?_,q,es,ep,hq,h2,h3,h4,h5⟩
  rw[ao (Ot ec e (λz=>nomatch z))]
  exact ec
end
section
variable{X:Cx}{pins:List (Addr×Obj)}{σ:St}{H:Hp}{s:Shared}{a:Addr}{kvs:List (Key×V)}{k:Key}{u:Value}{A:Around}{E:Value->Shared->Prop}
theorem Oq {Q:Unit->Shared->Prop}(I:Inv X pins σ H s)(e:H a=some (.dK kvs))(ry:RelV (kV k) u)(l:(et kvs k).isSome=true)(h:∀s',Inv X pins σ (upd H a (.dK (fA kvs k))) s'->Q () s') :
  wpAny (model X.prog X.w) A (delItem (.ref a) u) Q E s:=by
 obtain⟨z,hd,vs,rel,dd⟩:=vV I.hok e;refine wpAny_delItem_slot dd.typeIs (by decide) PySem.F.slot_dict_delitem
  (call_meetsIn PySem.F.slot_dict_delitem dd.typeIs PySem.F.entry_dict_delitem (PySem.F.args_dict_delitem_2 _ _) (meets_dict_delitem_pairs (b8 X.prog X.w) a (vU ry)) ⟨vs,dd,by rw[<-rel.length];exact z,by rw[<-(rel.val k).o8];exact l,λh' dd' hs=>h _ ?_⟩)
 have he:∃q,h'.get? a=some q:=let ⟨q,_,_,hq,_⟩:=dd';⟨q,hq⟩
 exact rB I (by rw[e];exact Ts) hs he (AB (ku (BU kvs k) z) hd (rel.drop k) dd')
theorem O4 {v:V}{more:List Value}{Q:Value->Shared->Prop}(I:Inv X pins σ H s)(e:H a=some (.dK kvs))(ry:RelV (kV k) u)(l:et kvs k=some v)(hm:more=[]\/∃x,more=[x])
  (h:∀w' s',Inv X pins σ (upd H a (.dK (fA kvs k))) s'->RelV v w'->Q w' s'):wpAny (model X.prog X.w) A (call (.builtin "dict.pop") (.ref a::u::more)) Q E s:=by
 obtain⟨z,hd,vs,rel,dd⟩:=vV I.hok e;obtain⟨w',hw,rw'⟩:=l5.some_of (v:=v) (o:=valueAt vs k) (by rw[<-l];exact rel.val k)
 have hp:(keyPart u).isSome=true:=by
  cases k with
  |inl i=>obtain⟨t,q⟩:=(show ∃t,u=Value.int i t from ry);subst q;rfl
  |inr x=>obtain⟨t,q⟩:=(show ∃t,u=Value.str x t from ry);subst q;rfl
 have ha:argsOk "dict.pop" ⟨.ref a::u::more,[]⟩:=by
  rcases hm with q | ⟨x,q⟩
  ·subst q;exact PySem.F.args_dict_pop_2 _ _
  ·subst q;exact PySem.F.args_dict_pop_3 _ _ _
 refine call_meetsIn PySem.F.slot_dict_pop dd.typeIs PySem.F.entry_dict_pop ha (meets_dict_pop_there (b8 X.prog X.w) a (vU ry) more hm hp)
  ⟨vs,w',dd,by rw[<-rel.length];exact z,hw,λh' dd' hs=>h w' _ ?_ rw'⟩
 have he:∃q,h'.get? a=some q:=let ⟨q,_,_,hq,_⟩:=dd';⟨q,hq⟩
 exact rB I (by rw[e];exact Ts) hs he (AB (ku (BU kvs k) z) hd (rel.drop k) dd')
theorem O5 {Q:Value->Shared->Prop}(I:Inv X pins σ H s)(e:Rd H a (.dK kvs))(h:∀t s',Inv X pins σ H s'->Q (.int kvs.length t) s'):wpAny (model X.prog X.w) A (call (.builtin "len") [.ref a]) Q E s:=by
 obtain⟨z,hd,vs,rel,dd⟩:=zc I.hok e;refine call_len_dict hd dd (by rw[<-rel.length];rw[sizeLine_eq]at z;omega) ?_
 rw[<-rel.length];exact h _ _ (I.tok _)
end
def O6 (i:Expr):Prop:=∀ov iv,subscripted i false ov iv=operate [ov,iv] (getItem ov iv)
theorem KD {prog:kr}{w:World}{A:Around}{E:Value->Shared->Prop}{s:Shared}{env:Env}{value slice:Expr}{pos:Pos}{T id:String}{Q:Value->Shared->Prop}
  (hl:typeLookup (.type T) "__getitem__"=pure (some (.builtin id))) (hs:O6 slice)
  (h:wpAny (model prog w) A (eval value env) (λo s₁=>wpAny (model prog w) A (eval slice env) (λi s₂=>s₂.TypeIs o T/\wpAny (model prog w) A (getItem o i) Q E s₂) E s₁) E s) :
  wpAny (model prog w) A (eval (.Subscript value slice pos) env) Q E s:=by
 refine Subscript_ (om h (λo s₁ h₁=>om h₁ (λi s₂ h₂=>?_) λ_ _ x=>x) λ_ _ x=>x)
 obtain⟨hT,h₂⟩:=h₂;unfold subscriptTail;refine cb ?_;rw[getitemInPython_of_ne hT.not_modules];refine cb (wpAny_specialOf hT hl ?_);have fin:wpAny (model prog w) A (subscripted slice false o i) (λr s₃=>wpAny (model prog w) A (letTemporaryGo value o r >>= λ_=>pure r) Q E s₃) E s₂:=by
  rw[hs o i];exact wpAny_operating (om h₂ (λr s₃ h₃=>cb (wpAny_letTemporaryGo (me h₃))) λ_ _ x=>x)
 first
  |exact me (cb fin)
  |exact cb (me (cb fin))
  |exact cb fin
theorem BW {X:Cx}{pins:List (Addr×Obj)}{σ:St}{H:Hp}{s:Shared}{a:Addr}{y:V}{o:Option V}(I:Inv X pins σ H s)(g:qj H a y o):s.TypeIs (.ref a) "dict":=by
 rcases g with ⟨kvs,k,e,_,_⟩ | ⟨kvs,k,b,e,_,_,_⟩
 ·obtain⟨_,_,vs,_,dd⟩:=zc I.hok e;exact dd.typeIs
 ·obtain⟨_,_,xs,_,dd⟩:=BV I.hok e;exact dd.typeIs
def O7 (td ty:TE):TE:=λσ H Q=>td σ H λx H1=>ty σ H1 λy H2=>∃a v,x=.ref a/\qj H2 a y (some v)/\Q v H2
def KG (ty td:TE):TE:=λσ H Q=>ty σ H λy H1=>td σ H1 λx H2=>∃a o,x=.ref a/\qj H2 a y o/\Q (.bl (!o.isSome)) H2
def O8 (td ty tv:TE):TS:=λD σ H=>tv σ H λv H1=>td σ H1 λx H2=>ty σ H2 λy H3=>∃a H4,x=.ref a/\kQ H3 a y v H4/\D.nx σ H4
section
variable{X:Cx}{o i e value:Expr}{pos pos' QO:Pos}{td ty tv:TE}
theorem aY (hu:X.A.units+1 < cLine)(ho:PE X o td)(hi:PE X i ty)(hs:O6 i):PE X (.Subscript o i pos) (O7 td ty):=by
 intro pins s σ H Q I h;refine KD PySem.F.slot_dict_getitem.lookup hs (thn (ho pins s σ H _ I h) λu s1 ⟨x,H1,I1,rx,q1⟩=>thn (hi pins s1 σ H1 _ I1 q1) λiv s2 ⟨y,H2,I2,ry,a,v,ex,g,q2⟩=>?_)
 subst ex;obtain rfl:u=RZ a:=rx;exact⟨BW I2 g,Gm hu I2 g ry λw' s3 I3 rw'=>⟨v,H2,I3,rw',q2⟩⟩
theorem sV (hu:X.A.units+1 < cLine)(hi:PE X i ty)(ho:PE X o td):PC X .NotIn i o (KG ty td):=by
 intro pins s σ H Q I h;refine thn (hi pins s σ H _ I h) λiv s1 ⟨y,H1,I1,ry,q1⟩=>thn (ho pins s1 σ H1 _ I1 q1) λu s2 ⟨x,H2,I2,rx,a,ov,ex,g,q2⟩=>?_
 subst ex;obtain rfl:u=RZ a:=rx;exact KC hu I2 g ry λs3 I3=>⟨.bl (!ov.isSome),H2,I3,rfl,q2⟩
theorem eX (hu:X.A.units+1 < cLine)(ho:PE X o td)(hi:PE X i ty)(hv:PE X value tv)(hs:swapsWith value (some (.Subscript o i pos')) pos.line X.env=pure false) :
  PS X (.Assign [.Subscript o i pos'] value pos) (O8 td ty tv):=by
 intro pins s σ H D I h;refine wpAny_Assign_Subscript (thn (hv pins s σ H _ I h) λr s1 ⟨v,H1,I1,rv,q1⟩=>thn (ho pins s1 σ H1 _ I1 q1) λu s2 ⟨x,H2,I2,rx,q2⟩=>thn (hi pins s2 σ H2 _ I2 q2) λiv s3 ⟨y,H3,I3,ry,a,H4,ex,g,q3⟩=>?_) hs
 subst ex;obtain rfl:u=RZ a:=rx;exact Gn hu I3 g ry rv λs4 I4=>⟨σ,H4,I4,q3⟩
end
theorem BX {P:kr}{w:World}{H:Hp}(h:Heap)(hb:Ti < h.objs.size):dO P w H (h.push { cls:=.type "dict",data:=.dict #[] }) h.objs.size (.dK []) :=
 ⟨Sl _,beq_eq_false_iff_ne.mpr (R4 (wa hb)),[],.nil,Heap.DictOf.new h⟩
def M8:TE:=λ_ H Q=>∀p,H p=none->Q (.ref p) (upd H p (.dK []))
section
variable{X:Cx}{pos:Pos}
theorem kR:PE X (.Dict [] [] pos) M8:=λpins s σ H Q I h =>
 wpAny_Dict_empty ⟨.ref s.heap.objs.size,_,I.laid (a:=s.heap.objs.size) (o:=.dK []) (t':=s.toks) (λ_ _ q=>da _ q) (gn _) (BX s.heap I.big),rfl,h _ (I.hok.fresh (gn _))⟩
end
def DZ:List (TE×TE)->St->Hp->(List (V×V)->Hp->Prop)->Prop
 |[],_,H,Q=>Q [] H
 | (tk,tv)::r,σ,H,Q=>tk σ H λx H1=>tv σ H1 λy H2=>DZ r σ H2 λps H3=>Q ((x,y)::ps) H3
abbrev VV:List (V×V)->List (Value×Value)->Prop:=Paired λp q=>RelV p.1 q.1/\RelV p.2 q.2
def PPs (X:Cx)(pos:Pos)(keys:List (Option Expr))(values:List Expr)(trs:List (TE×TE)):Prop :=
 ∀(pins:List (Addr×Obj)) (s:Shared) (σ:St) (H:Hp) (Q:List (V×V)->Hp->Prop),Inv X pins σ H s->DZ trs σ H Q ->
  wpAny (model X.prog X.w) X.A (evalPairs (pairTrees keys values X.env pos)) (λvs s'=>∃ps H',Inv X pins σ H' s'/\VV ps vs/\Q ps H') X.xe s
theorem KH {X:Cx}{pos:Pos}:PPs X pos [] [] []:=λpins s σ H Q I h=>pairTrees_nil_walk ⟨[],H,I,.nil,h⟩
theorem kS {X:Cx}{pos:Pos}{k v:Expr}{ks:List (Option Expr)}{vs:List Expr}{tk tv:TE}{trs:List (TE×TE)}(hk:PE X k tk)(hv:PE X v tv)(hr:PPs X pos ks vs trs) :
  PPs X pos (some k::ks) (v::vs) ((tk,tv)::trs):=λpins s σ H Q I h =>
 pairTrees_cons_walk (thn (hk pins s σ H _ I h) λu s1 ⟨x,H1,I1,rx,q1⟩=>thn (hv pins s1 σ H1 _ I1 q1) λw2 s2 ⟨y,H2,I2,ry,q2⟩ =>
  thn (hr pins s2 σ H2 _ I2 q2) λws s3 ⟨ps,H3,I3,rel,q3⟩=>⟨(x,y)::ps,H3,I3,.cons ⟨rx,ry⟩ rel,q3⟩)
def sW (kvs more:List (Key×V)):List (Key×V):=more.foldl (λacc kv=>putK acc kv.1 kv.2) kvs
theorem KV.merge:∀ {more:List (Key×V)} {rs:List (Key×Value)} {kvs:List (Key×V)} {vs:List (Key×Value)},KV more rs->KV kvs vs->KV (sW kvs more) (merged vs rs):=by
 intro more rs kvs vs r;unfold KV at r
 induction r generalizing kvs vs with
 |nil=>intro q;exact q
 | @cons p q ps qs h t ih =>
  intro r0;have e:KV (putK kvs p.1 p.2) (stored vs q.1 q.2):=by
   have:=r0.put p.1 h.2;rw[<-h.1];exact this
  exact ih e
theorem pO:∀(more kvs:List (Key×V)),(sW kvs more).length<=kvs.length+more.length
 |[],kvs=>by show kvs.length<=kvs.length+0;omega
 |p::r,kvs=>by
  have h1:=pO r (putK kvs p.1 p.2);have h2:=ny kvs p.1 p.2;show (sW (putK kvs p.1 p.2) r).length<=_;rw[rf];omega
theorem vW {P:kr}{w:World}:∀ {kvs:List (Key×V)} {ws:List (Value×Value)},VV (kvs.map λkv=>(kV kv.1,kv.2)) ws->∃rs,Carries (b8 P w) ws rs/\KV kvs rs
 |[],_,r=>by rw[Sq]at r;cases r;exact⟨[],Ts,.nil⟩
 |p::kvs,_,r=>by
  rw[gr]at r;cases r with
  | @cons a b as bs h t =>
   obtain⟨rs,c,q⟩:=vW (P:=P) (w:=w) t;obtain⟨b1,b2⟩:=b;exact⟨(p.1,b2)::rs,⟨vU h.1,rfl,c⟩,.cons ⟨rfl,h.2⟩ q⟩
def O9 (trs:List (TE×TE)):TE:=λσ H Q=>∀p,H p=none->DZ trs σ (upd H p (.dK [])) λps H2=>H2 p=some (.dK [])/\∃kvs:List (Key×V),ps=kvs.map (λkv=>(kV kv.1,kv.2))/\kvs.length<=15/\Q (.ref p) (upd H2 p (.dK (sW [] kvs)))
theorem KI {X:Cx}{pos:Pos}{keys:List (Option Expr)}{values:List Expr}{trs:List (TE×TE)}(h:PPs X pos keys values trs)(MN:keys.all (·.isSome)=true)(hl:keys.length=values.length)(h0:keys≠[])
  (h15:keys.length<=15):PE X (.Dict keys values pos) (O9 trs):=by
 intro pins s σ H Q I q;have hn:=I.hok.fresh (gn s.heap.objs.size);have I1:=I.laid (a:=s.heap.objs.size) (o:=.dK []) (h':=s.heap.push { cls:=.type "dict",data:=.dict #[] }) (t':=s.toks) (λ_ _ q=>da _ q) (gn _) (BX s.heap I.big)
 refine wpAny_Dict_walk (knd:=b8 X.prog X.w) MN hl h0 h15 (thn (h pins _ σ _ _ I1 (q _ hn)) λws s2 ⟨ps,H2,I2,rel,e,kvs,ep,lk,q2⟩=>?_)
 subst ep;obtain⟨rs,c,rk⟩:=vW (P:=X.prog) (w:=X.w) rel;obtain⟨z,hd,vs0,r0,dd⟩:=vV I2.hok e;cases r0;refine⟨rs,c,dd,λh' dd' hs=>⟨.ref s.heap.objs.size,_,?_,rfl,q2⟩⟩
 have hz:(sW [] kvs).length<=fe:=by
  have h1:=pO kvs [];rw[TR]at h1;rw[sizeLine_eq];omega
 have he:∃q,h'.get? s.heap.objs.size=some q:=let ⟨q,_,_,hq,_⟩:=dd';⟨q,hq⟩
 exact rB I2 (by rw[e];exact Ts) hs he (AB hz hd (rk.merge .nil) dd')
structure M1 (X:Cx)(o:Expr)(m:Str)(apos:Pos)(e:Expr)(dY:Pos):Prop where
 base:attributeBase o m X.env (eval o X.env)=eval o X.env
 few:((backTo dY (Lk [e] X.env)).all (λx=>!x.1) && (backToKw dY (keywordEach [] X.env)).all (λx=>x.1.isSome)
  && decide (([e]:List Expr).length+([]:List Keyword).length+(if ([]:List Keyword).isEmpty then 0 else 1) < 30))=true
 line:(apos.endLine == dY.line)=true
 trees:backTo dY (Lk [e] X.env)=[(false,eval e X.env)]
structure M2 (X:Cx)(o:Expr)(m:Str)(apos:Pos)(e f:Expr)(dY:Pos):Prop where
 base:attributeBase o m X.env (eval o X.env)=eval o X.env
 few:((backTo dY (Lk [e,f] X.env)).all (λx=>!x.1) && (backToKw dY (keywordEach [] X.env)).all (λx=>x.1.isSome)
  && decide (([e,f]:List Expr).length+([]:List Keyword).length+(if ([]:List Keyword).isEmpty then 0 else 1) < 30))=true
 line:(apos.endLine == dY.line)=true
 trees:backTo dY (Lk [e,f] X.env)=[(false,eval e X.env),(false,eval f X.env)]
def IsD (H:Hp)(a:Addr):Prop:=(∃kvs,Rd H a (.dK kvs))\/∃kvs,Rd H a (.dT kvs)
theorem M9 {X:Cx}{pins:List (Addr×Obj)}{σ:St}{H:Hp}{s:Shared}{a:Addr}(I:Inv X pins σ H s)(d:IsD H a) :
  s.TypeIs (.ref a) "dict"/\(∀b,RZ a=.ref b->∃ob,s.heap.get? b=some ob/\ob.dict=none)/\(a == Ti)=false:=by
 rcases d with ⟨kvs,e⟩ | ⟨kvs,e⟩
 ·obtain⟨_,hd,vs,_,dd⟩:=zc I.hok e;refine⟨dd.typeIs,λb q=>?_,hd⟩
  cases q;obtain⟨ob,_,_,h1,h2,_⟩:=dd;exact⟨ob,h1,h2.2.1⟩
 ·obtain⟨_,hd,xs,_,dd⟩:=BV I.hok e;refine⟨dd.typeIs,λb q=>?_,hd⟩
  cases q;obtain⟨ob,_,_,h1,h2,_⟩:=dd;exact⟨ob,h1,h2.2.1⟩
def Na (td ty:TE):TE:=λσ H Q=>td σ H λx H1=>∃a,x=.ref a/\IsD H1 a/\ty σ H1 λy H2=>∃kvs k v,H2 a=some (.dK kvs)/\y=kV k/\et kvs k=some v/\Q v (upd H2 a (.dK (fA kvs k)))
section
variable{X:Cx}{o e f:Expr}{apos dY:Pos}{td ty tx:TE}
theorem BY (ho:PE X o td)(he:PE X e ty)(m:M1 X o "pop" apos e dY):PE X (.Call (.Attribute o "pop" apos) [e] [] dY) (Na td ty):=by
 intro pins s σ H Q I h;refine wpAny_Call_method m.base m.few m.line PySem.F.plainAttrs_dict PySem.F.slot_dict_pop PySem.F.type_dict_pop (thn (ho pins s σ H _ I h) λu s1 ⟨x,H1,I1,rx,a,ex,d,q1⟩=>?_)
 subst ex;obtain rfl:u=RZ a:=rx;obtain⟨t1,t2,_⟩:=M9 I1 d;refine⟨t1,t2,?_⟩;rw[m.trees];refine Calls.callWith_builtin rfl (Calls.evalArgs_plain (Calls.spliced_cons (thn (he pins s1 σ H1 _ I1 q1) λiv s2 ⟨y,H2,I2,ry,kvs,k,v,ea,ey,l,q2⟩=>Calls.spliced_nil ?_)))
 subst ey;exact O4 I2 ea ry l (.inl rfl) λw' s3 I3 rw'=>⟨v,_,I3,rw',q2⟩
end
section
variable{X:Cx}
theorem zd:gS X (.builtin "len") (λxs H Q=>∃a kvs,xs=[V.ref a]/\H a=some (.dK kvs)/\Q (.int kvs.length) H):=by
 intro pins s σ H xs us Q I r h;obtain⟨a,kvs,rfl,ha,q⟩:=h;obtain⟨u,rfl,ru⟩:=vals1 r;cases ru;exact O5 I (.inl ha) λt s' I'=>⟨.int kvs.length,H,I',⟨t,rfl⟩,q⟩
end
theorem Room.u1 {k:Nat}{A:Around}(r:Room k A):A.units+1 < cLine:=by have:=r.un;omega
theorem KJ {X:Cx}{K:bo}{e:Expr}{f:Str}{pos:Pos}{ta:TE}(ek:X.K=K)(he:PE X e ta)(hb:attributeBase e f X.env (eval e X.env)=eval e X.env):PE X (.Attribute e f pos) (OH K ta f):=by
 subst ek;exact a9 he hb
theorem ints_of:∀(l:List Value) (ns:List Int),l.length=ns.length->(∀(j:Nat) (v:Value),l[j]?=some v->∃n t,ns[j]?=some n/\v=Value.int n t)->IntsAre l ns
 |[],[],_,_=>.nil
 |[],_::_,h,_=>nomatch h
 |_::_,[],h,_=>nomatch h
 |v::l,n::ns,h,g=>by
  obtain⟨n',t,e1,e2⟩:=g 0 v rfl;have e3:n=n':=by simpa using e1
  subst e3;subst e2;exact .cons n t (ints_of l ns (by simpa using h) λj v hv=>g (j+1) v (by simpa using hv))
theorem BZ:∀ {vs:List Value} {ns:List Int},IntsAre vs ns->Vals (ns.map V.int) vs
 |_,_,.nil=>.nil
 |_,_,.cons n t h=>.cons ⟨t,rfl⟩ (BZ h)
theorem L9 {κ:Type}:∀ {kvs:List (κ×V)} {vs:List (κ×Value)},KV kvs vs->∀(j:Nat) (q:κ×Value),vs[j]?=some q->(kvs.map (·.1))[j]?=some q.1
 |_,_,.nil,j,q,h=>by simp at h
 |_,_,.cons a r,0,q,h=>by
  rw[Sa]at h;cases h;rw[gr,Sa,a.1]
 |_,_,.cons a r,j+1,q,h=>by
  have:=L9 r j q (by simpa using h)
  simpa using this
theorem KL {P:kr}{w:World}{n:Int}{v:Value}(h:(b8 P w).is (ki n) v=true):∃t,v=Value.int n t:=by
 rcases cw (k:=ki n) (v:=v) (show vA (ki n) v=true from h) with ⟨i,t,e,rfl⟩ | ⟨x,t,e,rfl⟩
 ·cases e;exact⟨t,rfl⟩
 ·cases e
theorem l8 {X:Cx}(hh:X.A.handled=none):gS X (.builtin "sorted") (λxs H Q=>∃a kvs ns,xs=[V.ref a]/\H a=some (.dK kvs)/\kvs.map (·.1)=ns.map ki/\ns.length < 64 /\
  ∀l ns',Tx ns' ns->ns'.Pairwise (·<=·)->H l=none->Q (.ref l) (upd H l (.lst (ns'.map V.int)))):=by
 intro pins s σ H xs us Q I r h;obtain⟨a,kvs,ns,rfl,ha,hk,h64,q⟩:=h;obtain⟨u,rfl,ru⟩:=vals1 r;cases ru;obtain⟨z,hd,vs,rel,dd⟩:=vV I.hok ha;obtain⟨ep,hat⟩:=dd.dictAt;have hlen:vs.length=ns.length:=by
  have e1:=congrArg List.length hk;simp only[ba]at e1;rw[<-rel.length];exact e1
 refine Calls.call_function_entry kind_sorted plain_sorted entry_sorted (args_sorted1 _) ?_;unfold Builtin.«sorted»;refine cb (m:=checkCount "sorted" 1 1 _) (me ?_);refine cb (PySem.W.kdu_collect (A:=X.A.in1) (PySem.W.kdl_dict (knd:=b8 X.prog X.w) (kvs:=vs) (ep:=ep) hd) hh hat (by rw[<-rel.length];exact z) λh' tk acc kp BN=>?_)
 have hsz:acc.toList.length=ns.length:=by rw[TL];exact BN.1.trans hlen
 have hI:IntsAre acc.toList ns:=ints_of _ _ hsz λj v hv=>by
  obtain⟨k,x,hx,hkv⟩:=BN.2 j v (by rw[<-Array.getElem?_toList];exact hv)
  have e:=L9 rel j _ hx;rw[hk,R0]at e;cases en:ns[j]? with
  |none=>rw[en]at e;cases e
  |some n =>
   rw[en]at e;have e':ki n=k:=by simpa using e
   subst e';obtain⟨t,rfl⟩:=KL hkv;exact⟨n,t,rfl,rfl⟩
 refine cb (wpAny_newList ?_ (by rw[hsz];rw[sizeLine_eq];omega))
 have hoL:(h'.push (seqObj "list" acc.toList.toArray 0)).get? h'.objs.size=some (seqObj "list" acc.toList.toArray 0):=wt _ rfl;refine cb (wpAny_holding (wpAny_call_entry slot_list_sort ⟨_,hoL,rfl⟩ entry_list_sort (list_sort_tree hoL hI (by omega) λout ns' a1 a2 a3=>⟨_,rfl,?_⟩) (args_list_sort _)))
 refine me ⟨_,rfl,?_⟩;obtain⟨e,he⟩:=sortedHeap_at (out:=out) hoL;have I1:Inv X pins σ H { s with heap:=h',toks:=tk }:=I.un (Un.kept kp) (I.hok.kept kp)
 refine⟨.ref h'.objs.size,_,I1.laid (t':=tk) (λb o hb=>?_) (gn _) (show dO X.prog X.w _ _ _ (.lst (ns'.map V.int)) from ⟨?_,_,e,BZ a1,?_⟩),rfl,q _ ns' a2 a3 (I1.hok.fresh (gn _))⟩
 ·have hb':h'.get? b=some o:=hb;have hlt:=kx hb';rw[sortedHeap_old (wa hlt) (by rw[size_push'];exact TB hlt)]
  exact da _ hb'
 ·rw[ba,a2.length_eq,sizeLine_eq];omega
 ·rw[Array.toArray_toList];exact he
theorem sX:SR "sorted"=some (.builtin "sorted"):=by trivial
theorem KN {X:Cx}(hu:X.A.units+1 < cLine):OpR X (SH .NotEq) (λx y H Q=>∃a b kvs,x=.ref a/\y=.ref b/\H a=some (.dK kvs)/\H b=some (.dK [])/\Q (.bl (!kvs.isEmpty)) H):=by
 intro pins s σ H x y v u Q I rx ry h;obtain⟨a,b,kvs,rfl,rfl,ha,hb,q⟩:=h;cases rx;cases ry;obtain⟨_,h1,vs,r1,d1⟩:=vV I.hok ha;obtain⟨_,h2,ws,r2,d2⟩:=vV I.hok hb;cases r2;refine PySem.W.keq_ne (knd:=b8 X.prog X.w) (r:=true) h1 h2 d1 d2 (by omega) (λe=>?_) ⟨.bl _,H,I,?_,q⟩
 ·have:vs=[]:=List.length_eq_zero_iff.mp e;subst this;exact .nil
 ·have hl:=r1.length;cases kvs with
  |nil =>
   have:vs=[]:=List.length_eq_zero_iff.mp (by rw[<-hl];rfl)
   subst this;rfl
  |cons p r =>
   cases vs with
   |nil=>simp at hl
   |cons _ _=>rfl
theorem PSX.ps {X:Cx}{st:Stmt}{t:TSX}(h:PSX X st t):PS X st (λD σ H=>t D (λ_=>E0) σ H):=λpins s σ H D I hw =>
 om (h pins s σ H D (λ_=>E0) I hw) (λ_ _ z=>z) λ_ _ ⟨_,_,_,_,_,_,_,_,_,_,z⟩=>z.elim
theorem yy {X:Cx}{K:bo}(ek:X.K=K):gS X (.type "list") (λxs H Q=>∃p ys,xs=[.ref p]/\(SqL K H p ys\/SqT K H p ys)/\∀l,H l=none->Q (.ref l) (upd H l (.lst ys))):=by
 subst ek;exact bA
theorem aL {P:Prop}(h:∀G:Prop,(P->G)->G):P:=h P id
theorem ixv {s:Option (Option V)}{p:Addr}{n:Int}{S:Addr->List V->Prop}{xs:List V}{z:V}{R:V->Prop}(h0:s=some (some (.ref p)))(h1:S p xs)(h2:atI xs n=some z)(h:R z):∃v,s=some (some v)/\∃q ys i w,v=.ref q/\V.int n=.int i/\S q ys/\atI ys i=some w/\R w :=
 ⟨_,h0,p,xs,n,z,rfl,rfl,h1,h2,h⟩
theorem cU {K:bo}{s:Option (Option V)}{H:Hp}{a C dx:Addr}{fs:List (Str×V)}{f:Str}{w:V}{R:V->Prop}(h0:s=some (some (.ref a)))(h1:H a=some (.ins C dx fs))(h2:Cls K C)(h3:cn K C f)(h4:fs.lookup f=some w)(h:R w) :
  ∃v,s=some (some v)/\∃a C dx fs w,v=.ref a/\H a=some (.ins C dx fs)/\Cls K C/\cn K C f/\fs.lookup f=some w/\R w:=⟨_,h0,a,C,dx,fs,w,rfl,h1,h2,h3,h4,h⟩
theorem dgv {s:Option (Option V)}{a:Addr}{v:V}{D:Addr->V->Prop}{R:V->Prop}(h0:s=some (some (.ref a)))(h1:D a v)(h:R v):∃x,s=some (some x)/\∃a v,x=.ref a/\D a v/\R v:=⟨_,h0,a,v,rfl,h1,h⟩
theorem mtv {s:Option (Option V)}{H:Hp}{a C dx:Addr}{fs:List (Str×V)}{m:Str}{R:V->Prop}(h0:s=some (some (.ref a)))(h1:H a=some (.ins C dx fs))(h2:fs.lookup m=none)(h:R (.ref a)) :
  ∃v,s=some (some v)/\∃a dx fs,v=.ref a/\H a=some (.ins C dx fs)/\fs.lookup m=none/\R v:=⟨_,h0,a,dx,fs,rfl,h1,h2,h⟩
theorem tsf {b:Bool}{P Q:Prop}(h:b=false)(q:Q):∃k,V.bl b=.bl k/\if k=true then P else Q:=⟨b,rfl,by rw[h];exact q⟩
theorem tst {b:Bool}{P Q:Prop}(h:b=true)(q:P):∃k,V.bl b=.bl k/\if k=true then P else Q:=⟨b,rfl,by rw[h];exact q⟩
def scB (N P:List Str)(sc:Scope):Bool:=(match sc.kind with | .function=>true | _=>false) && !sc.isCoroutine && !sc.isGenerator && decide N.Nodup && decide (N.take P.length=P) && decide (∀x∈P,sc.names.lookup x=some .local\/sc.names.lookup x=some .cell) && decide (∀y∈sc.names,y.2≠.free)
theorem fsc {N P:List Str}{sc:Scope}(h:scB N P sc=true):aO N P sc:=by
 unfold scB at h;simp only[SE,Bool.not_eq_true',decide_eq_true_eq]at h;obtain⟨⟨⟨⟨⟨⟨h1,h2⟩,h3⟩,h4⟩,h5⟩,h6⟩,h7⟩:=h;refine⟨?_,h2,h3,h4,h5,h6,h7⟩;split at h1
 ·assumption
 ·cases h1
end L2
namespace My
open PySem L2
seal PySem.wpAny
def top (i:Nat):Stmt:=PySem.Challenge.pw_moot_k21_two_chambers.main.body.getD i (.Pass ⟨0,0,0,0⟩)
abbrev pP:Stmt:=inClass (top 22) 1
theorem vX:aO ["self"] ["self"] (ay pP):=fsc (by trivial)
abbrev pQ:Stmt:=inClass (top 23) 1
theorem vY:aO ["self"] ["self"] (ay pQ):=fsc (by trivial)
abbrev uu:Stmt:=inClass (top 24) 1
theorem AD:aO ["self"] ["self"] (ay uu):=fsc (by trivial)
abbrev pR:Stmt:=inClass (top 25) 1
theorem vZ:aO ["self"] ["self"] (ay pR):=fsc (by trivial)
abbrev rC:Stmt:=inClass (top 26) 0
theorem yz:aO ["self"] ["self"] (ay rC):=fsc (by trivial)
abbrev wb:Stmt:=inClass (top 27) 0
theorem B0:aO ["self"] ["self"] (ay wb):=fsc (by trivial)
abbrev uv:Stmt:=inClass (top 28) 0
theorem AE:aO ["self"] ["self"] (ay uv):=fsc (by trivial)
abbrev rD:Stmt:=inClass (top 29) 1
theorem yA:aO ["self"] ["self"] (ay rD):=fsc (by trivial)
abbrev pS:Stmt:=inClass (top 21) 1
theorem wc:aO ["self"] ["self"] (ay pS):=fsc (by trivial)
abbrev pT:Stmt:=inClass (top 21) 2
theorem we:aO ["self"] ["self"] (ay pT):=fsc (by trivial)
abbrev rE:Stmt:=inClass (top 26) 1
theorem yB:aO ["self"] ["self"] (ay rE):=fsc (by trivial)
abbrev pU:Stmt:=inClass (top 21) 3
theorem wg:aO ["self"] ["self"] (ay pU):=fsc (by trivial)
abbrev pV:Stmt:=inClass (top 22) 2
theorem wj:aO ["self"] ["self"] (ay pV):=fsc (by trivial)
abbrev pW:Stmt:=inClass (top 23) 2
theorem wk:aO ["self"] ["self"] (ay pW):=fsc (by trivial)
abbrev uw:Stmt:=inClass (top 24) 2
theorem AF:aO ["self"] ["self"] (ay uw):=fsc (by trivial)
abbrev pX:Stmt:=inClass (top 25) 2
theorem wm:aO ["self"] ["self"] (ay pX):=fsc (by trivial)
abbrev rF:Stmt:=inClass (top 29) 2
theorem yC:aO ["self"] ["self"] (ay rF):=fsc (by trivial)
abbrev pY:Stmt:=inClass (top 22) 0
theorem wo:aO ["self","text"] ["self","text"] (ay pY):=fsc (by trivial)
abbrev pZ:Stmt:=inClass (top 23) 0
theorem wq:aO ["self","edit"] ["self","edit"] (ay pZ):=fsc (by trivial)
abbrev ux:Stmt:=inClass (top 24) 0
theorem AG:aO ["self","edit"] ["self","edit"] (ay ux):=fsc (by trivial)
abbrev p6:Stmt:=inClass (top 25) 0
theorem wu:aO ["self","sitting"] ["self","sitting"] (ay p6):=fsc (by trivial)
abbrev rG:Stmt:=inClass (top 29) 0
theorem yD:aO ["self","clause"] ["self","clause"] (ay rG):=fsc (by trivial)
abbrev p7:Stmt:=inClass (top 4) 0
theorem wy:aO ["self","bar"] ["self","bar"] (ay p7):=fsc (by trivial)
abbrev mO:Stmt:=inClass (top 7) 0
theorem sY:aO ["self","sitting"] ["self","sitting"] (ay mO):=fsc (by trivial)
abbrev p8:Stmt:=inClass (top 11) 0
theorem wz:aO ["self","sitting"] ["self","sitting"] (ay p8):=fsc (by trivial)
abbrev nz:Stmt:=inClass (top 47) 0
theorem uT:aO ["self","seats"] ["self","seats"] (ay nz):=fsc (by trivial)
abbrev nA:Stmt:=inClass (top 47) 1
theorem mP:aO ["self","told","number"] ["self","told"] (ay nA):=fsc (by trivial)
abbrev nB:Stmt:=inClass (top 47) 2
theorem ie:aO ["self","ayes","noes","motion","word"] ["self","ayes","noes"] (ay nB):=fsc (by trivial)
abbrev nC:Stmt:=inClass (top 47) 3
theorem uU:aO ["self"] ["self"] (ay nC):=fsc (by trivial)
abbrev nF:Stmt:=inClass (top 47) 4
theorem mQ:aO ["self","number","until"] ["self","number"] (ay nF):=fsc (by trivial)
abbrev i7:Stmt:=inClass (top 47) 5
theorem pE:aO ["self"] ["self"] (ay i7):=fsc (by trivial)
abbrev ig:Stmt:=inClass (top 47) 6
theorem sZ:aO ["self","aside"] ["self"] (ay ig):=fsc (by trivial)
abbrev iB:Scope:={ kind:=.function,names:=[(ar ".0",.local),(ar "number",.local),(ar "self",.free)],isGenerator:=false,isCoroutine:=false,more:=[] }
theorem qk:bP iB (ay ig) "number" ["self","aside"] ["self","aside"]:=⟨rfl,rfl,by trivial,by trivial,rfl,by trivial,by trivial,by trivial,by trivial,rfl,by trivial,by trivial⟩
abbrev kT:Stmt:=inClass (top 47) 7
theorem rH:aO ["self","number"] ["self","number"] (ay kT):=fsc (by trivial)
abbrev jL:Stmt:=inClass (top 47) 11
theorem ql:aO ["self"] ["self"] (ay jL):=fsc (by trivial)
abbrev fK:Stmt:=inClass (top 47) 12
theorem qm:aO ["self"] ["self"] (ay fK):=fsc (by trivial)
abbrev gf:Scope:={ kind:=.function,names:=[(ar ".0",.local),(ar "number",.local),(ar "self",.free)],isGenerator:=false,isCoroutine:=false,more:=[] }
theorem nG:bP gf (ay fK) "number" ["self"] ["self"]:=⟨rfl,rfl,by trivial,by trivial,rfl,by trivial,by trivial,by trivial,by trivial,rfl,by trivial,by trivial⟩
abbrev gW:Stmt:=inClass (top 47) 13
theorem gg:aO ["self","number","waiting"] ["self","number"] (ay gW):=fsc (by trivial)
abbrev du:Stmt:=inClass (top 47) 14
theorem bY:aO ["self","told","kind","pile"] ["self","told"] (ay du):=fsc (by trivial)
abbrev eB:Stmt:=inClass (top 47) 15
theorem i9:aO ["self"] ["self"] (ay eB):=fsc (by trivial)
abbrev kU:Stmt:=inClass (top 47) 17
theorem rJ:aO ["self","word"] ["self","word"] (ay kU):=fsc (by trivial)
abbrev fL:Stmt:=inClass (top 47) 18
theorem kW:aO ["self","deed"] ["self","deed"] (ay fL):=fsc (by trivial)
abbrev iC:Stmt:=inClass (top 47) 19
theorem gX:aO ["self","motion","kind"] ["self","motion"] (ay iC):=fsc (by trivial)
abbrev fB:Stmt:=inClass (top 47) 20
theorem eS:aO ["self","edit","number"] ["self","edit"] (ay fB):=fsc (by trivial)
abbrev fD:Stmt:=inClass (top 47) 21
theorem cc:aO ["self","edit","number","change","words"] ["self","edit"] (ay fD):=fsc (by trivial)
abbrev iD:Stmt:=inClass (top 47) 22
theorem nH:aO ["self","until"] ["self","until"] (ay iD):=fsc (by trivial)
abbrev Ia:Stmt:=top 14
theorem AH:aO ["things","edit","places"] ["things","edit"] (ay Ia):=fsc (by trivial)
abbrev qa:Stmt:=top 15
theorem wC:aO ["things","edit"] ["things","edit"] (ay qa):=fsc (by trivial)
abbrev Ib:Stmt:=top 16
theorem vp:aO ["things","edit","kind","place","behind"] ["things","edit"] (ay Ib):=fsc (by trivial)
abbrev wD:Stmt:=top 17
theorem B1:aO ["clause"] ["clause"] (ay wD):=fsc (by trivial)
abbrev uy:Stmt:=top 18
theorem AI:aO ["words"] ["words"] (ay uy):=fsc (by trivial)
abbrev uz:Stmt:=top 30
theorem iN:aO ["told","kind"] ["told"] (ay uz):=fsc (by trivial)
abbrev B2:Stmt:=top 33
theorem ze:aO ["pile","closed","bar"] ["pile","closed"] (ay B2):=fsc (by trivial)
abbrev l9:Stmt:=top 34
theorem yE:aO ["pile"] ["pile"] (ay l9):=fsc (by trivial)
abbrev kX:Scope:={ kind:=.function,names:=[(ar ".0",.local),(ar "motion",.local)],isGenerator:=false,isCoroutine:=false,more:=[] }
theorem uV:bP kX (ay l9) "motion" ["pile"] ["pile"]:=⟨rfl,rfl,by trivial,by trivial,rfl,by trivial,by trivial,by trivial,by trivial,rfl,by trivial,by trivial⟩
abbrev mR:Stmt:=top 35
theorem kY:aO ["pile","told"] ["pile"] (ay mR):=fsc (by trivial)
abbrev iE:Stmt:=top 36
theorem nI:aO ["kind","pile"] ["kind","pile"] (ay iE):=fsc (by trivial)
abbrev gv:Stmt:=top 37
theorem jM:aO ["pile","closed","bar"] ["pile","closed"] (ay gv):=fsc (by trivial)
abbrev gY:Scope:={ kind:=.function,names:=[(ar ".0",.local),(ar "kind",.local),(ar "RANKS",.globalImplicit),(ar "has_what_it_needs",.globalImplicit),(ar "bar",.free),(ar "pile",.free)],isGenerator:=false,isCoroutine:=false,more:=[] }
theorem pF:bP gY (ay gv) "kind" ["pile","closed","bar"] ["pile","closed","bar"]:=⟨rfl,rfl,by trivial,by trivial,rfl,by trivial,by trivial,by trivial,by trivial,rfl,by trivial,by trivial⟩
abbrev ja:Stmt:=top 38
theorem iF:aO ["kind","pile","closed","bar"] ["kind","pile","closed"] (ay ja):=fsc (by trivial)
abbrev mS:Stmt:=top 40
theorem gw:aO ["text","words","clause"] ["text"] (ay mS):=fsc (by trivial)
abbrev mT:Stmt:=top 41
theorem kZ:aO ["edit","words"] ["edit"] (ay mT):=fsc (by trivial)
abbrev jb:Stmt:=top 42
theorem mU:aO ["deed","kind"] ["deed"] (ay jb):=fsc (by trivial)
abbrev jc:Scope:={ kind:=.function,names:=[(ar ".0",.local),(ar "number",.local),(ar "str",.globalImplicit)],isGenerator:=false,isCoroutine:=false,more:=[] }
theorem rK:bP jc (ay jb) "number" ["deed","kind"] ["deed","kind"]:=⟨rfl,rfl,by trivial,by trivial,rfl,by trivial,by trivial,by trivial,by trivial,rfl,by trivial,by trivial⟩
abbrev uD:Stmt:=top 43
theorem AJ:aO ["deed"] ["deed"] (ay uD):=fsc (by trivial)
abbrev zf:Stmt:=top 45
theorem D0:aO ["need","ayes","noes"] ["need","ayes","noes"] (ay zf):=fsc (by trivial)
abbrev uE:Stmt:=top 49
theorem AK:aO ["_law_script","_law_k"] ["_law_script","_law_k"] (ay uE):=fsc (by trivial)
abbrev B3:Stmt:=top 50
theorem k9:aO ["_law_cell","_law_signs","_law_word_here","_law_k"] ["_law_cell"] (ay B3):=fsc (by trivial)
abbrev wF:Stmt:=top 51
theorem gZ:aO ["_law_cell","_law_words_here","_law_number","_law_k"] ["_law_cell"] (ay wF):=fsc (by trivial)
abbrev B4:Stmt:=top 52
theorem zg:aO ["_law_cell","_law_size","_law_thing","_law_place"] ["_law_cell","_law_size","_law_thing"] (ay B4):=fsc (by trivial)
abbrev B5:Stmt:=top 53
theorem Gp:aO ["_law_things","_law_edit_here"] ["_law_things","_law_edit_here"] (ay B5):=fsc (by trivial)
abbrev B6:Stmt:=top 54
theorem zh:aO ["_law_things","_law_edit_here","_law_at"] ["_law_things","_law_edit_here"] (ay B6):=fsc (by trivial)
abbrev zi:Stmt:=top 55
theorem D1:aO ["_law_clause_here"] ["_law_clause_here"] (ay zi):=fsc (by trivial)
abbrev B7:Stmt:=top 56
theorem Gr:aO ["_law_kind"] ["_law_kind"] (ay B7):=fsc (by trivial)
abbrev Fg:Stmt:=top 57
theorem Ic:aO [] [] (ay Fg):=fsc (by trivial)
abbrev Fh:Stmt:=top 58
theorem Ie:aO ["_law_m","_law_number"] ["_law_m","_law_number"] (ay Fh):=fsc (by trivial)
abbrev Fi:Stmt:=top 59
theorem wG:aO ["_law_m","_law_bar_here"] ["_law_m"] (ay Fi):=fsc (by trivial)
abbrev zj:Stmt:=top 60
theorem qo:aO ["_law_m","_law_motion","_law_kind","_law_top"] ["_law_m","_law_motion"] (ay zj):=fsc (by trivial)
abbrev B8:Stmt:=top 61
theorem gx:aO ["_law_m","_law_motion","_law_matter","_law_change","_law_word_here","_law_at","_law_clause_here","_law_until"] ["_law_m","_law_motion"] (ay B8):=fsc (by trivial)
abbrev zk:Stmt:=top 62
theorem wH:aO ["_law_m","_law_word_here","_law_number"] ["_law_m","_law_word_here"] (ay zk):=fsc (by trivial)
abbrev zm:Stmt:=top 63
theorem qp:aO ["_law_m","_law_ayes","_law_noes","_law_seats_here","_law_kept"] ["_law_m","_law_ayes","_law_noes","_law_seats_here"] (ay zm):=fsc (by trivial)
abbrev zo:Stmt:=top 64
theorem qr:aO ["_law_m","_law_number","_law_until","_law_pile"] ["_law_m","_law_number"] (ay zo):=fsc (by trivial)
abbrev Fj:Stmt:=top 65
theorem B9:aO ["_law_m","_law_deed_here","_law_seats_here","_law_lack"] ["_law_m","_law_deed_here","_law_seats_here"] (ay Fj):=fsc (by trivial)
abbrev Ca:Stmt:=top 67
theorem lb:aO ["_law_cell","_law_seats_here","_law_ayes","_law_noes"] ["_law_cell","_law_seats_here"] (ay Ca):=fsc (by trivial)
abbrev wI:Stmt:=top 68
theorem uF:aO ["_law_m","_law_way","_law_top"] ["_law_m","_law_way"] (ay wI):=fsc (by trivial)
abbrev wJ:Stmt:=top 69
theorem dg:aO ["_law_m","_law_cell","_law_seats_here","_law_way","_law_more","_law_size","_law_clause_here","_law_bottom","_law_top"] ["_law_m","_law_cell","_law_seats_here"] (ay wJ):=fsc (by trivial)
abbrev rL:Scope:={ kind:=.function,names:=[(ar ".0",.local),(ar "_law_k",.local),(ar "_law_clause",.globalImplicit),(ar "_law_more",.free)],isGenerator:=false,isCoroutine:=false,more:=[] }
theorem Cb:bP rL (ay wJ) "_law_k" ["_law_m","_law_cell","_law_seats_here","_law_way","_law_more","_law_size","_law_clause_here","_law_bottom","_law_top"] ["_law_m","_law_cell","_law_seats_here","_law_way","_law_more","_law_size","_law_clause_here","_law_bottom","_law_top"]:=⟨rfl,rfl,by trivial,by trivial,rfl,by trivial,by trivial,by trivial,by trivial,rfl,by trivial,by trivial⟩
abbrev Cc:Stmt:=top 70
theorem tf:aO ["_law_chamber","_law_deed_here","_law_found"] ["_law_chamber","_law_deed_here"] (ay Cc):=fsc (by trivial)
abbrev zq:Stmt:=top 71
theorem D3:aO ["_law_cell"] ["_law_cell"] (ay zq):=fsc (by trivial)
abbrev zr:Stmt:=top 66
theorem qt:aO ["_law_m","_law_aside","_law_number"] ["_law_m"] (ay zr):=fsc (by trivial)
abbrev AL:Stmt:=top 72
theorem lh:aO ["_law_deed_here","_law_words_here","_law_clause_here"] ["_law_deed_here"] (ay AL):=fsc (by trivial)
abbrev uG:Scope:={ kind:=.function,names:=[(ar ".0",.local),(ar "_law_number",.local),(ar "str",.globalImplicit)],isGenerator:=false,isCoroutine:=false,more:=[] }
theorem D4:bP uG (ay AL) "_law_number" ["_law_deed_here","_law_words_here","_law_clause_here"] ["_law_deed_here","_law_words_here","_law_clause_here"]:=⟨rfl,rfl,by trivial,by trivial,rfl,by trivial,by trivial,by trivial,by trivial,rfl,by trivial,by trivial⟩
abbrev wK:Stmt:=top 73
theorem Cd:aO ["_law_deed_here"] ["_law_deed_here"] (ay wK):=fsc (by trivial)
abbrev wL:Stmt:=top 74
theorem Gs:aO ["_law_state_here","_law_aside"] ["_law_state_here"] (ay wL):=fsc (by trivial)
abbrev rM:Scope:={ kind:=.function,names:=[(ar ".0",.local),(ar "_law_number",.local),(ar "_law_until",.local),(ar "_law_pile",.local),(ar "list",.globalImplicit)],isGenerator:=false,isCoroutine:=false,more:=[] }
theorem jN:dC rM (ay wL) ["_law_number","_law_until","_law_pile"] ["_law_state_here","_law_aside"] ["_law_state_here","_law_aside"]:=⟨rfl,rfl,by trivial,by trivial,by trivial,by trivial,by trivial,by trivial,by trivial,rfl,by trivial,by trivial⟩
abbrev zu:Stmt:=top 75
theorem mf:aO ["_law_state_here","_law_number","_law_until","_law_pile"] ["_law_state_here"] (ay zu):=fsc (by trivial)
abbrev zv:Stmt:=top 76
theorem fg:aO ["_law_script","_law_seats_here","_law_chambers","_law_models","_law_held","_law_rows","_law_cell","_law_k","_law_deed_here","_law_handed_here","_law_done_here","_law_one","_law_state_here","_law_kinds","_law_number","_law_told"] ["_law_script"] (ay zv):=fsc (by trivial)
abbrev zw:Scope:={ kind:=.function,names:=[(ar ".0",.local),(ar "_law_k",.local),(ar "_law_seats",.globalImplicit),(ar "_law_cell_at",.globalImplicit),(ar "_law_script",.free)],isGenerator:=false,isCoroutine:=false,more:=[] }
theorem Ig:bP zw (ay zv) "_law_k" ["_law_script","_law_seats_here","_law_chambers","_law_models","_law_held","_law_rows","_law_cell","_law_k","_law_deed_here","_law_handed_here","_law_done_here","_law_one","_law_state_here","_law_kinds","_law_number","_law_told"] ["_law_script","_law_seats_here","_law_chambers","_law_models","_law_held","_law_rows","_law_cell","","_law_deed_here","_law_handed_here","_law_done_here","_law_one","_law_state_here","_law_kinds","_law_number","_law_told"]:=⟨rfl,rfl,by trivial,by trivial,rfl,by trivial,by trivial,by trivial,by trivial,rfl,by trivial,by trivial⟩
abbrev zx:Scope:={ kind:=.function,names:=[(ar ".0",.local),(ar "_law_chamber",.local)],isGenerator:=false,isCoroutine:=false,more:=[] }
theorem Ih:bP zx (ay zv) "_law_chamber" ["_law_script","_law_seats_here","_law_chambers","_law_models","_law_held","_law_rows","_law_cell","_law_k","_law_deed_here","_law_handed_here","_law_done_here","_law_one","_law_state_here","_law_kinds","_law_number","_law_told"] ["_law_script","_law_seats_here","_law_chambers","_law_models","_law_held","_law_rows","_law_cell","_law_k","_law_deed_here","_law_handed_here","_law_done_here","_law_one","_law_state_here","_law_kinds","_law_number","_law_told"]:=⟨rfl,rfl,by trivial,by trivial,rfl,by trivial,by trivial,by trivial,by trivial,rfl,by trivial,by trivial⟩
abbrev zy:Scope:={ kind:=.function,names:=[(ar ".0",.local),(ar "_law_found",.local),(ar "_law_due_here",.local)],isGenerator:=false,isCoroutine:=false,more:=[] }
theorem wM:dC zy (ay zv) ["_law_found","_law_due_here"] ["_law_script","_law_seats_here","_law_chambers","_law_models","_law_held","_law_rows","_law_cell","_law_k","_law_deed_here","_law_handed_here","_law_done_here","_law_one","_law_state_here","_law_kinds","_law_number","_law_told"] ["_law_script","_law_seats_here","_law_chambers","_law_models","_law_held","_law_rows","_law_cell","_law_k","_law_deed_here","_law_handed_here","_law_done_here","_law_one","_law_state_here","_law_kinds","_law_number","_law_told"]:=⟨rfl,rfl,by trivial,by trivial,by trivial,by trivial,by trivial,by trivial,by trivial,rfl,by trivial,by trivial⟩
set_option genInjectivity false in
set_option genSizeOf false in
structure Adr where
 fits:Addr
 AM:fi
 nJ:Addr
 jd:fi
 laid:Addr
 AN:fi
 words_of:Addr
 fE:fi
 lj:Addr
 fM:fi
 ll:Addr
 fN:fi
 D5:Addr
 tj:fi
 qu:Addr
 j5:fi
 j6:Addr
 gy:fi
 fO:Addr
 dZ:fi
 je:Addr
 fP:fi
 gz:Addr
 eJ:fi
 j7:Addr
 gA:fi
 j8:Addr
 gB:fi
 mh:Addr
 ij:fi
 iV:Addr
 eu:fi
 AO:Addr
 qv:fi
 tq:Addr
 mi:fi
 D6:Addr
 tw:fi
 rN:Addr
 jO:fi
 D7:Addr
 tD:fi
 D8:Addr
 tE:fi
 D9:Addr
 tF:fi
 vq:Addr
 mj:fi
 Ea:Addr
 tG:fi
 Ii:Addr
 wN:fi
 Ce:Addr
 nK:fi
 Ij:Addr
 wO:fi
 AQ:Addr
 qw:fi
 Eb:Addr
 tH:fi
 AR:Addr
 qy:fi
 AS:Addr
 qz:fi
 AU:Addr
 qA:fi
 Fl:Addr
 rO:fi
 vv:Addr
 mq:fi
 Ec:Addr
 tI:fi
 wQ:Addr
 nM:fi
 AV:Addr
 o9:fi
 wR:Addr
 lu:fi
 AW:Addr
 qB:fi
 Fm:Addr
 rP:fi
 wU:Addr
 nO:fi
 Ee:Addr
 tJ:fi
 AX:Addr
 qC:fi
 law:Addr
 Ik:fi
 yF:Tok
 c0:Addr
 c1:Addr
 c2:Addr
 c3:Addr
 c4:Addr
 c5:Addr
 c6:Addr
 c7:Addr
 tab:Addr
 Nb:Addr
 Il:fi
 Nc:Addr
 Im:fi
 Nd:Addr
 Io:fi
 Nf:Addr
 Ip:fi
 Ng:Addr
 Iq:fi
 Nh:Addr
 Ir:fi
 Ni:Addr
 Iu:fi
 Nj:Addr
 Iv:fi
 f_r:Addr
 KO:fi
 f_n:Addr
 AY:fi
 Nk:Addr
 Iw:fi
 f_t:Addr
 Iy:fi
 Nl:Addr
 Iz:fi
 Nm:Addr
 IA:fi
 Nn:Addr
 IB:fi
 Np:Addr
 IC:fi
 Nq:Addr
 ID:fi
 Nr:Addr
 IE:fi
 Nt:Addr
 IF:fi
 Nu:Addr
 IG:fi
 Nv:Addr
 IH:fi
 Nw:Addr
 II:fi
 aB:Addr
 jf:Addr
 ip:fi
 jg:Addr
 iq:fi
 jh:Addr
 ir:fi
 ji:Addr
 iu:fi
 jj:Addr
 iw:fi
 fh:Addr
 eK:fi
 eY:Addr
 ez:fi
 eA:Addr
 dQ:fi
 dR:Addr
 dD:fi
 fQ:Addr
 fj:fi
 d4:Addr
 dI:fi
 cj:Addr
 bZ:fi
 cG:Addr
 cD:fi
 gC:Addr
 fR:fi
 dE:Addr
 dh:fi
 eM:Addr
 d5:fi
 dj:Addr
 cQ:fi
 dn:Addr
 cS:fi
 eN:Addr
 d6:fi
 bB:Addr
 pb:Addr
 nP:Addr
 mr:Addr
 mw:Addr
 jk:Addr
 lx:Addr
 pd:Addr
 pf:Addr
 nQ:Addr
 mx:Addr
 wV:Addr
 tK:fi
 qD:Addr
 nS:fi
 wW:Addr
 tM:fi
def Adr.C (A:Adr):Nat->Addr
 | 0=>A.c0
 | 1=>A.c1
 | 2=>A.c2
 | 3=>A.c3
 | 4=>A.c4
 | 5=>A.c5
 | 6=>A.c6
 |_=>A.c7
def Adr.fk (A:Adr):Nat->Addr
 | 0=>A.Nb
 | 1=>A.Nc
 | 2=>A.Nd
 | 3=>A.Nf
 | 4=>A.Ng
 | 5=>A.Nh
 | 6=>A.Ni
 |_=>A.Nj
def Adr.fkd (A:Adr):Nat->fi
 | 0=>A.Il
 | 1=>A.Im
 | 2=>A.Io
 | 3=>A.Ip
 | 4=>A.Iq
 | 5=>A.Ir
 | 6=>A.Iu
 |_=>A.Iv
def Adr.fn (A:Adr):Nat->Addr
 | 0=>A.f_n
 | 1=>A.f_n
 | 2=>A.f_n
 | 3=>A.f_n
 | 4=>A.Nk
 | 5=>A.f_n
 | 6=>A.f_n
 |_=>A.f_n
def Adr.fnd (A:Adr):Nat->fi
 | 0=>A.AY
 | 1=>A.AY
 | 2=>A.AY
 | 3=>A.AY
 | 4=>A.Iw
 | 5=>A.AY
 | 6=>A.AY
 |_=>A.AY
def Adr.ft (A:Adr):Nat->Addr
 | 0=>A.Nl
 | 1=>A.Nm
 | 2=>A.Nn
 | 3=>A.Np
 | 4=>A.f_t
 | 5=>A.f_t
 | 6=>A.f_t
 |_=>A.Nq
def Adr.ftd (A:Adr):Nat->fi
 | 0=>A.Iz
 | 1=>A.IA
 | 2=>A.IB
 | 3=>A.IC
 | 4=>A.Iy
 | 5=>A.Iy
 | 6=>A.Iy
 |_=>A.ID
def nm:Nat->Str
 | 0=>ar "matter"
 | 1=>ar "change"
 | 2=>ar "mend"
 | 3=>ar "put off"
 | 4=>ar "close"
 | 5=>ar "lay"
 | 6=>ar "rest"
 |_=>ar "point"
structure Txt (P:Params)(K:bo)(mg:Str->Option Value)(A:Adr):Prop where
 Nx:mg "fits"=some (.ref A.fits)
 IJ:Fun K "fits" "fits" Ia A.fits A.AM
 Ny:Binds K A.AM ["things","edit"] []
 j9:mg "require_fit"=some (.ref A.nJ)
 gP:Fun K "require_fit" "require_fit" qa A.nJ A.jd
 kh:Binds K A.jd ["things","edit"] []
 IK:mg "laid"=some (.ref A.laid)
 Ef:Fun K "laid" "laid" Ib A.laid A.AN
 IL:Binds K A.AN ["things","edit"] []
 jm:mg "words_of"=some (.ref A.words_of)
 gD:Fun K "words_of" "words_of" wD A.words_of A.fE
 jn:Binds K A.fE ["clause"] []
 uH:mg "clause_of"=some (.ref A.lj)
 nU:Fun K "clause_of" "clause_of" uy A.lj A.fM
 uI:Binds K A.fM ["words"] []
 Cg:mg "motion_of"=some (.ref A.ll)
 nX:Fun K "motion_of" "motion_of" uz A.ll A.fN
 Ci:Binds K A.fN ["told"] []
 wX:mg "bar_of"=some (.ref A.D5)
 rQ:Fun K "bar_of" "bar_of" B2 A.D5 A.tj
 wY:Binds K A.tj ["pile","closed"] []
 rR:mg "has_matter"=some (.ref A.qu)
 my:Fun K "has_matter" "has_matter" l9 A.qu A.j5
 rS:Binds K A.j5 ["pile"] []
 uW:mg "can_be_mended"=some (.ref A.j6)
 mV:Fun K "can_be_mended" "can_be_mended" mR A.j6 A.gy
 uX:Binds K A.gy ["pile"] []
 iG:mg "has_what_it_needs"=some (.ref A.fO)
 eO:Fun K "has_what_it_needs" "has_what_it_needs" iE A.fO A.dZ
 iH:Binds K A.dZ ["kind","pile"] []
 tN:mg "kinds_in_order"=some (.ref A.je)
 lz:Fun K "kinds_in_order" "kinds_in_order" gv A.je A.fP
 tO:Binds K A.fP ["pile","closed"] []
 qE:mg "require_in_order"=some (.ref A.gz)
 jo:Fun K "require_in_order" "require_in_order" ja A.gz A.eJ
 qF:Binds K A.eJ ["kind","pile","closed"] []
 uY:mg "words_of_text"=some (.ref A.j7)
 mW:Fun K "words_of_text" "words_of_text" mS A.j7 A.gA
 uZ:Binds K A.gA ["text"] []
 u0:mg "words_of_edit"=some (.ref A.j8)
 mX:Fun K "words_of_edit" "words_of_edit" mT A.j8 A.gB
 u4:Binds K A.gB ["edit"] []
 wZ:mg "words_behind"=some (.ref A.mh)
 nY:Fun K "words_behind" "words_behind" jb A.mh A.ij
 xa:Binds K A.ij ["deed"] []
 nZ:mg "show_deed"=some (.ref A.iV)
 jP:Fun K "show_deed" "show_deed" uD A.iV A.eu
 n5:Binds K A.eu ["deed"] []
 Gu:mg "is_kept"=some (.ref A.AO)
 zz:Fun K "is_kept" "is_kept" zf A.AO A.qv
 Gv:Binds K A.qv ["need","ayes","noes"] []
 Cj:mg "_law_cell_at"=some (.ref A.tq)
 uJ:Fun K "_law_cell_at" "_law_cell_at" uE A.tq A.mi
 Ck:Binds K A.mi ["_law_script","_law_k"] []
 Cm:mg "_law_word"=some (.ref A.D6)
 xb:Fun K "_law_word" "_law_word" B3 A.D6 A.tw
 Cn:Binds K A.tw ["_law_cell"] []
 qG:mg "_law_clause"=some (.ref A.rN)
 mz:Fun K "_law_clause" "_law_clause" wF A.rN A.jO
 qH:Binds K A.jO ["_law_cell"] []
 Co:mg "_law_edit"=some (.ref A.D7)
 xf:Fun K "_law_edit" "_law_edit" B4 A.D7 A.tD
 Cp:Binds K A.tD ["_law_cell","_law_size","_law_thing"] []
 Cq:mg "_law_fits"=some (.ref A.D8)
 xg:Fun K "_law_fits" "_law_fits" B5 A.D8 A.tE
 Cr:Binds K A.tE ["_law_things","_law_edit_here"] []
 Cs:mg "_law_laid"=some (.ref A.D9)
 xh:Fun K "_law_laid" "_law_laid" B6 A.D9 A.tF
 Ct:Binds K A.tF ["_law_things","_law_edit_here"] []
 iW:mg "_law_words"=some (.ref A.vq)
 gF:Fun K "_law_words" "_law_words" zi A.vq A.mj
 iX:Binds K A.mj ["_law_clause_here"] []
 Cu:mg "_law_rank"=some (.ref A.Ea)
 xj:Fun K "_law_rank" "_law_rank" B7 A.Ea A.tG
 Cv:Binds K A.tG ["_law_kind"] []
 Fn:mg "_law_new"=some (.ref A.Ii)
 AZ:Fun K "_law_new" "_law_new" Fg A.Ii A.wN
 Fo:Binds K A.wN [] []
 gQ:mg "_law_now"=some (.ref A.Ce)
 fS:Fun K "_law_now" "_law_now" Fh A.Ce A.nK
 gR:Binds K A.nK ["_law_m","_law_number"] []
 A0:mg "_law_bar"=some (.ref A.Ij)
 vw:Fun K "_law_bar" "_law_bar" Fi A.Ij A.wO
 A1:Binds K A.wO ["_law_m"] []
 Gw:mg "_law_lacks"=some (.ref A.AQ)
 zA:Fun K "_law_lacks" "_law_lacks" zj A.AQ A.qw
 Gx:Binds K A.qw ["_law_m","_law_motion"] []
 IM:mg "_law_keep"=some (.ref A.Eb)
 Cw:Fun K "_law_keep" "_law_keep" B8 A.Eb A.tH
 IP:Binds K A.tH ["_law_m","_law_motion"] []
 zB:mg "_law_ended"=some (.ref A.AR)
 tP:Fun K "_law_ended" "_law_ended" zk A.AR A.qy
 zC:Binds K A.qy ["_law_m","_law_word_here"] []
 Gy:mg "_law_voted"=some (.ref A.AS)
 zD:Fun K "_law_voted" "_law_voted" zm A.AS A.qz
 Gz:Binds K A.qz ["_law_m","_law_ayes","_law_noes","_law_seats_here"] []
 GA:mg "_law_taken"=some (.ref A.AU)
 zE:Fun K "_law_taken" "_law_taken" zo A.AU A.qA
 GB:Binds K A.qA ["_law_m","_law_number"] []
 KP:mg "_law_due"=some (.ref A.Fl)
 Fp:Fun K "_law_due" "_law_due" Fj A.Fl A.rO
 KQ:Binds K A.rO ["_law_m","_law_deed_here","_law_seats_here"] []
 GC:mg "_law_state"=some (.ref A.vv)
 zF:Fun K "_law_state" "_law_state" zr A.vv A.mq
 GD:Binds K A.mq ["_law_m"] []
 IQ:mg "_law_vote"=some (.ref A.Ec)
 Cy:Fun K "_law_vote" "_law_vote" Ca A.Ec A.tI
 IS:Binds K A.tI ["_law_cell","_law_seats_here"] []
 Eg:mg "_law_guided"=some (.ref A.wQ)
 xm:Fun K "_law_guided" "_law_guided" wI A.wQ A.nM
 Eh:Binds K A.nM ["_law_m","_law_way"] []
 IT:mg "_law_deed"=some (.ref A.AV)
 Cz:Fun K "_law_deed" "_law_deed" wJ A.AV A.o9
 IU:Binds K A.o9 ["_law_m","_law_cell","_law_seats_here"] []
 IV:mg "_law_done"=some (.ref A.wR)
 CA:Fun K "_law_done" "_law_done" Cc A.wR A.lu
 IW:Binds K A.lu ["_law_chamber","_law_deed_here"] []
 GF:mg "_law_seats"=some (.ref A.AW)
 zG:Fun K "_law_seats" "_law_seats" zq A.AW A.qB
 GG:Binds K A.qB ["_law_cell"] []
 KR:mg "_law_row"=some (.ref A.Fm)
 Fq:Fun K "_law_row" "_law_row" AL A.Fm A.rP
 KS:Binds K A.rP ["_law_deed_here"] []
 Ei:mg "_law_handed"=some (.ref A.wU)
 xn:Fun K "_law_handed" "_law_handed" wK A.wU A.nO
 Ej:Binds K A.nO ["_law_deed_here"] []
 IZ:mg "_law_copy"=some (.ref A.Ee)
 CB:Fun K "_law_copy" "_law_copy" wL A.Ee A.tJ
 I9:Binds K A.tJ ["_law_state_here"] []
 GH:mg "_law_spoil"=some (.ref A.AX)
 zH:Fun K "_law_spoil" "_law_spoil" zu A.AX A.qC
 GI:Binds K A.qC ["_law_state_here"] []
 Pa:mg "law"=some (.ref A.law)
 Pb:Fun K "law" "law" zv A.law A.Ik
 Pc:∀(s:Shared) (v:Value),BindsTo s A.Ik ⟨[v],[]⟩ [("_law_script",v)]
 vx:mg "range"=none
 eQ:mg "list"=none
 KU:mg "isinstance"=none
 mY:mg "len"=none
 Fs:mg "max"=none
 Pd:mg "any"=none
 Pe:mg "all"=none
 Ft:mg "str"=none
 xo:mg "sorted"=none
 Ma:mg "int"=none
 KW:mg "ValueError"=none
 A2:mg "CLOSED_BAR"=some (.int 4 A.yF)
 xq:mg "Matter"=some (.ref (A.C 0))
 xr:mg "Change"=some (.ref (A.C 1))
 Ja:mg "Mend"=some (.ref (A.C 2))
 CC:mg "PutOff"=some (.ref (A.C 3))
 Fu:mg "Close"=some (.ref (A.C 4))
 Mb:mg "Lay"=some (.ref (A.C 5))
 Jb:mg "Rest"=some (.ref (A.C 6))
 Fv:mg "Point"=some (.ref (A.C 7))
 cl:∀k,k < 8->Cls K (A.C k)
 vy:mg "RANKS"=some (.ref A.tab)
 tb:Kq P K A.tab
 rk:∀k,k < 8->∃t,Tb K A.tab (nm k)=some (some (.int k t))
 tk:rA P K A.tab [ar "matter",ar "change",ar "mend",ar "put off",ar "close",ar "lay",ar "rest",ar "point"]
 mB:∀k,k < 8->Meth K (A.C k) "kind" (A.fk k)
 Nz:∀k,k < 8->Meth K (A.C k) "need" (A.fn k)
 Jc:∀k,k < 8->Meth K (A.C k) "told" (A.ft k)
 NA:∀k,k < 8->Meth K (A.C k) "rank" A.f_r
 xt:Mk K (A.C 0) A.Nr
 xu:Mk K (A.C 1) A.Nt
 Jd:Mk K (A.C 2) A.Nu
 CD:Mk K (A.C 3) A.Nv
 Fw:Mk K (A.C 7) A.Nw
 Q6:Fun K "kind" "Matter.kind" pP A.Nb A.Il
 Q7:Fun K "kind" "Change.kind" pQ A.Nc A.Im
 Q8:Fun K "kind" "Mend.kind" uu A.Nd A.Io
 Q9:Fun K "kind" "PutOff.kind" pR A.Nf A.Ip
 Ra:Fun K "kind" "Close.kind" rC A.Ng A.Iq
 Rb:Fun K "kind" "Lay.kind" wb A.Nh A.Ir
 Rc:Fun K "kind" "Rest.kind" uv A.Ni A.Iu
 Rf:Fun K "kind" "Point.kind" rD A.Nj A.Iv
 F_r:Fun K "rank" "Motion.rank" pS A.f_r A.KO
 F_n:Fun K "need" "Motion.need" pT A.f_n A.AY
 Rg:Fun K "need" "Close.need" rE A.Nk A.Iw
 F_t:Fun K "told" "Motion.told" pU A.f_t A.Iy
 Rh:Fun K "told" "Matter.told" pV A.Nl A.Iz
 Ri:Fun K "told" "Change.told" pW A.Nm A.IA
 Rj:Fun K "told" "Mend.told" uw A.Nn A.IB
 Rm:Fun K "told" "PutOff.told" pX A.Np A.IC
 Rn:Fun K "told" "Point.told" rF A.Nq A.ID
 Ro:Fun K "__init__" "Matter.__init__" pY A.Nr A.IE
 Rp:Fun K "__init__" "Change.__init__" pZ A.Nt A.IF
 Rq:Fun K "__init__" "Mend.__init__" ux A.Nu A.IG
 Rr:Fun K "__init__" "PutOff.__init__" p6 A.Nv A.IH
 Rt:Fun K "__init__" "Point.__init__" rG A.Nw A.II
 mD:∀k,k < 8->Binds K (A.fkd k) ["self"] []
 NB:∀k,k < 8->Binds K (A.fnd k) ["self"] []
 Je:∀k,k < 8->Binds K (A.ftd k) ["self"] []
 NC:∀k,k < 8->Binds K A.KO ["self"] []
 ND:Binds K A.IE ["self","text"] []
 na0:cn K (A.C 0) "text"
 NF:Binds K A.IF ["self","edit"] []
 na1:cn K (A.C 1) "edit"
 Pf:Binds K A.IG ["self","edit"] []
 na2:cn K (A.C 2) "edit"
 Pg:Binds K A.IH ["self","sitting"] []
 na3:cn K (A.C 3) "sitting"
 Ph:Binds K A.II ["self","clause"] []
 na7:cn K (A.C 7) "clause"
 mkn:∀k,k=4\/k=5\/k=6->MkN K (A.C k)
 zI:mg "Chamber"=some (.ref A.aB)
 aq:Cls K A.aB
 zJ:Mk K A.aB A.jf
 xw:Fun K "__init__" "Chamber.__init__" nz A.jf A.ip
 n6:Binds K A.ip ["self","seats"] []
 xx:Meth K A.aB "move" A.jg
 xy:Fun K "move" "Chamber.move" nA A.jg A.iq
 xA:Binds K A.iq ["self","told"] []
 xB:Meth K A.aB "vote" A.jh
 xC:Fun K "vote" "Chamber.vote" nB A.jh A.ir
 xD:Binds K A.ir ["self","ayes","noes"] []
 xE:Meth K A.aB "drop" A.ji
 xF:Fun K "drop" "Chamber.drop" nC A.ji A.iu
 xG:Binds K A.iu ["self"] []
 xH:Meth K A.aB "take" A.jj
 xI:Fun K "take" "Chamber.take" nF A.jj A.iw
 xJ:Binds K A.iw ["self","number"] []
 jq:Meth K A.aB "in_order" A.fh
 qI:Fun K "in_order" "Chamber.in_order" i7 A.fh A.eK
 jr:Binds K A.eK ["self"] []
 u6:Meth K A.aB "state" A.eY
 va:Fun K "state" "Chamber.state" ig A.eY A.ez
 vc:Binds K A.ez ["self"] []
 tQ:Meth K A.aB "motion" A.eA
 tS:Fun K "motion" "Chamber.motion" kT A.eA A.dQ
 tT:Binds K A.dQ ["self","number"] []
 jQ:Meth K A.aB "minutes" A.dR
 rT:Fun K "minutes" "Chamber.minutes" jL A.dR A.dD
 jR:Binds K A.dD ["self"] []
 fU:Meth K A.aB "pending" A.fQ
 rV:Fun K "pending" "Chamber.pending" fK A.fQ A.fj
 fV:Binds K A.fj ["self"] []
 n8:Meth K A.aB "told_aside" A.d4
 n9:Fun K "told_aside" "Chamber.told_aside" gW A.d4 A.dI
 oa:Binds K A.dI ["self","number"] []
 g0:Meth K A.aB "require_can_be_made" A.cj
 g7:Fun K "require_can_be_made" "Chamber.require_can_be_made" du A.cj A.bZ
 g8:Binds K A.bZ ["self","told"] []
 eD:Meth K A.aB "require_pending" A.cG
 jH:Fun K "require_pending" "Chamber.require_pending" eB A.cG A.cD
 eE:Binds K A.cD ["self"] []
 lA:Meth K A.aB "decide" A.gC
 tU:Fun K "decide" "Chamber.decide" kU A.gC A.fR
 lB:Binds K A.fR ["self","word"] []
 fW:Meth K A.aB "end_decision" A.dE
 mE:Fun K "end_decision" "Chamber.end_decision" fL A.dE A.dh
 fX:Binds K A.dh ["self","deed"] []
 pG:Meth K A.aB "carry_out" A.eM
 pH:Fun K "carry_out" "Chamber.carry_out" iC A.eM A.d5
 pI:Binds K A.d5 ["self","motion"] []
 lD:Meth K A.aB "lay_on_matter" A.dj
 lE:Fun K "lay_on_matter" "Chamber.lay_on_matter" fB A.dj A.cQ
 lF:Binds K A.cQ ["self","edit"] []
 lG:Meth K A.aB "lay_on_change" A.dn
 lI:Fun K "lay_on_change" "Chamber.lay_on_change" fD A.dn A.cS
 lJ:Binds K A.cS ["self","edit"] []
 iI:Meth K A.aB "put_aside" A.eN
 pJ:Fun K "put_aside" "Chamber.put_aside" iD A.eN A.d6
 iJ:Binds K A.d6 ["self","until"] []
 lK:cn K A.aB "seats"
 bI:cn K A.aB "sitting"
 bM:cn K A.aB "closed"
 bE:cn K A.aB "made"
 bg:cn K A.aB "pile"
 bT:cn K A.aB "aside"
 fm:cn K A.aB "decided"
 fY:cn K A.aB "first_texts"
 dJ:cn K A.aB "edits_kept"
 cH:cn K A.aB "rows"
 fZ:mg "ChamberError"=some (.ref A.bB)
 KY:mg "NoFit"=some (.ref A.pb)
 CF:mg "Barred"=some (.ref A.nP)
 Ek:mg "NoMatter"=some (.ref A.mr)
 El:mg "NoChange"=some (.ref A.mw)
 Em:mg "NotLater"=some (.ref A.jk)
 GJ:mg "Nothing"=some (.ref A.lx)
 GK:mg "TooMany"=some (.ref A.pd)
 GL:mg "NoAside"=some (.ref A.pf)
 Jf:mg "NotYet"=some (.ref A.nQ)
 En:mg "NoNumber"=some (.ref A.mx)
 ix:L7 K A.bB
 Jg:Ax K A.pb
 m7:Sz K (.ref A.pb) (.ref A.bB)=some true
 CG:Ax K A.mr
 kz:Sz K (.ref A.mr) (.ref A.bB)=some true
 CH:Ax K A.mw
 kA:Sz K (.ref A.mw) (.ref A.bB)=some true
 Eo:Ax K A.lx
 lL:Sz K (.ref A.lx) (.ref A.bB)=some true
 Ep:Ax K A.pd
 lN:Sz K (.ref A.pd) (.ref A.bB)=some true
 Er:Ax K A.pf
 lO:Sz K (.ref A.pf) (.ref A.bB)=some true
 CI:Ax K A.mx
 kB:Sz K (.ref A.mx) (.ref A.bB)=some true
 ph:vS K A.nP A.wV "bar"
 Es:Fun K "__init__" "Barred.__init__" p7 A.wV A.tK
 xK:Binds K A.tK ["self","bar"] []
 mF:Sz K (.ref A.nP) (.ref A.bB)=some true
 oe:vS K A.jk A.qD "sitting"
 A3:Fun K "__init__" "NotLater.__init__" mO A.qD A.nS
 A4:Binds K A.nS ["self","sitting"] []
 kD:Sz K (.ref A.jk) (.ref A.bB)=some true
 tV:vS K A.nQ A.wW "sitting"
 Et:Fun K "__init__" "NotYet.__init__" p8 A.wW A.tM
 Eu:Binds K A.tM ["self","sitting"] []
 mG:Sz K (.ref A.nQ) (.ref A.bB)=some true
theorem sl (n:Nat)(h:n<=64:=by decide):n<=fe:=ku h (by decide)
abbrev bl1:Str:=ar " "
def Asc (x:Str):Prop:=∀c∈x.cps.toList,c < 128
theorem Asc.ok {x:Str}(h:Asc x):Sg x=true:=by
 unfold Sg;rw[Array.all_eq_true];intro i hi;have:=h x.cps[i] (by simp)
 exact decide_eq_true (by omega)
theorem js {sep:Str}(hs:Asc sep):∀ws:List Str,(∀w∈ws,Asc w)->Asc (ky sep ws)
 |[],_=>λc hc=>by
  have:c∈([]:List Nat):=hc;cases this
 |[x],h=>h x eg
 |x::y::r,h=>λc hc=>by
  have hc':c∈((x++sep)++ky sep (y::r)).cps.toList:=hc;rw[dB,dB,List.mem_append,List.mem_append]at hc';rcases hc' with (h1 | h1) | h1
  ·exact h x eg c h1
  ·exact hs c h1
  ·exact js hs (y::r) (λw hw=>h w (km _ hw)) c h1
structure Sh (n:Nat)(x:Str):Prop where
 asc:Asc x
 len:x.length<=n
structure Ed where
 k:Nat
 at_:Int
 th:Str
def kn:Nat->Str
 | 0=>ar "put"
 | 1=>ar "cut"
 |_=>ar "turn"
def dS (e:Ed):List V:=match e.k with
 | 0=>[.str (kn 0),.int e.at_,.str e.th]
 | 1=>[.str (kn 1),.int e.at_]
 |_=>[.str (kn 2),.int e.at_,.str e.th]
def edD (e:Ed):PyData:=match e.k with
 | 0=>.tuple [.str (kn 0),.int e.at_,.str e.th]
 | 1=>.tuple [.str (kn 1),.int e.at_]
 |_=>.tuple [.str (kn 2),.int e.at_,.str e.th]
structure m8 (e:Ed):Prop where
 k3:e.k=0\/e.k=1\/e.k=2
 lo:-9999999999<=e.at_
 hi:e.at_<=9999999999
 th:Sh 100000 e.th
def d7 (n:Nat)(e:Ed):Bool:=decide (0<=e.at_) && decide (e.at_ < (n:Int)+(if e.k=0 then 1 else 0))
def bC (xs:List Str)(e:Ed):List Str:=match e.k with
 | 0=>xs.take e.at_.toNat++e.th::xs.drop e.at_.toNat
 | 1=>xs.eraseIdx e.at_.toNat
 |_=>xs.set e.at_.toNat e.th
theorem kF (e:Ed):atI (dS e) 0=some (.str (kn e.k)):=by
 unfold dS;split
 ·rename_i h;rw[h];rfl
 ·rename_i h;rw[h];rfl
 ·rename_i h1 h2;have:kn e.k=kn 2:=by
   unfold kn;split
   ·rename_i h;exact absurd h h1
   ·rename_i h;exact absurd h h2
   ·rfl
  rw[this];rfl
theorem qJ (e:Ed):atI (dS e) 1=some (.int e.at_):=by
 unfold dS;split <;> rfl
theorem qK {e:Ed}(h:e.k≠1):atI (dS e) 2=some (.str e.th):=by
 unfold dS;split
 ·rfl
 ·rename_i z;exact absurd z h
 ·rfl
theorem Ew (e:Ed){K:bo}{H:Hp}{t:Addr}(h:SqT K H t (dS e)):DV K H (edD e) (.ref t):=by
 unfold dS at h;unfold edD;split
 ·rename_i z;rw[z]at h;unfold DV;exact⟨t,_,rfl,h,by unfold DVs;exact⟨_,_,rfl,by unfold DV;rfl,by unfold DVs;exact⟨_,_,rfl,by unfold DV;rfl,by unfold DVs;exact⟨_,_,rfl,by unfold DV;rfl,by unfold DVs;rfl⟩⟩⟩⟩
 ·rename_i z;rw[z]at h;unfold DV;exact⟨t,_,rfl,h,by unfold DVs;exact⟨_,_,rfl,by unfold DV;rfl,by unfold DVs;exact⟨_,_,rfl,by unfold DV;rfl,by unfold DVs;rfl⟩⟩⟩
 ·rename_i z1 z2;split at h
  ·rename_i z;exact absurd z z1
  ·rename_i z;exact absurd z z2
  ·unfold DV;exact⟨t,_,rfl,h,by unfold DVs;exact⟨_,_,rfl,by unfold DV;rfl,by unfold DVs;exact⟨_,_,rfl,by unfold DV;rfl,by unfold DVs;exact⟨_,_,rfl,by unfold DV;rfl,by unfold DVs;rfl⟩⟩⟩⟩
theorem zK {i:Int}(h0:-9999999999<=i)(h1:i<=9999999999):i.natAbs.log2 < 1920:=by
 have e40:(2:Nat) ^ 40=1099511627776:=by decide
 have h:i.natAbs < 2 ^ 40:=by omega
 by_cases hz:i.natAbs=0
 ·rw[hz];decide
 ·exact Nat.lt_trans ((Nat.log2_lt hz).mpr h) (by decide)
theorem Jh {e:Ed}(o:m8 e):(edD e).showable=true/\(edD e).hasDict=false/\(edD e).depth<=60:=by
 have lg:=zK o.lo o.hi;unfold edD;split <;> simp[PyData.showable,PyData.showableAll,PyData.hasDict,PyData.hasDictAll,Sr,Se,lg]
theorem KZ {i:Int}(h0:-9999999999<=i)(h1:i<=9999999999):(ar (toString i)).length<=1921:=by
 have h:=int_text_length_le (a:=i) (k:=1920) (by decide) (zK h0 h1)
 have e:(ar (toString i)).length=(toString i).length:=by first | exact PySem.ofString_length _ | exact ofString_length _
 omega
theorem Sh.rep {n:Nat}{x:Str}(s:Sh n x):(reprText x).length<=10 * n+2:=by
 have h:=StrLaws.reprText_len x λc hc=>Nat.lt_trans (s.asc c hc) (by decide)
 have:=s.len;omega
theorem Ji (k:Nat):Sh 4 (kn k):=by
 unfold kn;split <;> exact⟨by unfold Asc;trivial,by trivial⟩
theorem K0 {e:Ed}(o:m8 e):(edD e).shown.length<=1100000:=by
 have a:=(Ji 0).rep;have b:=(Ji 1).rep;have c:=(Ji 2).rep;have d:=o.th.rep;have i:=KZ o.lo o.hi;unfold edD;split
 ·have h:=tupleText_len_le [reprText (kn 0),ar (toString e.at_),reprText e.th];simp only[gr,Sq,List.sum_cons,List.sum_nil,rf,TR]at h;show (tupleText [reprText (kn 0),ar (toString e.at_),reprText e.th]).length<=_;omega
 ·have h:=tupleText_len_le [reprText (kn 1),ar (toString e.at_)];simp only[gr,Sq,List.sum_cons,List.sum_nil,rf,TR]at h;show (tupleText [reprText (kn 1),ar (toString e.at_)]).length<=_;omega
 ·have h:=tupleText_len_le [reprText (kn 2),ar (toString e.at_),reprText e.th];simp only[gr,Sq,List.sum_cons,List.sum_nil,rf,TR]at h;show (tupleText [reprText (kn 2),ar (toString e.at_),reprText e.th]).length<=_;omega
theorem tW {e:Ed}(o:m8 e):(V.str (kn e.k)=V.str (ar "put"))↔e.k=0:=by
 rcases o.k3 with h | h | h <;> rw[h] <;> trivial
theorem qL {e:Ed}(o:m8 e):(V.str (kn e.k)=V.str (ar "cut"))↔e.k=1:=by
 rcases o.k3 with h | h | h <;> rw[h] <;> trivial
theorem Fx {e:Ed}(o:m8 e):(V.str (kn e.k)=V.str (ar "turn"))↔e.k=2:=by
 rcases o.k3 with h | h | h <;> rw[h] <;> trivial
def Jj (K:bo):Sp:=λvs H Q _=>∃(a t:Addr) (xs:List V) (e:Ed),vs=[.ref a,.ref t]/\SqL K H a xs/\SqT K H t (dS e)/\m8 e/\Q (.bl (d7 xs.length e)) H
def Pj (A:Adr)(K:bo):Sp:=λvs H Q E=>∃(a t:Addr) (xs:List V) (e:Ed),vs=[.ref a,.ref t]/\SqL K H a xs/\SqT K H t (dS e)/\m8 e/\(d7 xs.length e=true->Q .non H)/\(d7 xs.length e=false->E (.ref A.pb) none H)
def NG (A:Adr)(K:bo):Sp:=λvs H Q E=>∃(a t:Addr) (xs:List Str) (e:Ed),vs=[.ref a,.ref t]/\SqL K H a (xs.map V.str)/\xs.length<=1000/\SqT K H t (dS e)/\m8 e /\
 (d7 xs.length e=true->∀p,H p=none->Q (.ref p) (upd H p (.lst ((bC xs e).map V.str))))/\(d7 xs.length e=false->E (.ref A.pb) none H)
theorem xM {n:Nat}{e:Ed}:d7 n e=true↔0<=e.at_/\e.at_ < (n:Int)+(if e.k=0 then 1 else 0):=by
 unfold d7;rw[SE,decide_eq_true_iff,decide_eq_true_iff]
section
variable{P:kr}{w:World}{K:bo}{mg:Str->Option Value}{base:Heap}{A:Adr}
theorem Jk {H H':Hp}{t:Addr}{xs:List V}(s:bc H H')(h:SqT K H t xs):SqT K H' t xs:=by
 rcases h with (h | ⟨o,h⟩) | h
 ·exact .inl (.inl (s _ _ h))
 ·exact .inl (.inr ⟨o,s _ _ h⟩)
 ·exact .inr h
theorem K1 (T:Txt w.params K mg A):aX P w K mg base CX0 1 A.fits A.AM ["things","edit"] (Jj K):=by
 refine T.IJ.ok AH (λvs H Q E h=>?_) (λcdv A' outer s H vs Q E hr h=>?_)
 ·obtain⟨a,t,xs,e,rfl,_⟩:=h;rfl
 ·obtain⟨a,t,xs,e,rfl,ha,ht,o,q⟩:=h;refine⟨_,(ah (aZ (i:=2) AH.nd rfl (ma rfl) (bQ b9 (by rfl) T.mY ic (aa (pv 0) af)))
 (ah (a4 (aC bf (aH aK (pv 1) ag (λ_ _=>rfl)) aj (aN _))
 (ai (aZ (i:=2) AH.nd rfl (ma rfl) (aW cF (pv 2) ag)))
 aJ)
 (ai (aI (vE q5 nh ag (aH aK (pv 1) ag (λ_ _=>rfl)) (pv 2)))))),?_⟩
  try dsimp only[bt]
  refine⟨_,rfl,a,xs,rfl,.inl ha,?_⟩;refine ixv rfl ht (kF e) ⟨rfl,_,rfl,dc (λz=>?_) (λz=>?_)⟩
  ·have hk:e.k=0:=(tW o).mp (of_decide_eq_true z);refine⟨_,rfl,_,_,rfl,rfl,?_⟩;unfold d7 at q;rw[if_pos hk]at q;refine ixv rfl ht (qJ e) ⟨_,_,rfl,rfl,_,rfl,dc (λz1=>?_) (λz1=>?_)⟩
   ·have h1:0<=e.at_:=of_decide_eq_true z1;rw[decide_eq_true h1,Bool.true_and]at q;exact⟨_,rfl,_,_,rfl,rfl,q⟩
   ·have h1:¬0<=e.at_:=λy=>z1 (decide_eq_true y)
    rw[decide_eq_false h1,Bool.false_and]at q;exact q
  ·have hk:¬e.k=0:=λy=>z (decide_eq_true ((tW o).mpr y))
   unfold d7 at q;rw[if_neg hk,Int.add_zero]at q;refine ixv rfl ht (qJ e) ⟨_,_,rfl,rfl,_,rfl,dc (λz1=>?_) (λz1=>?_)⟩
   ·have h1:0<=e.at_:=of_decide_eq_true z1;rw[decide_eq_true h1,Bool.true_and]at q;exact⟨_,rfl,_,_,rfl,rfl,q⟩
   ·have h1:¬0<=e.at_:=λy=>z1 (decide_eq_true y)
    rw[decide_eq_false h1,Bool.false_and]at q;exact q
theorem jt (T:Txt w.params K mg A):aX P w K mg base (CXX P w) 2 A.nJ A.jd ["things","edit"] (Pj A K):=by
 refine T.gP.okX wC (λvs H Q E h=>?_) (λcdv A' outer s H vs Q E hr h=>?_)
 ·obtain⟨a,t,xs,e,rfl,_⟩:=h;rfl
 ·obtain⟨a,t,xs,e,rfl,ha,ht,o,q1,q2⟩:=h;have hgd:=hr.gd;have iO:=hr.units;refine⟨_,(bw (eI (qh (j3 (aU (K1 T) hr rfl T.Nx T.IJ.kp T.Ny .nil aV (aa (pv 0) (aa (pv 1) af)))))
 (bw (gu T.Jg rfl rfl T.KY (aa (O0 hgd iO (pv 1)) af)))
 (rp aJ))),?_⟩
  try dsimp only[bt]
  refine⟨_,rfl,_,rfl,a,t,xs,e,rfl,ha,ht,o,_,rfl,?_⟩;cases hf:d7 xs.length e with
  |true=>exact bK (q1 hf)
  |false =>
   refine aL λGq gq=>?_
   obtain⟨s1,s2,s3⟩:=Jh o;have s4:=K0 o;refine gq ?_;refine cC ⟨_,rfl,t,edD e,rfl,Ew e ht,s1,s2,s3,ku (Nat.add_le_add_right s4 _) (by trivial),λz=>?_⟩
   exact⟨(sl 1),q2 hf⟩
theorem Fy (T:Txt w.params K mg A):aX P w K mg base (CXX P w) 3 A.laid A.AN ["things","edit"] (NG A K):=by
 refine T.Ef.okX vp (λvs H Q E h=>?_) (λcdv A' outer s H vs Q E hr h=>?_)
 ·obtain⟨a,t,xs,e,rfl,_⟩:=h;rfl
 ·obtain⟨a,t,xs,e,rfl,ha,hz,ht,o,q1,q2⟩:=h;refine⟨_,(a6 (i5 (rq (jt T) hr rfl T.j9 T.gP.kp T.kh (pax (aa (pv 0) (aa (pv 1) af)))))
 (a6 (psx (aZ (i:=2) vp.nd rfl (ma rfl) (aH aK (pv 1) ag (λ_ _=>rfl))))
 (a6 (psx (aZ (i:=3) vp.nd rfl (ma rfl) (aH aK (pv 1) ag (λ_ _=>rfl))))
 (a6 (psx (aZ (i:=4) vp.nd rfl (ma rfl) (bD bA (by rfl) T.eQ cW (aa (pv 0) af))))
 (a6 (psx (a4 (aC bf (pv 2) aj (aN _))
 (ai (bh (bW fu PySem.F.slot_list_insert PySem.F.type_list_insert Gf (pv 4) (aa (pv 3) (aa (aH aK (pv 1) ag (λ_ _=>rfl)) af)))))
 (ai (a4 (aC bf (pv 2) aj (aN _))
 (ai (bh (bW fu PySem.F.slot_list_pop PySem.F.type_list_pop Ht (pv 4) (aa (pv 3) af))))
 (ai (vD (aH aK (pv 1) ag (λ_ _=>rfl)) (Ds (pv 4) (pv 3) set_list)))))))
 (bw (psx (aI (pv 4))))))))),?_⟩
  try dsimp only[bt]
  refine⟨_,rfl,_,rfl,a,t,_,e,rfl,ha,ht,o,λhf=>?_,λhf=>q2 (by rw[ba]at hf;exact hf)⟩
  refine aL λGq gq=>?_
  rw[ba]at hf;obtain⟨f0,f1⟩:=xM.mp hf;have q:=q1 hf;have lim:(1001:Nat) < fe:=by decide
  obtain⟨n,hn⟩:∃n:Nat,e.at_=(n:Int):=⟨e.at_.toNat,by omega⟩
  refine gq ?_;refine ixv rfl ht (kF e) ?_;refine ixv rfl ht (qJ e) ?_;refine⟨_,rfl,a,_,rfl,.inl ha,λp hp=>?_⟩
  have sp:bc H (upd H p (.lst (xs.map V.str))):=ax hp;have ht':=Jk sp ht;have q:=q p hp;rw[hn];rw[hn]at f1;refine⟨_,rfl,rfl,_,rfl,dc (λz=>?_) (λz=>?_)⟩
  ·have hk:e.k=0:=(tW o).mp (of_decide_eq_true z);rw[if_pos hk]at f1;refine⟨_,rfl,.inl ⟨rfl,_,SqL.of ae⟩,_,rfl,ixv rfl ht' (qK (by omega)) ⟨p,_,_,n,_,rfl,rfl,rfl,ae,(by rw[ba];omega),(by rw[ba];omega),?_⟩⟩
   rw[iK];refine⟨_,rfl,?_⟩;have e1:(bC xs e).map V.str=(xs.map V.str).take n++V.str e.th::(xs.map V.str).drop n:=by
    unfold bC;rw[hk,hn];simp
   rw[e1]at q;exact q
  ·have hk0:¬e.k=0:=λy=>z (decide_eq_true ((tW o).mpr y))
   rw[if_neg hk0,Int.add_zero]at f1;have hlt:n < xs.length:=by omega
   refine⟨_,rfl,rfl,_,rfl,dc (λz2=>?_) (λz2=>?_)⟩
   ·have hk:e.k=1:=(qL o).mp (of_decide_eq_true z2);refine⟨_,rfl,.inl ⟨rfl,_,SqL.of ae⟩,_,rfl,p,_,(n:Int),n,_,rfl,rfl,ae,by omega,by omega,?_,(by rw[tu (by rw[ba];exact hlt)]),?_⟩
    ·rw[ba];exact(Ai (by unfold ixN;rw[if_pos (by omega),if_pos (by omega)];rfl)).1
    ·rw[iK];refine⟨_,rfl,?_⟩;have e1:(bC xs e).map V.str=(xs.map V.str).eraseIdx n:=by
      unfold bC;rw[hk,hn];exact y7 V.str xs _
     rw[e1]at q;exact q
   ·have hk1:¬e.k=1:=λy=>z2 (decide_eq_true ((qL o).mpr y))
    have hk:e.k=2:=by have:=o.k3;omega
    refine ixv rfl ht' (qK (by omega)) ⟨_,rfl,_,rfl,p,_,(n:Int),n,rfl,rfl,ae,?_,?_⟩
    ·rw[ba];unfold ixN;rw[if_pos (by omega),if_pos (by omega)];rfl
    ·rw[iK];refine⟨_,rfl,?_⟩;have e1:(bC xs e).map V.str=(xs.map V.str).set n (V.str e.th):=by
      unfold bC;rw[hk,hn];simp[List.map_set]
     rw[e1]at q;exact q
end
mutual
theorem eqv_refl:∀d:PyData,d.canLay0=true->Tv d d=true
 | .none,_=>by simp[Tv]
 | .bool _,_=>by simp[Tv]
 | .int _,_=>by simp[Tv]
 | .str _,_=>by simp[Tv]
 | .list xs,h=>by simp only[Tv];exact eqvAll_refl xs (by simpa [R8] using h)
 | .tuple xs,h=>by simp only[Tv];exact eqvAll_refl xs (by simpa [R8] using h)
 | .dict _,h=>by simp[R8]at h
theorem eqvAll_refl:∀xs:List PyData,tm xs=true->PyData.eqvAll xs xs=true
 |[],_=>by simp[PyData.eqvAll]
 |x::xs,h=>by
  have h':x.canLay0=true/\tm xs=true:=by simpa [tm] using h
  simp only[PyData.eqvAll,eqv_refl x h'.1,eqvAll_refl xs h'.2,Ss]
end
theorem rW:∀k,k < 8->Sg (nm k)=true
 | 0,_=>by trivial
 | 1,_=>by trivial
 | 2,_=>by trivial
 | 3,_=>by trivial
 | 4,_=>by trivial
 | 5,_=>by trivial
 | 6,_=>by trivial
 | 7,_=>by trivial
 |n+8,h=>absurd h (by omega)
def nd (k:Nat):Str:=if k=4 then ar "two thirds" else ar "more"
def rowOf (k:Nat)(v:V):List V:=match k with
 | 4=>[.str (nm 4)]
 | 5=>[.str (nm 5)]
 | 6=>[.str (nm 6)]
 |k=>[.str (nm k),v]
def lP (k:Nat)(v:V):List (Str×V):=match k with
 | 0=>[(ar "text",v)]
 | 1=>[(ar "edit",v)]
 | 2=>[(ar "edit",v)]
 | 3=>[(ar "sitting",v)]
 | 4=>[]
 | 5=>[]
 | 6=>[]
 |_=>[(ar "clause",v)]
theorem Fz {m:Str}(h:m≠ar "text"/\m≠ar "edit"/\m≠ar "sitting"/\m≠ar "clause")(k:Nat)(v:V):(lP k v).lookup m=none:=by
 obtain⟨h1,h2,h3,h4⟩:=h;have b1:(m == ar "text")=false:=beq_eq_false_iff_ne.mpr h1;have b2:(m == ar "edit")=false:=beq_eq_false_iff_ne.mpr h2;have b3:(m == ar "sitting")=false:=beq_eq_false_iff_ne.mpr h3;have b4:(m == ar "clause")=false:=beq_eq_false_iff_ne.mpr h4;unfold lP;split <;> simp[List.lookup_cons,b1,b2,b3,b4]
theorem iP (k:Nat)(v:V):(lP k v).lookup (ar "kind")=none:=Fz (by trivial) k v
theorem K2 (k:Nat)(v:V):(lP k v).lookup (ar "rank")=none:=Fz (by trivial) k v
theorem K4 (k:Nat)(v:V):(lP k v).lookup (ar "need")=none:=Fz (by trivial) k v
theorem FA (k:Nat)(v:V):(lP k v).lookup (ar "told")=none:=Fz (by trivial) k v
def dM (k:Nat):Sp:=λvs H Q _=>∃m:Addr,vs=[.ref m]/\Q (.str (nm k)) H
def Jl (A:Adr):Sp:=λvs H Q _=>∃(m:Addr) (k:Nat) (dx:Addr) (fs:List (Str×V)),k < 8/\vs=[.ref m]/\H m=some (.ins (A.C k) dx fs)/\fs.lookup (ar "kind")=none/\Q (.int k) H
def A5 (k:Nat):Sp:=λvs H Q _=>∃m:Addr,vs=[.ref m]/\Q (.str (nd k)) H
def FC (A:Adr):Sp:=λvs H Q _=>∃(m:Addr) (k:Nat) (dx:Addr) (fs:List (Str×V)),k < 8/\vs=[.ref m]/\H m=some (.ins (A.C k) dx fs)/\fs.lookup (ar "kind")=none/\∀p,H p=none->Q (.ref p) (upd H p (.tup [.str (nm k)]))
def vz (A:Adr)(k:Nat)(a:Str):Sp:=λvs H Q _=>∃(m dx:Addr) (fs:List (Str×V)) (v:V),vs=[.ref m]/\H m=some (.ins (A.C k) dx fs)/\fs.lookup (ar "kind")=none/\fs.lookup a=some v/\∀p,H p=none->Q (.ref p) (upd H p (.tup [.str (nm k),v]))
def Ex (A:Adr)(k:Nat):Sp:=λvs H Q _=>1<=k/\∃(m dx:Addr) (v:V),vs=[.ref m]/\H m=some (.ins (A.C k) dx (lP k v))/\∀p,H p=none->Q (.ref p) (upd H p (.tup (rowOf k v)))
def A6 (A:Adr)(k:Nat):Sp:=λvs H Q _=>∃(m dx:Addr) (v:V),vs=[.ref m,v]/\H m=some (.ins (A.C k) dx [])/\Q .non (upd H m (.ins (A.C k) dx (lP k v)))
def FD (A:Adr)(K:bo):Sp:=λvs H Q _=>∃(m dx L:Addr) (xs:List V),vs=[.ref m]/\H m=some (.ins (A.C 0) dx (lP 0 (.ref L)))/\SqL K H L xs/\∀p q,H p=none->H q=none->p≠q->Q (.ref q) (upd (upd H p (.lst xs)) q (.tup [.str (nm 0),.ref p]))
def K5 (A:Adr)(K:bo):Sp:=λvs H Q _=>∃(m dx L:Addr) (xs:List V),vs=[.ref m,.ref L]/\H m=some (.ins (A.C 0) dx [])/\SqL K H L xs/\∀p,H p=none->Q .non (upd (upd H p (.lst xs)) m (.ins (A.C 0) dx (lP 0 (.ref p))))
def FE (A:Adr):Sp:=λvs H Q _=>∃(t:Addr) (k:Nat) (v:V),1<=k/\k < 8/\vs=[.ref t]/\H t=some (.tup (rowOf k v))/\∀m H',bc H H'->H m=none->(∃dx,H' m=some (.ins (A.C k) dx (lP k v)))->Q (.ref m) H'
def CJ (A:Adr)(K:bo):Sp:=λvs H Q _=>∃(t L:Addr) (xs:List V),vs=[.ref t]/\H t=some (.tup [.str (nm 0),.ref L])/\SqL K H L xs /\
 ∀m p H',bc H H'->H m=none->H p=none->H' p=some (.lst xs)->(∃dx,H' m=some (.ins (A.C 0) dx (lP 0 (.ref p))))->Q (.ref m) H'
section
variable{P:kr}{w:World}{K:bo}{mg:Str->Option Value}{base:Heap}{A:Adr}
theorem xN (T:Txt w.params K mg A):aX P w K mg base CX0 1 A.Nb A.Il ["self"] (dM 0):=by
 refine T.Q6.ok vX (λvs H Q E h=>?_) (λcdv A' outer s H vs Q E hr h=>?_)
 ·obtain⟨m,rfl,_⟩:=h;rfl
 ·obtain⟨m,rfl,q⟩:=h;exact⟨_,(ai (aI aj)),q⟩
theorem xO (T:Txt w.params K mg A):aX P w K mg base CX0 1 A.Nc A.Im ["self"] (dM 1):=by
 refine T.Q7.ok vY (λvs H Q E h=>?_) (λcdv A' outer s H vs Q E hr h=>?_)
 ·obtain⟨m,rfl,_⟩:=h;rfl
 ·obtain⟨m,rfl,q⟩:=h;exact⟨_,(ai (aI aj)),q⟩
theorem A7 (T:Txt w.params K mg A):aX P w K mg base CX0 1 A.Nd A.Io ["self"] (dM 2):=by
 refine T.Q8.ok AD (λvs H Q E h=>?_) (λcdv A' outer s H vs Q E hr h=>?_)
 ·obtain⟨m,rfl,_⟩:=h;rfl
 ·obtain⟨m,rfl,q⟩:=h;exact⟨_,(ai (aI aj)),q⟩
theorem xP (T:Txt w.params K mg A):aX P w K mg base CX0 1 A.Nf A.Ip ["self"] (dM 3):=by
 refine T.Q9.ok vZ (λvs H Q E h=>?_) (λcdv A' outer s H vs Q E hr h=>?_)
 ·obtain⟨m,rfl,_⟩:=h;rfl
 ·obtain⟨m,rfl,q⟩:=h;exact⟨_,(ai (aI aj)),q⟩
theorem yG (T:Txt w.params K mg A):aX P w K mg base CX0 1 A.Ng A.Iq ["self"] (dM 4):=by
 refine T.Ra.ok yz (λvs H Q E h=>?_) (λcdv A' outer s H vs Q E hr h=>?_)
 ·obtain⟨m,rfl,_⟩:=h;rfl
 ·obtain⟨m,rfl,q⟩:=h;exact⟨_,(ai (aI aj)),q⟩
theorem CK (T:Txt w.params K mg A):aX P w K mg base CX0 1 A.Nh A.Ir ["self"] (dM 5):=by
 refine T.Rb.ok B0 (λvs H Q E h=>?_) (λcdv A' outer s H vs Q E hr h=>?_)
 ·obtain⟨m,rfl,_⟩:=h;rfl
 ·obtain⟨m,rfl,q⟩:=h;exact⟨_,(ai (aI aj)),q⟩
theorem A8 (T:Txt w.params K mg A):aX P w K mg base CX0 1 A.Ni A.Iu ["self"] (dM 6):=by
 refine T.Rc.ok AE (λvs H Q E h=>?_) (λcdv A' outer s H vs Q E hr h=>?_)
 ·obtain⟨m,rfl,_⟩:=h;rfl
 ·obtain⟨m,rfl,q⟩:=h;exact⟨_,(ai (aI aj)),q⟩
theorem yH (T:Txt w.params K mg A):aX P w K mg base CX0 1 A.Nj A.Iv ["self"] (dM 7):=by
 refine T.Rf.ok yA (λvs H Q E h=>?_) (λcdv A' outer s H vs Q E hr h=>?_)
 ·obtain⟨m,rfl,_⟩:=h;rfl
 ·obtain⟨m,rfl,q⟩:=h;exact⟨_,(ai (aI aj)),q⟩
theorem iQ (T:Txt w.params K mg A):∀k,k < 8->aX P w K mg base CX0 1 (A.fk k) (A.fkd k) ["self"] (dM k)
 | 0,_=>xN T
 | 1,_=>xO T
 | 2,_=>A7 T
 | 3,_=>xP T
 | 4,_=>yG T
 | 5,_=>CK T
 | 6,_=>A8 T
 | 7,_=>yH T
 |n+8,h=>absurd h (by omega)
theorem K6 (T:Txt w.params K mg A):aX P w K mg base CX0 2 A.f_r A.KO ["self"] (Jl A):=by
 have d8:∀k,k < 8->aX P w K mg base CX0 1 (A.fk k) (A.fkd k) ["self"] (dM k):=iQ T;refine T.F_r.ok wc (λvs H Q E h=>?_) (λcdv A' outer s H vs Q E hr h=>?_)
 ·obtain⟨m,k,dx,fs,_,rfl,_⟩:=h;rfl
 ·obtain⟨m,k,dx,fs,hk,rfl,hm,hl,q⟩:=h;obtain⟨t,ht⟩:=T.rk k hk;refine⟨_,(ai (aI (aH DL (vh (v:=V.ref A.tab) rfl T.vy rfl) (cA (pv 0) (T.cl k hk) (T.mB k hk) (d8 k hk) hr (T.mD k hk) .nil aV) (λ_ _=>rfl)))),?_⟩
  try dsimp only[bt]
  exact⟨_,rfl,m,dx,fs,rfl,hm,hl,m,rfl,A.tab,nm k,.int k,_,rfl,rfl,T.tb,ht,⟨_,rfl⟩,q⟩
theorem tX (T:Txt w.params K mg A):aX P w K mg base CX0 2 A.f_t A.Iy ["self"] (FC A):=by
 have d8:∀k,k < 8->aX P w K mg base CX0 1 (A.fk k) (A.fkd k) ["self"] (dM k):=iQ T;refine T.F_t.ok wg (λvs H Q E h=>?_) (λcdv A' outer s H vs Q E hr h=>?_)
 ·obtain⟨m,k,dx,fs,_,rfl,_⟩:=h;rfl
 ·obtain⟨m,k,dx,fs,hk,rfl,hm,hl,q⟩:=h;refine⟨_,(ai (aI (a8 (aa (cA (pv 0) (T.cl k hk) (T.mB k hk) (d8 k hk) hr (T.mD k hk) .nil aV) af)))),?_⟩
  try dsimp only[bt]
  exact⟨_,rfl,m,dx,fs,rfl,hm,hl,m,rfl,(sl 1),λp hp=>q p hp⟩
theorem xQ (T:Txt w.params K mg A):aX P w K mg base CX0 2 A.Nm A.IA ["self"] (vz A 1 "edit"):=by
 have d8:∀k,k < 8->aX P w K mg base CX0 1 (A.fk k) (A.fkd k) ["self"] (dM k):=iQ T;refine T.Ri.ok wk (λvs H Q E h=>?_) (λcdv A' outer s H vs Q E hr h=>?_)
 ·obtain⟨m,dx,fs,v,rfl,_⟩:=h;rfl
 ·obtain⟨m,dx,fs,v,rfl,hm,hl,hv,q⟩:=h;obtain⟨k,hk,ek⟩:∃k,k < 8/\k=1:=⟨1,by decide,rfl⟩
  have hm':H m=some (.ins (A.C k) dx fs):=by rw[ek];exact hm
  refine⟨_,(ai (aI (a8 (aa (cA (pv 0) (T.cl k hk) (T.mB k hk) (d8 k hk) hr (T.mD k hk) .nil aV) (aa (a9 (pv 0) rfl) af))))),?_⟩
  try dsimp only[bt]
  subst ek;exact⟨_,rfl,m,dx,fs,rfl,hm,hl,m,rfl,_,rfl,m,A.C 1,dx,fs,v,rfl,hm,T.cl 1 hk,T.na1,hv,(sl 2),λp hp=>q p hp⟩
theorem jv (T:Txt w.params K mg A):aX P w K mg base CX0 1 A.Nt A.IF ["self","edit"] (A6 A 1):=by
 refine T.Rp.ok wq (λvs H Q E h=>?_) (λcdv A' outer s H vs Q E hr h=>?_)
 ·obtain⟨m,dx,v,rfl,_⟩:=h;rfl
 ·obtain⟨m,dx,v,rfl,hm,q⟩:=h;refine⟨_,(ai (cZ (pv 0) (pv 1) rfl)),?_⟩
  try dsimp only[bt]
  exact⟨_,rfl,_,rfl,m,A.C 1,dx,[],rfl,hm,T.cl 1 (by decide),T.na1,by decide,q⟩
theorem A9 (T:Txt w.params K mg A):aX P w K mg base CX0 2 A.Nn A.IB ["self"] (vz A 2 "edit"):=by
 have d8:∀k,k < 8->aX P w K mg base CX0 1 (A.fk k) (A.fkd k) ["self"] (dM k):=iQ T;refine T.Rj.ok AF (λvs H Q E h=>?_) (λcdv A' outer s H vs Q E hr h=>?_)
 ·obtain⟨m,dx,fs,v,rfl,_⟩:=h;rfl
 ·obtain⟨m,dx,fs,v,rfl,hm,hl,hv,q⟩:=h;obtain⟨k,hk,ek⟩:∃k,k < 8/\k=2:=⟨2,by decide,rfl⟩
  have hm':H m=some (.ins (A.C k) dx fs):=by rw[ek];exact hm
  refine⟨_,(ai (aI (a8 (aa (cA (pv 0) (T.cl k hk) (T.mB k hk) (d8 k hk) hr (T.mD k hk) .nil aV) (aa (a9 (pv 0) rfl) af))))),?_⟩
  try dsimp only[bt]
  subst ek;exact⟨_,rfl,m,dx,fs,rfl,hm,hl,m,rfl,_,rfl,m,A.C 2,dx,fs,v,rfl,hm,T.cl 2 hk,T.na2,hv,(sl 2),λp hp=>q p hp⟩
theorem rX (T:Txt w.params K mg A):aX P w K mg base CX0 1 A.Nu A.IG ["self","edit"] (A6 A 2):=by
 refine T.Rq.ok AG (λvs H Q E h=>?_) (λcdv A' outer s H vs Q E hr h=>?_)
 ·obtain⟨m,dx,v,rfl,_⟩:=h;rfl
 ·obtain⟨m,dx,v,rfl,hm,q⟩:=h;refine⟨_,(ai (cZ (pv 0) (pv 1) rfl)),?_⟩
  try dsimp only[bt]
  exact⟨_,rfl,_,rfl,m,A.C 2,dx,[],rfl,hm,T.cl 2 (by decide),T.na2,by decide,q⟩
theorem xR (T:Txt w.params K mg A):aX P w K mg base CX0 2 A.Np A.IC ["self"] (vz A 3 "sitting"):=by
 have d8:∀k,k < 8->aX P w K mg base CX0 1 (A.fk k) (A.fkd k) ["self"] (dM k):=iQ T;refine T.Rm.ok wm (λvs H Q E h=>?_) (λcdv A' outer s H vs Q E hr h=>?_)
 ·obtain⟨m,dx,fs,v,rfl,_⟩:=h;rfl
 ·obtain⟨m,dx,fs,v,rfl,hm,hl,hv,q⟩:=h;obtain⟨k,hk,ek⟩:∃k,k < 8/\k=3:=⟨3,by decide,rfl⟩
  have hm':H m=some (.ins (A.C k) dx fs):=by rw[ek];exact hm
  refine⟨_,(ai (aI (a8 (aa (cA (pv 0) (T.cl k hk) (T.mB k hk) (d8 k hk) hr (T.mD k hk) .nil aV) (aa (a9 (pv 0) rfl) af))))),?_⟩
  try dsimp only[bt]
  subst ek;exact⟨_,rfl,m,dx,fs,rfl,hm,hl,m,rfl,_,rfl,m,A.C 3,dx,fs,v,rfl,hm,T.cl 3 hk,T.na3,hv,(sl 2),λp hp=>q p hp⟩
theorem og (T:Txt w.params K mg A):aX P w K mg base CX0 1 A.Nv A.IH ["self","sitting"] (A6 A 3):=by
 refine T.Rr.ok wu (λvs H Q E h=>?_) (λcdv A' outer s H vs Q E hr h=>?_)
 ·obtain⟨m,dx,v,rfl,_⟩:=h;rfl
 ·obtain⟨m,dx,v,rfl,hm,q⟩:=h;refine⟨_,(ai (cZ (pv 0) (pv 1) rfl)),?_⟩
  try dsimp only[bt]
  exact⟨_,rfl,_,rfl,m,A.C 3,dx,[],rfl,hm,T.cl 3 (by decide),T.na3,by decide,q⟩
theorem yI (T:Txt w.params K mg A):aX P w K mg base CX0 2 A.Nq A.ID ["self"] (vz A 7 "clause"):=by
 have d8:∀k,k < 8->aX P w K mg base CX0 1 (A.fk k) (A.fkd k) ["self"] (dM k):=iQ T;refine T.Rn.ok yC (λvs H Q E h=>?_) (λcdv A' outer s H vs Q E hr h=>?_)
 ·obtain⟨m,dx,fs,v,rfl,_⟩:=h;rfl
 ·obtain⟨m,dx,fs,v,rfl,hm,hl,hv,q⟩:=h;obtain⟨k,hk,ek⟩:∃k,k < 8/\k=7:=⟨7,by decide,rfl⟩
  have hm':H m=some (.ins (A.C k) dx fs):=by rw[ek];exact hm
  refine⟨_,(ai (aI (a8 (aa (cA (pv 0) (T.cl k hk) (T.mB k hk) (d8 k hk) hr (T.mD k hk) .nil aV) (aa (a9 (pv 0) rfl) af))))),?_⟩
  try dsimp only[bt]
  subst ek;exact⟨_,rfl,m,dx,fs,rfl,hm,hl,m,rfl,_,rfl,m,A.C 7,dx,fs,v,rfl,hm,T.cl 7 hk,T.na7,hv,(sl 2),λp hp=>q p hp⟩
theorem qb (T:Txt w.params K mg A):aX P w K mg base CX0 1 A.Nw A.II ["self","clause"] (A6 A 7):=by
 refine T.Rt.ok yD (λvs H Q E h=>?_) (λcdv A' outer s H vs Q E hr h=>?_)
 ·obtain⟨m,dx,v,rfl,_⟩:=h;rfl
 ·obtain⟨m,dx,v,rfl,hm,q⟩:=h;refine⟨_,(ai (cZ (pv 0) (pv 1) rfl)),?_⟩
  try dsimp only[bt]
  exact⟨_,rfl,_,rfl,m,A.C 7,dx,[],rfl,hm,T.cl 7 (by decide),T.na7,by decide,q⟩
theorem Jm {k:Nat}{f:Addr}{fd:fi}{ps:List Str}{sp:Sp}(h:∀vs H Q E,¬sp vs H Q E):aX P w K mg base CX0 k f fd ps sp :=
 ⟨λvs H Q E z=>(h vs H Q E z).elim,λ_ _ _ H _ _ vs Q E _ _ _ _ z=>(h vs H Q E z).elim⟩
theorem qM {k:Nat}(hk:k=4\/k=5\/k=6):∀vs H Q E,Ex A k vs H Q E->FC A vs H Q E:=λvs H Q E ⟨_,m,dx,v,e,hm,q⟩ =>
 ⟨m,k,dx,lP k v,by omega,e,hm,iP k v,λp hp=>by
  have:=q p hp;rcases hk with rfl | rfl | rfl <;> exact this⟩
theorem mH (T:Txt w.params K mg A):∀k,k < 8->aX P w K mg base CX0 2 (A.ft k) (A.ftd k) ["self"] (Ex A k)
 | 0,_=>Jm λvs H Q E h=>absurd h.1 (by decide)
 | 1,_=>(xQ T).imp λvs H Q E ⟨_,m,dx,v,e,hm,q⟩=>⟨m,dx,_,v,e,hm,iP 1 v,rfl,q⟩
 | 2,_=>(A9 T).imp λvs H Q E ⟨_,m,dx,v,e,hm,q⟩=>⟨m,dx,_,v,e,hm,iP 2 v,rfl,q⟩
 | 3,_=>(xR T).imp λvs H Q E ⟨_,m,dx,v,e,hm,q⟩=>⟨m,dx,_,v,e,hm,iP 3 v,rfl,q⟩
 | 4,_=>(tX T).imp (qM (.inl rfl))
 | 5,_=>(tX T).imp (qM (.inr (.inl rfl)))
 | 6,_=>(tX T).imp (qM (.inr (.inr rfl)))
 | 7,_=>(yI T).imp λvs H Q E ⟨_,m,dx,v,e,hm,q⟩=>⟨m,dx,_,v,e,hm,iP 7 v,rfl,q⟩
 |n+8,h=>absurd h (by omega)
theorem xS (T:Txt w.params K mg A):aX P w K mg base CX0 1 A.Nr A.IE ["self","text"] (K5 A K):=by
 refine T.Ro.ok wo (λvs H Q E h=>?_) (λcdv A' outer s H vs Q E hr h=>?_)
 ·obtain⟨m,dx,L,xs,rfl,_⟩:=h;rfl
 ·obtain⟨m,dx,L,xs,rfl,hm,hL,q⟩:=h;refine⟨_,(ai (cZ (pv 0) (bD bA (by rfl) T.eQ cW (aa (pv 1) af)) rfl)),?_⟩
  try dsimp only[bt]
  refine⟨_,rfl,L,xs,rfl,.inl hL,λp hp=>?_⟩
  have nmp:m≠p:=az hm hp;exact⟨_,rfl,m,A.C 0,dx,[],rfl,(ao nmp).trans hm,T.cl 0 (by decide),T.na0,by decide,q p hp⟩
theorem Jn (T:Txt w.params K mg A):aX P w K mg base CX0 2 A.Nl A.Iz ["self"] (FD A K):=by
 have d8:∀k,k < 8->aX P w K mg base CX0 1 (A.fk k) (A.fkd k) ["self"] (dM k):=iQ T;refine T.Rh.ok wj (λvs H Q E h=>?_) (λcdv A' outer s H vs Q E hr h=>?_)
 ·obtain⟨m,dx,L,xs,rfl,_⟩:=h;rfl
 ·obtain⟨m,dx,L,xs,rfl,hm,hL,q⟩:=h;obtain⟨k,hk,ek⟩:∃k,k < 8/\k=0:=⟨0,by decide,rfl⟩
  refine⟨_,(ai (aI (a8 (aa (cA (pv 0) (T.cl k hk) (T.mB k hk) (d8 k hk) hr (T.mD k hk) .nil aV) (aa (bD bA (by rfl) T.eQ cW (aa (a9 (pv 0) rfl) af)) af))))),?_⟩
  try dsimp only[bt]
  subst ek;refine⟨_,rfl,m,dx,_,rfl,hm,iP 0 _,m,rfl,_,rfl,m,A.C 0,dx,_,_,rfl,hm,T.cl 0 hk,T.na0,rfl,L,xs,rfl,.inl hL,λp hp=>⟨(sl 2),λq' hq'=>?_⟩⟩
  have npq:p≠q':=az ae hq';have hq:H q'=none:=by rw[ao (R4 npq)]at hq';exact hq'
  exact q p q' hp hq npq
theorem Ba (T:Txt w.params K mg A):aX P w K mg base CX0 3 A.ll A.fN ["told"] (FE A):=by
 refine T.nX.ok iN (λvs H Q E h=>?_) (λcdv A' outer s H vs Q E hr h=>?_)
 ·obtain⟨t,k,v,_,_,rfl,_⟩:=h;rfl
 ·obtain⟨t,k,v,h1,h8,rfl,ht,q⟩:=h;have f6:=hr;refine⟨_,(ah (aZ (i:=1) iN.nd rfl (ma rfl) (aH aK (pv 0) ag (λ_ _=>rfl)))
 (ah (a4 (aC bf (pv 1) aj (aN _))
 (ai (aI (dP T.xt (xS T) f6 rfl T.xq T.ND .nil aV (aa (aH aK (pv 0) ag (λ_ _=>rfl)) af))))
 aJ)
 (ah (a4 (aC bf (pv 1) aj (aN _))
 (ai (aI (dP T.xu (jv T) f6 rfl T.xr T.NF .nil aV (aa (aH aK (pv 0) ag (λ_ _=>rfl)) af))))
 aJ)
 (ah (a4 (aC bf (pv 1) aj (aN _))
 (ai (aI (dP T.Jd (rX T) f6 rfl T.Ja T.Pf .nil aV (aa (aH aK (pv 0) ag (λ_ _=>rfl)) af))))
 aJ)
 (ah (a4 (aC bf (pv 1) aj (aN _))
 (ai (aI (dP T.CD (og T) f6 rfl T.CC T.Pg .nil aV (aa (aH aK (pv 0) ag (λ_ _=>rfl)) af))))
 aJ)
 (ah (a4 (aC bf (pv 1) aj (aN _))
 (ai (aI (kP (T.mkn 4 (by decide)) rfl T.Fu)))
 aJ)
 (ah (a4 (aC bf (pv 1) aj (aN _))
 (ai (aI (kP (T.mkn 5 (by decide)) rfl T.Mb)))
 aJ)
 (ah (a4 (aC bf (pv 1) aj (aN _))
 (ai (aI (kP (T.mkn 6 (by decide)) rfl T.Jb)))
 aJ)
 (ai (aI (dP T.Fw (qb T) f6 rfl T.Fv T.Ph .nil aV (aa (aH aK (pv 0) ag (λ_ _=>rfl)) af)))))))))))),?_⟩
  try dsimp only[bt]
  have h0:atI (rowOf k v) 0=some (.str (nm k)):=by
   have hk:k=1\/k=2\/k=3\/k=4\/k=5\/k=6\/k=7:=by omega
   rcases hk with rfl | rfl | rfl | rfl | rfl | rfl | rfl <;> rfl
  refine ixv rfl (SqT.of ht) h0 ?_;have hk:k=1\/k=2\/k=3\/k=4\/k=5\/k=6\/k=7:=by omega
  rcases hk with rfl | rfl | rfl | rfl | rfl | rfl | rfl
  ·refine⟨_,rfl,rfl,tsf (by trivial) ⟨_,rfl,rfl,tst (by trivial) ?_⟩⟩
   exact⟨_,rfl,t,_,_,v,rfl,rfl,SqT.of ht,rfl,λm dx nm ndx ne=>⟨m,dx,v,rfl,ae,rfl,q m _ ((((bc.refl H).own ndx).own nm).own nm) nm ⟨dx,ae⟩⟩⟩
  ·refine⟨_,rfl,rfl,tsf (by trivial) ⟨_,rfl,rfl,tsf (by trivial) ⟨_,rfl,rfl,tst (by trivial) ?_⟩⟩⟩
   exact⟨_,rfl,t,_,_,v,rfl,rfl,SqT.of ht,rfl,λm dx nm ndx ne=>⟨m,dx,v,rfl,ae,rfl,q m _ ((((bc.refl H).own ndx).own nm).own nm) nm ⟨dx,ae⟩⟩⟩
  ·refine⟨_,rfl,rfl,tsf (by trivial) ⟨_,rfl,rfl,tsf (by trivial) ⟨_,rfl,rfl,tsf (by trivial) ⟨_,rfl,rfl,tst (by trivial) ?_⟩⟩⟩⟩
   exact⟨_,rfl,t,_,_,v,rfl,rfl,SqT.of ht,rfl,λm dx nm ndx ne=>⟨m,dx,v,rfl,ae,rfl,q m _ ((((bc.refl H).own ndx).own nm).own nm) nm ⟨dx,ae⟩⟩⟩
  ·refine⟨_,rfl,rfl,tsf (by trivial) ⟨_,rfl,rfl,tsf (by trivial) ⟨_,rfl,rfl,tsf (by trivial) ⟨_,rfl,rfl,tsf (by trivial) ⟨_,rfl,rfl,tst (by trivial) ?_⟩⟩⟩⟩⟩
   exactλm dx nm ndx ne=>q m _ (((bc.refl H).own ndx).own nm) nm ⟨dx,ae⟩
  ·refine⟨_,rfl,rfl,tsf (by trivial) ⟨_,rfl,rfl,tsf (by trivial) ⟨_,rfl,rfl,tsf (by trivial) ⟨_,rfl,rfl,tsf (by trivial) ⟨_,rfl,rfl,tsf (by trivial) ⟨_,rfl,rfl,tst (by trivial) ?_⟩⟩⟩⟩⟩⟩
   exactλm dx nm ndx ne=>q m _ (((bc.refl H).own ndx).own nm) nm ⟨dx,ae⟩
  ·refine⟨_,rfl,rfl,tsf (by trivial) ⟨_,rfl,rfl,tsf (by trivial) ⟨_,rfl,rfl,tsf (by trivial) ⟨_,rfl,rfl,tsf (by trivial) ⟨_,rfl,rfl,tsf (by trivial) ⟨_,rfl,rfl,tsf (by trivial) ⟨_,rfl,rfl,tst (by trivial) ?_⟩⟩⟩⟩⟩⟩⟩
   exactλm dx nm ndx ne=>q m _ (((bc.refl H).own ndx).own nm) nm ⟨dx,ae⟩
  ·refine⟨_,rfl,rfl,tsf (by trivial) ⟨_,rfl,rfl,tsf (by trivial) ⟨_,rfl,rfl,tsf (by trivial) ⟨_,rfl,rfl,tsf (by trivial) ⟨_,rfl,rfl,tsf (by trivial) ⟨_,rfl,rfl,tsf (by trivial) ⟨_,rfl,rfl,tsf (by trivial) ?_⟩⟩⟩⟩⟩⟩⟩
   exact⟨_,rfl,t,_,_,v,rfl,rfl,SqT.of ht,rfl,λm dx nm ndx ne=>⟨m,dx,v,rfl,ae,rfl,q m _ ((((bc.refl H).own ndx).own nm).own nm) nm ⟨dx,ae⟩⟩⟩
theorem yJ (T:Txt w.params K mg A):aX P w K mg base CX0 3 A.ll A.fN ["told"] (CJ A K):=by
 refine T.nX.ok iN (λvs H Q E h=>?_) (λcdv A' outer s H vs Q E hr h=>?_)
 ·obtain⟨t,L,xs,rfl,_⟩:=h;rfl
 ·obtain⟨t,L,xs,rfl,ht,hL,q⟩:=h;have f6:=hr;refine⟨_,(ah (aZ (i:=1) iN.nd rfl (ma rfl) (aH aK (pv 0) ag (λ_ _=>rfl)))
 (ah (a4 (aC bf (pv 1) aj (aN _))
 (ai (aI (dP T.xt (xS T) f6 rfl T.xq T.ND .nil aV (aa (aH aK (pv 0) ag (λ_ _=>rfl)) af))))
 aJ)
 (ah (a4 (aC bf (pv 1) aj (aN _))
 (ai (aI (dP T.xu (jv T) f6 rfl T.xr T.NF .nil aV (aa (aH aK (pv 0) ag (λ_ _=>rfl)) af))))
 aJ)
 (ah (a4 (aC bf (pv 1) aj (aN _))
 (ai (aI (dP T.Jd (rX T) f6 rfl T.Ja T.Pf .nil aV (aa (aH aK (pv 0) ag (λ_ _=>rfl)) af))))
 aJ)
 (ah (a4 (aC bf (pv 1) aj (aN _))
 (ai (aI (dP T.CD (og T) f6 rfl T.CC T.Pg .nil aV (aa (aH aK (pv 0) ag (λ_ _=>rfl)) af))))
 aJ)
 (ah (a4 (aC bf (pv 1) aj (aN _))
 (ai (aI (kP (T.mkn 4 (by decide)) rfl T.Fu)))
 aJ)
 (ah (a4 (aC bf (pv 1) aj (aN _))
 (ai (aI (kP (T.mkn 5 (by decide)) rfl T.Mb)))
 aJ)
 (ah (a4 (aC bf (pv 1) aj (aN _))
 (ai (aI (kP (T.mkn 6 (by decide)) rfl T.Jb)))
 aJ)
 (ai (aI (dP T.Fw (qb T) f6 rfl T.Fv T.Ph .nil aV (aa (aH aK (pv 0) ag (λ_ _=>rfl)) af)))))))))))),?_⟩
  try dsimp only[bt]
  refine ixv rfl (SqT.of ht) rfl ?_;refine⟨_,rfl,rfl,tst (by trivial) ?_⟩
  refine⟨_,rfl,t,_,_,.ref L,rfl,rfl,SqT.of ht,rfl,λm dx nm ndx ne=>⟨m,dx,L,xs,rfl,ae,(((bc.refl H).own ndx).own nm).seq hL,λp hp=>⟨rfl,?_⟩⟩⟩
  have s1:bc H (upd (upd H dx (.own m)) m (.ins (A.C 0) dx [])):=((bc.refl H).own ndx).own nm;have npm:p≠m:=λz=>by rw[z,ae]at hp;cases hp
  exact q m p _ ((s1.new hp).own nm) nm (s1.free hp) ((ao npm).trans ae) ⟨dx,ae⟩
end
abbrev CL:Str:=ar "more"
def g9 (n:Str)(a b:Int):Bool:=if a<=b then false else (decide (n=CL) || decide (2 * b<=a))
def NH:Sp:=λvs H Q _=>∃(n:Str) (a b:Int),vs=[.str n,.int a,.int b]/\Q (.bl (g9 n a b)) H
section
variable{P:kr}{w:World}{K:bo}{mg:Str->Option Value}{base:Heap}{A:Adr}
theorem Ey (T:Txt w.params K mg A):aX P w K mg base CX0 1 A.AO A.qv ["need","ayes","noes"] NH:=by
 refine T.zz.ok D0 (λvs H Q E h=>?_) (λcdv A' outer s H vs Q E hr h=>?_)
 ·obtain⟨n,a,b,rfl,_⟩:=h;rfl
 ·obtain⟨n,a,b,rfl,q⟩:=h;refine⟨_,(ah (a4 (aC q5 (pv 1) (pv 2) (aN _))
 (ai (aI gb))
 aJ)
 (ai (aI (Ox (gO bf (pv 0) aj (aN _)) (Dr (gO LV (pv 1) (aW sJ ag (pv 2)) (aN _))))))),?_⟩
  try dsimp only[bt]
  refine⟨_,rfl,_,rfl,_,_,rfl,rfl,_,rfl,dc (λe=>?_) (λe=>?_)⟩
  ·have e':a<=b:=of_decide_eq_true e;rw[g9,if_pos e']at q;exact q
  ·have e':¬a<=b:=λz=>e (decide_eq_true z)
   rw[g9,if_neg e']at q;refine⟨_,rfl,rfl,_,rfl,dc (λe2=>?_) (λe2=>?_)⟩
   ·have h2:n=CL:=by injection of_decide_eq_true e2
    rw[decide_eq_true h2,Bool.true_or]at q;exact q
   ·have h2:¬n=CL:=λz=>e2 (decide_eq_true (by rw[z]))
    rw[decide_eq_false h2,Bool.false_or]at q;exact⟨_,rfl,_,rfl,_,_,rfl,rfl,.inl ⟨by decide,by decide⟩,_,_,rfl,rfl,q⟩
end
namespace R
abbrev bl1:Str:=ar " "
abbrev em:Str:=ar ""
theorem kG:bl1=⟨#[32]⟩:=by trivial
theorem Mc:em=⟨#[]⟩:=by trivial
abbrev sg:Str:=ar "!\"#$&'()*+,-./0123456789:;<=>?@ABCDEFGHIJKLMNOPQRSTUVWXYZ[\\]^_`abcdefghijklmnopqrstuvwxyz{|}~"
def Sign (c:Nat):Prop:=33<=c/\c<=126/\c≠37
instance:DecidablePred Sign:=λc=>by unfold Sign;exact inferInstance
structure kH (x:Str):Prop where
 l1:1<=x.length
 l2:x.length<=20
 sgn:∀c∈x.cps.toList,Sign c
 ns:x≠ar "/"
def Asc (x:Str):Prop:=∀c∈x.cps.toList,c < 128
theorem Asc.ok {x:Str}(h:Asc x):Sg x=true:=by
 unfold Sg;rw[Array.all_eq_true];intro i hi;have:=h x.cps[i] (by simp)
 exact decide_eq_true (by omega)
theorem kH.asc {x:Str}(w:kH x):Asc x:=λc hc=>by have:=w.sgn c hc;unfold Sign at this;omega
theorem js {sep:Str}(hs:Asc sep):∀ws:List Str,(∀w∈ws,Asc w)->Asc (ky sep ws)
 |[],_=>λc hc=>by
  have:c∈([]:List Nat):=hc;cases this
 |[x],h=>h x eg
 |x::y::r,h=>λc hc=>by
  have hc':c∈((x++sep)++ky sep (y::r)).cps.toList:=hc;rw[dB,dB,List.mem_append,List.mem_append]at hc';rcases hc' with (h1 | h1) | h1
  ·exact h x eg c h1
  ·exact hs c h1
  ·exact js hs (y::r) (λw hw=>h w (km _ hw)) c h1
abbrev Pk:List Str:=[ar "-",ar "put",ar "/a",ar "0",ar "off",ar "//",ar "matter",ar "a"]
theorem Jo {x:Str}(h:decide (1<=x.length/\x.length<=20/\(∀c∈x.cps.toList,Sign c)/\x≠ar "/")=true):kH x:=by
 obtain⟨a,b,c,d⟩:=of_decide_eq_true h;exact⟨a,b,c,d⟩
theorem NI:∀x∈Pk,kH x:=by
 intro x hx;simp only[TK,Ta,or_false]at hx;rcases hx with rfl | rfl | rfl | rfl | rfl | rfl | rfl | rfl <;> exact Jo (by trivial)
structure Clause (n:Nat)(x:Str)(ws:List Str):Prop where
 eq:x=ky bl1 ws
 len:ws.length<=n
 wd:∀w∈ws,kH w
theorem Clause.asc {n:Nat}{x:Str}{ws:List Str}(c:Clause n x ws):Asc x:=by
 rw[c.eq];exact js (by rw[kG];intro d hd;have:d=32:=(by simpa using hd);omega) ws λw hw=>(c.wd w hw).asc
theorem zL {ws:List Str}(h:∀w∈ws,kH w):(ws.map (·.length)).sum<=ws.length * 20:=StrLaws.sumLen_le ws λw hw=>(h w hw).l2
theorem Clause.size {n:Nat}{x:Str}{ws:List Str}(c:Clause n x ws):x.length<=n * 21:=by
 rw[c.eq,kG];have h1:=oV 32 ws;have h2:=zL c.wd;have h3:=c.len;omega
abbrev sl1:Str:=ar "/"
def num (i:Int):Str:=ar (toString i)
theorem FF {i:Int}(h0:0<=i)(h1:i < 10 ^ 10):(num i).length<=10:=PyProof.Rows.toString_length_le h0 (by decide) h1
theorem pj {i:Int}(h0:0<=i)(h1:i < 10 ^ 10):i.natAbs.log2 < 1920:=by
 have h:i.natAbs < 2 ^ 34:=by
  have:(10:Int) ^ 10<=2 ^ 34:=by decide
  omega
 by_cases hz:i.natAbs=0
 ·rw[hz];decide
 ·exact Nat.lt_trans ((Nat.log2_lt hz).mpr h) (by decide)
def bb (z:Str):List Str:=if z=em then [] else PySem.Txt.split z bl1
theorem kH.free {x:Str}(w:kH x):32∉x.cps.toList:=λz=>by have:=w.sgn _ z;unfold Sign at this;omega
theorem cJ {ws:List Str}(h:∀w∈ws,kH w):bb (ky bl1 ws)=ws:=by
 cases ws with
 |nil=>exact if_pos (by rw[Mc];rfl)
 |cons x r =>
  have l:=yx (c:=32) (Sd x r) λw hw=>(h w hw).l1
  have ne:¬ky bl1 (x::r)=em:=λe=>by
   rw[kG]at e;rw[e,Mc]at l;exact absurd l (by decide)
  unfold bb;rw[if_neg ne,kG];exact DJ (Sd x r) λw hw=>(h w hw).free
inductive cK where
 |mat (cs:List (List Str))
 |ed (m:Bool) (k:Nat) (i:Int) (ws:List Str)
 |pt (ws:List Str)
 |nums (kd:Str) (ns:List Int)
def kEd (m:Bool):Str:=if m then ar "mend" else ar "change"
def kn:Nat->Str
 | 0=>ar "put"
 | 1=>ar "cut"
 |_=>ar "turn"
def edR (k:Nat)(i:Int)(x:Str):List V:=if k=1 then [.str (kn 1),.int i] else [.str (kn k),.int i,.str x]
def cM:List (Str×Nat):=[(ar "put off",1),(ar "vote",2),(ar "take",1),(ar "close",0),(ar "lay",0),(ar "rest",0),(ar "drop",0)]
structure xT (n:Nat)(ws:List Str):Prop where
 len:ws.length<=n
 wd:∀w∈ws,kH w
def DOk:cK->Prop
 | .mat cs=>cs.length<=12/\∀ws∈cs,xT 12 ws
 | .ed m k i ws=>(k=0\/k=1\/k=2)/\(0<=i/\i < 10 ^ 10)/\xT 12 ws/\(m=true->ws.length=1)
 | .pt ws=>xT 12 ws
 | .nums kd ns=>(kd,ns.length)∈cM/\∀i∈ns,0<=i/\i < 10 ^ 10
def oh (K:bo)(H:Hp):cK->Addr->Prop
 | .mat cs,t=>∃L,SqT K H t [.str (ar "matter"),.ref L]/\SqL K H L ((cs.map (ky bl1)).map V.str)
 | .ed m k i ws,t=>∃e,SqT K H t [.str (kEd m),.ref e]/\SqT K H e (edR k i (ky bl1 ws))
 | .pt ws,t=>SqT K H t [.str (ar "point"),.str (ky bl1 ws)]
 | .nums kd ns,t=>SqT K H t (.str kd::ns.map V.int)
theorem oh.same {K:bo}{H H':Hp}(s:bc H H'):∀ {d:cK} {t:Addr},oh K H d t->oh K H' d t
 | .mat _,_,⟨L,a,b⟩=>⟨L,bj s a,s.seq b⟩
 | .ed _ _ _ _,_,⟨e,a,b⟩=>⟨e,bj s a,bj s b⟩
 | .pt _,_,a=>bj s a
 | .nums _ _,_,a=>bj s a
def eF:cK->Str
 | .mat _=>ar "matter"
 | .ed m _ _ _=>kEd m
 | .pt _=>ar "point"
 | .nums kd _=>kd
def cN:cK->List Str
 | .mat cs=>cs.flatMap λws=>sl1::ws
 | .ed _ k i ws=>kn k::num i::(if k=1 then [] else ws)
 | .pt ws=>ws
 | .nums _ ns=>ns.map num
def lQ (d:cK):Str:=ky bl1 (eF d::cN d)
theorem NJ (k:Nat):(kn k).length<=4:=by
 unfold kn;split <;> trivial
theorem K7 (m:Bool):(kEd m).length<=6:=by cases m <;> trivial
theorem kd_len {kd:Str}{n:Nat}(h:(kd,n)∈cM):kd.length<=7/\n<=2:=by
 simp only[cM,TK,Ta,or_false,Prod.mk.injEq]at h;rcases h with ⟨rfl,rfl⟩ | ⟨rfl,rfl⟩ | ⟨rfl,rfl⟩ | ⟨rfl,rfl⟩ | ⟨rfl,rfl⟩ | ⟨rfl,rfl⟩ | ⟨rfl,rfl⟩ <;> trivial
theorem pq {d:cK}(o:DOk d):(cN d).length<=200/\(∀w∈cN d,w.length<=20)/\(eF d).length<=20:=by
 cases d with
 |mat cs =>
  obtain⟨o1,o2⟩:=o;refine⟨?_,λw hw=>?_,by show (ar "matter").length<=20;trivial⟩
  ·show (cs.flatMap λws=>sl1::ws).length<=200
   have:∀l:List (List Str),(∀ws∈l,xT 12 ws)->(l.flatMap λws=>sl1::ws).length<=l.length * 13:=λl=>by
    induction l with
    |nil=>intro _;exact gn _
    |cons x l ih =>
     intro h;have h1:=(h x eg).len;have h2:=ih λw hw=>h w (km _ hw)
     rw[List.flatMap_cons,ka,rf,rf];omega
   have:=this cs o2;omega
  ·obtain⟨ws,h1,h2⟩:=List.mem_flatMap.mp hw;rcases List.mem_cons.mp h2 with rfl | h2
   ·trivial
   ·exact((o2 ws h1).wd w h2).l2
 |ed m k i ws =>
  obtain⟨o1,⟨i0,i1⟩,o3,_⟩:=o;have l:=o3.len;refine⟨?_,λw hw=>?_,?_⟩
  ·show (kn k::num i::(if k=1 then [] else ws)).length<=200
   split <;> simp <;> omega
  ·have hw':w∈kn k::num i::(if k=1 then [] else ws):=hw
   rcases List.mem_cons.mp hw' with rfl | hw'
   ·have:=NJ k;omega
   ·rcases List.mem_cons.mp hw' with rfl | hw'
    ·have:=FF i0 i1;omega
    ·split at hw'
     ·cases hw'
     ·exact(o3.wd w hw').l2
  ·have:=K7 m;show (kEd m).length<=20;omega
 |pt ws=>exact⟨by have:=o.len;show ws.length<=200;omega,λw hw=>(o.wd w hw).l2,by show (ar "point").length<=20;trivial⟩
 |nums kd ns =>
  obtain⟨o1,o2⟩:=o;have:=kd_len o1;refine⟨by show (ns.map num).length<=200;rw[ba];omega,λw hw=>?_,by show kd.length<=20;omega⟩
  obtain⟨i,hi,rfl⟩:=List.mem_map.mp hw;have:=FF (o2 i hi).1 (o2 i hi).2;omega
def iY:Sp:=λvs H Q _=>∃z,vs=[.str z]/\z.length+2<=fe/\∀p,H p=none->Q (.ref p) (upd H p (.lst ((bb z).map V.str)))
def qN (K:bo):Sp:=λvs H Q _=>∃a ws,vs=[.ref a]/\SqL K H a (ws.map V.str)/\(ws.map (·.length)).sum+ws.length<=16777216/\Q (.str (ky bl1 ws)) H
def NK (K:bo):Sp:=λvs H Q _=>∃(L:Addr) (cs:List (List Str)),vs=[.ref L]/\SqL K H L ((cs.map (ky bl1)).map V.str)/\DOk (.mat cs)/\∀p H',bc H H'->H p=none->H' p=some (.lst ((cN (.mat cs)).map V.str))->Q (.ref p) H'
def K8 (K:bo):Sp:=λvs H Q _=>∃(t:Addr) (m:Bool) (k:Nat) (i:Int) (ws:List Str),vs=[.ref t]/\SqT K H t (edR k i (ky bl1 ws))/\DOk (.ed m k i ws)/\∀p H',bc H H'->H p=none->H' p=some (.lst ((cN (.ed m k i ws)).map V.str))->Q (.ref p) H'
def Jp (K:bo):Sp:=λvs H Q _=>∃(t:Addr) (d:cK),vs=[.ref t]/\oh K H d t/\DOk d/\∀p H',bc H H'->H p=none->H' p=some (.lst ((cN d).map V.str))->Q (.ref p) H'
def tY (K:bo):Sp:=λvs H Q _=>∃(t:Addr) (d:cK),vs=[.ref t]/\oh K H d t/\DOk d/\∀H',bc H H'->Q (.str (lQ d)) H'
theorem qL {k:Nat}(h:k=0\/k=1\/k=2):(V.str (kn k)=V.str (ar "cut"))↔k=1:=by
 rcases h with rfl | rfl | rfl <;> trivial
theorem FG (k:Nat)(i:Int)(x:Str):atI (edR k i x) 0=some (.str (kn k)):=by
 unfold edR;split
 ·rename_i h;rw[h];rfl
 ·rfl
theorem K9 (k:Nat)(i:Int)(x:Str):atI (edR k i x) 1=some (.int i):=by
 unfold edR;split <;> rfl
theorem La {k:Nat}(h:k≠1)(i:Int)(x:Str):atI (edR k i x) 2=some (.str x):=by
 unfold edR;rw[if_neg h];rfl
theorem gG {ws:List Str}(o:xT 12 ws):(ky bl1 ws).length<=300:=by
 have h1:=oV 32 ws;have h2:=zL o.wd;have h3:=o.len;rw[kG];omega
theorem Md {kd:Str}{n:Nat}(h:(kd,n)∈cM):V.str kd≠V.str (ar "matter")/\V.str kd≠V.str (ar "change")/\V.str kd≠V.str (ar "mend")/\V.str kd≠V.str (ar "point"):=by
 simp only[cM,TK,Ta,or_false,Prod.mk.injEq]at h;rcases h with ⟨rfl,rfl⟩ | ⟨rfl,rfl⟩ | ⟨rfl,rfl⟩ | ⟨rfl,rfl⟩ | ⟨rfl,rfl⟩ | ⟨rfl,rfl⟩ | ⟨rfl,rfl⟩ <;> trivial
section
variable{K:bo}
theorem oh.at0 {H:Hp}{d:cK}{t:Addr}(h:oh K H d t):∃xs,SqT K H t xs/\atI xs 0=some (.str (eF d)):=by
 cases d with
 |mat cs=>obtain⟨L,a,b⟩:=h;exact⟨_,a,rfl⟩
 |ed m k i ws=>obtain⟨e,a,b⟩:=h;exact⟨_,a,rfl⟩
 |pt ws=>exact⟨_,h,rfl⟩
 |nums kd ns=>exact⟨_,h,cq (j:=0) rfl⟩
end
section
variable{P:kr}{w:World}{K:bo}{mg:Str->Option Value}{base:Heap}{A:Adr}
theorem rY (T:Txt w.params K mg A):aX P w K mg base CX0 1 A.lj A.fM ["words"] (qN K):=by
 refine T.nU.ok AI (λvs H Q E h=>?_) (λcdv A' outer s H vs Q E hr h=>?_)
 ·obtain⟨a,ws,rfl,_⟩:=h;rfl
 ·obtain⟨a,ws,rfl,hq,hz,k⟩:=h;refine⟨_,(ai (aI (bW So SN SO l6 aj (aa (pv 0) af)))),?_⟩
  try dsimp only[bt]
  exact⟨rfl,_,rfl,bl1,a,ws,rfl,rfl,hq,by rw[kG];show _+ws.length * 1<=_;omega,k⟩
theorem hG (T:Txt w.params K mg A):aX P w K mg base CX0 1 A.words_of A.fE ["clause"] iY:=by
 refine T.gD.ok B1 (λvs H Q E h=>?_) (λcdv A' outer s H vs Q E hr h=>?_)
 ·obtain⟨z,rfl,_⟩:=h;rfl
 ·obtain⟨z,rfl,hz,k⟩:=h;refine⟨_,(ah (a4 (aC bf (pv 0) aj (aN _))
 (ai (aI (bq af)))
 aJ)
 (ai (aI (bW So PySem.F.slot_str_split PySem.F.type_str_split BI (pv 0) (aa aj af))))),?_⟩
  try dsimp only[bt]
  refine⟨_,rfl,rfl,_,rfl,dc (λe=>?_) (λe=>?_)⟩
  ·have e':z=em:=by injection of_decide_eq_true e
   refine⟨Sl _,λp hp=>?_⟩
   have:=k p hp;rw[bb,if_pos e']at this;exact this
  ·have e':¬z=em:=λq=>e (decide_eq_true (by rw[q]))
   refine⟨_,rfl,rfl,z,bl1,rfl,rfl,by rw[kG];rfl,hz,λp hp=>?_⟩
   have:=k p hp;rw[bb,if_neg e']at this;exact this
theorem tZ (T:Txt w.params K mg A):aX P w K mg base CX0 2 A.j7 A.gA ["text"] (NK K):=by
 refine T.mW.ok gw (λvs H Q E h=>?_) (λcdv A' outer s H vs Q E hr h=>?_)
 ·obtain⟨L,cs,rfl,_⟩:=h;rfl
 ·obtain⟨L,cs,rfl,hL,o,k⟩:=h;refine⟨_,(ah (aZ (i:=1) gw.nd rfl (ma rfl) (bq af))
 (ah (ng Tj rfl (eW (pv 0)) (ck (i:=2) gw.nd rfl (ma rfl))
 (ah (bh (bW fu ko kq bu (pv 1) (aa aj af)))
 (ai (bh (bW fu PySem.F.slot_list_extend PySem.F.type_list_extend yY (pv 1) (aa (aU (hG T) hr rfl T.jm T.gD.kp T.jn .nil aV (aa (pv 2) af)) af))))))
 (ai (aI (pv 1))))),?_⟩
  try dsimp only[bt]
  have lim:fe=16777216:=by decide
  refine⟨Sl _,λW hW=>?_⟩
  refine⟨_,rfl,L,rfl,⟨_,(ax hW).seq hL⟩,?_⟩;refine kL (K:=K) (a:=L) (xs:=(cs.map (ky bl1)).map V.str) (λi σ H2=>∃v2:Option V,σ=[some (.ref L),some (.ref W),v2]/\bc H H2/\H2 W=some (.lst ((cN (.mat (cs.take i))).map V.str)))
   ⟨_,rfl,ax hW,ae⟩ (λi σ H2 _ ⟨_,_,s2,_⟩=>s2.seq hL) ?_ ?_
  ·rintro i y σ H2 hi ⟨v2,rfl,s2,h2⟩;rw[R0,R0]at hi;cases hc:cs[i]? with
   |none=>rw[hc]at hi;cases hi
   |some ws =>
    rw[hc]at hi;obtain rfl:V.str (ky bl1 ws)=y:=si hi;have ow:=o.2 ws (RV hc);have hcl:=gG ow;have hil:i < cs.length:=(List.getElem?_eq_some_iff.mp hc).1;have hb:(cN (.mat (cs.take i))).length<=200:=(pq (d:=.mat (cs.take i)) ⟨by rw[Sj];have:=o.1;omega,λws hw=>o.2 ws (List.mem_of_mem_take hw)⟩).1
    refine⟨_,rfl,.inl ⟨rfl,_,SqL.of h2⟩,W,_,_,rfl,rfl,h2,(by rw[ba];omega),?_⟩
    refine⟨_,rfl,.inl ⟨rfl,_,SqL.of ae⟩,_,rfl,_,rfl,by omega,λp hp=>?_⟩
    rw[cJ ow.wd];have nWp:W≠p:=az ae hp;have wl:=ow.len;refine⟨W,p,_,_,rfl,rfl,(ao nWp).trans ae,ae,(by rw[ka,ba,ba];show _+1+_<=_;omega),?_⟩
    refine⟨_,rfl,((s2.own hW).new hp).own hW,?_⟩;rw[ae,SY,hc];show some (HO.lst _)=some (HO.lst (((cs.take i++[ws]).flatMap λws=>sl1::ws).map V.str))
    rw[List.flatMap_append];simp[cN]
  ·rintro σ H2 ⟨v2,rfl,s2,h2⟩;rw[ba,ba,SW]at h2;exact⟨_,rfl,k W H2 s2 hW h2⟩
theorem t8 (T:Txt w.params K mg A):aX P w K mg base CX0 2 A.j8 A.gB ["edit"] (K8 K):=by
 refine T.mX.ok kZ (λvs H Q E h=>?_) (λcdv A' outer s H vs Q E hr h=>?_)
 ·obtain⟨t,m,k,i,ws,rfl,_⟩:=h;rfl
 ·obtain⟨t,m,k,i,ws,rfl,ht,⟨o1,⟨i0,i1⟩,o3,_⟩,q⟩:=h;refine⟨_,(ah (aZ (i:=1) kZ.nd rfl (ma rfl) (bq (aa (aH aK (pv 0) ag (λ_ _=>rfl)) (aa (bD iL (by rfl) T.Ft Ao (aa (aH aK (pv 0) ag (λ_ _=>rfl)) af)) af))))
 (ah (a4 (aC um (aH aK (pv 0) ag (λ_ _=>rfl)) aj (aN _))
 (ai (bh (bW fu PySem.F.slot_list_extend PySem.F.type_list_extend yY (pv 1) (aa (aU (hG T) hr rfl T.jm T.gD.kp T.jn .nil aV (aa (aH aK (pv 0) ag (λ_ _=>rfl)) af)) af))))
 aJ)
 (ai (aI (pv 1))))),?_⟩
  try dsimp only[bt]
  have lim:fe=16777216:=by decide
  refine ixv rfl ht (FG k i _) (ixv rfl ht (K9 k i _) ⟨_,rfl,pj i0 i1,(sl 2),λW hW=>?_⟩)
  have s1:bc H (upd H W (.lst [V.str (kn k),V.str (num i)])):=ax hW;have hcl:=gG o3;refine ixv rfl (bj s1 ht) (FG k i _) ⟨rfl,_,rfl,?_⟩
  by_cases hk:k=1
  ·rw[decide_eq_true ((qL o1).mpr hk)];refine bK ⟨_,rfl,q W _ s1 hW ?_⟩;show (upd H W (.lst [V.str (kn k),V.str (num i)])) W=some (.lst ((kn k::num i::(if k=1 then [] else ws)).map V.str))
   rw[ae,if_pos hk];rfl
  ·rw[decide_eq_false λz=>hk ((qL o1).mp z)]
   refine cC ⟨_,rfl,.inl ⟨rfl,_,SqL.of ae⟩,ixv rfl (bj s1 ht) (La hk i _) ⟨_,rfl,by omega,λp hp=>?_⟩⟩
   rw[cJ o3.wd];have nWp:W≠p:=az ae hp;have wl:=o3.len;refine⟨W,p,_,_,rfl,rfl,(ao nWp).trans ae,ae,(by rw[ba];show 2+_<=_;omega),_,rfl,q W _ ((s1.new hp).own hW) hW ?_⟩
   show (upd (upd (upd H W (.lst [V.str (kn k),V.str (num i)])) p (.lst (ws.map V.str))) W (.lst ([V.str (kn k),V.str (num i)]++ws.map V.str))) W=some (.lst ((kn k::num i::(if k=1 then [] else ws)).map V.str))
   rw[ae,if_neg hk];rfl
theorem vd (T:Txt w.params K mg A):aX P w K mg base CX0 3 A.mh A.ij ["deed"] (Jp K):=by
 have jw:aX P w K mg base CX0 2 A.words_of A.fE ["clause"] iY:=(hG T).mono (by decide)
 refine T.nY.ok mU (λvs H Q E h=>?_) (λcdv A' outer s H vs Q E hr h=>?_)
 ·obtain⟨t,d,rfl,_⟩:=h;rfl
 ·obtain⟨t,d,rfl,hd,o,q⟩:=h;refine⟨_,(ah (aZ (i:=1) mU.nd rfl (ma rfl) (aH aK (pv 0) ag (λ_ _=>rfl)))
 (ah (a4 (aC bf (pv 1) aj (aN _))
 (ai (aI (aU (tZ T) hr rfl T.uY T.mW.kp T.uZ .nil aV (aa (aH aK (pv 0) ag (λ_ _=>rfl)) af))))
 aJ)
 (ah (a4 (PW.pt (pw_or (aC bf (pv 1) aj (aN _)) (pw_or1 (aC bf (pv 1) aj (aN _)))))
 (ai (aI (aU (t8 T) hr rfl T.u0 T.mX.kp T.u4 .nil aV (aa (aH aK (pv 0) ag (λ_ _=>rfl)) af))))
 aJ)
 (ah (a4 (aC bf (pv 1) aj (aN _))
 (ai (aI (aU jw hr rfl T.jm T.gD.kp T.jn .nil aV (aa (aH aK (pv 0) ag (λ_ _=>rfl)) af))))
 aJ)
 (ai (aI (oW (scope:=jc) rK rfl (He (i4 Hm (pv 0) (jJ ag) oR)) (λ_ _ _ _ _=>(bD iL (by rfl) T.Ft Ao (aa (pv 0) af)))))))))),?_⟩
  try dsimp only[bt]
  have lim:fe=16777216:=by decide
  cases d with
  |mat cs =>
   refine aL λGq gq=>?_
   obtain⟨L,ht,hL⟩:=hd;refine gq ?_;refine ixv rfl ht rfl ?_;refine⟨_,rfl,rfl,tst (decide_eq_true rfl) ?_⟩;exact ixv rfl ht rfl ⟨L,cs,rfl,hL,o,q⟩
  |ed m k i ws =>
   refine aL λGq gq=>?_
   obtain⟨e,ht,he⟩:=hd;refine gq ?_;refine ixv rfl ht rfl ?_;refine⟨_,rfl,rfl,tsf (decide_eq_false (by cases m <;> trivial)) ?_⟩
   cases m with
   |false =>
    refine⟨_,rfl,rfl,tst (decide_eq_true rfl) ?_⟩;exact ixv rfl ht rfl ⟨e,false,k,i,ws,rfl,he,o,q⟩
   |true =>
    refine⟨_,rfl,rfl,tsf (decide_eq_false (by trivial)) ?_⟩
    refine⟨_,rfl,rfl,tst (decide_eq_true rfl) ?_⟩;exact ixv rfl ht rfl ⟨e,true,k,i,ws,rfl,he,o,q⟩
  |pt ws =>
   have ht:=hd;refine ixv rfl ht rfl ?_;refine⟨_,rfl,rfl,tsf (decide_eq_false (by trivial)) ?_⟩
   refine⟨_,rfl,rfl,tsf (decide_eq_false (by trivial)) ?_⟩
   refine⟨_,rfl,rfl,tsf (decide_eq_false (by trivial)) ?_⟩
   refine⟨_,rfl,rfl,tst (decide_eq_true rfl) ?_⟩;have hcl:=gG o;refine ixv rfl ht rfl ⟨_,rfl,by omega,λp hp=>q p _ (ax hp) hp ?_⟩
   rw[ae,cJ o.wd];rfl
  |nums kd ns =>
   refine aL λGq gq=>?_
   have ht:=hd;obtain⟨o1,o2⟩:=o;obtain⟨n1,n2,n3,n4⟩:=Md o1;have kl:=(kd_len o1).2;refine gq ?_;refine ixv rfl ht (cq (j:=0) rfl) ?_;refine⟨_,rfl,rfl,tsf (decide_eq_false n1) ?_⟩;refine⟨_,rfl,rfl,tsf (decide_eq_false n2) ?_⟩;refine⟨_,rfl,rfl,tsf (decide_eq_false n3) ?_⟩;refine⟨_,rfl,rfl,tsf (decide_eq_false n4) ?_⟩;refine⟨_,rfl,_,rfl,t,_,rfl,ht,λz=>?_,λp hp=>?_⟩
   ·have z1:=z.1;rw[show (1:Int)=((1:Nat):Int) from rfl,HT.oQ,rf]at z1
    omega
   ·rw[show (1:Int)=((1:Nat):Int) from rfl,rj]
    show _;have hs1:bc H (upd H p (.tup (ns.map V.int))):=ax hp;have hpp:(upd H p (.tup (ns.map V.int))) p=some (.tup (ns.map V.int)):=ae;refine⟨p,rfl,⟨_,SqT.of hpp⟩,λD hD=>?_⟩
    have npD:p≠D:=az hpp hD;refine BP (K:=K) (a:=p) (xs:=ns.map V.int) (λi ys H3=>ys=(ns.take i).map (λn=>V.str (num n))/\H3=upd (upd H p (.tup (ns.map V.int))) D (.lst ys)) ⟨rfl,rfl⟩ (by rw[ba];omega) ?_ ?_ ?_
    ·rintro i ys H3 hi ⟨rfl,rfl⟩;rw[ba]at hi;exact⟨SqT.of ((ao npD).trans hpp),ae,by rw[ba,Sj];omega⟩
    ·rintro i y ys H3 hi ⟨rfl,rfl⟩;rw[R0]at hi;cases hc:ns[i]? with
     |none=>rw[hc]at hi;cases hi
     |some n =>
      refine aL λGq gq=>?_
      rw[hc]at hi;obtain rfl:V.int n=y:=si hi;obtain⟨b0,b1⟩:=o2 n (RV hc);refine gq ?_;refine⟨_,rfl,_,rfl,pj b0 b1,?_⟩;refine bS.mk (by rw[ba];exact(List.getElem?_eq_some_iff.mp hc).1) ae ⟨?_,by rw[iK]⟩
      rw[SY,hc,kg];rfl
    ·rintro ys H3 ⟨rfl,rfl⟩;rw[ba,SW];refine q D _ (hs1.new hD) (hs1.free hD) ?_;rw[ae];show some (HO.lst _)=some (HO.lst ((ns.map num).map V.str));rw[TC];rfl
theorem mI (T:Txt w.params K mg A):aX P w K mg base CX0 4 A.iV A.eu ["deed"] (tY K):=by
 have oj:aX P w K mg base CX0 3 A.lj A.fM ["words"] (qN K):=(rY T).mono (by decide)
 refine T.jP.ok AJ (λvs H Q E h=>?_) (λcdv A' outer s H vs Q E hr h=>?_)
 ·obtain⟨t,d,rfl,_⟩:=h;rfl
 ·obtain⟨t,d,rfl,hd,o,q⟩:=h;refine⟨_,(ai (aI (aU oj hr rfl T.uH T.nU.kp T.uI .nil aV (aa (aW iM (bq (aa (aH aK (pv 0) ag (λ_ _=>rfl)) af)) (aU (vd T) hr rfl T.wZ T.nY.kp T.xa .nil aV (aa (pv 0) af))) af)))),?_⟩
  try dsimp only[bt]
  refine aL λGq gq=>?_
  have lim:fe=16777216:=by decide
  obtain⟨b1,b2,b3⟩:=pq o;obtain⟨xs,hx,hx0⟩:=hd.at0;refine gq ?_;refine ixv rfl hx hx0 ⟨(sl 1),λp hp=>?_⟩
  refine⟨_,rfl,t,d,rfl,hd.same (ax hp),o,λp2 H2 s2 hn2 h2=>?_⟩
  have hp2:H2 p=some (.lst [V.str (eF d)]):=s2 _ _ ae;refine⟨p,p2,_,_,rfl,rfl,hp2,h2,(by rw[ba];show 1+_<=_;omega),λp3 hp3=>?_⟩
  refine⟨p3,eF d::cN d,rfl,SqL.of (by rw[ae];rfl),?_,q _ (((ax hp).trans s2).new hp3)⟩
  have:=StrLaws.sumLen_le (B:=20) (eF d::cN d) (λw hw=>by
   rcases List.mem_cons.mp hw with rfl | hw
   ·exact b3
   ·exact b2 w hw)
  rw[rf]at this ⊢;omega
end
end R
inductive Rl where
 |ob | made | av | aG | decided | firsts | kept | rows
 |b7 (n:Nat) | d9 (n:Nat) | b5 (n:Nat)
abbrev Col:=Addr->Option (Nat×Rl)
def cz (i:Nat)(x:Option (Nat×Rl)):Prop:=∃r,x=some (i,r)
theorem cm {i j:Nat}(n:i≠j)(r:Rl):¬cz j (some (i,r)):=λ⟨_,e⟩=>by cases e;exact n rfl
theorem aT {i:Nat}:¬cz i none:=λ⟨_,e⟩=>by cases e
structure Step (W:Option (Nat×Rl)->Prop)(c c':Col)(H H':Hp):Prop where
 nn:¬W none
 keep:∀a v,H a=some v->¬W (c a)->H' a=some v
 there:∀a v,H a=some v->∃v',H' a=some v'
 col:∀a v,H a=some v->¬W (c a)->c' a=c a
section
variable{W W':Option (Nat×Rl)->Prop}{c c1 c2:Col}{H H' H1 H2:Hp}{a:Addr}{o:HO}
theorem Step.refl (n:¬W none):Step W c c H H:=⟨n,λ_ _ h _=>h,λ_ v h=>⟨v,h⟩,λ_ _ _ _=>rfl⟩
theorem Step.same (n:¬W none)(s:bc H H'):Step W c c H H':=⟨n,λa v h _=>s a v h,λa v h=>⟨v,s a v h⟩,λ_ _ _ _=>rfl⟩
theorem Step.mono (f:∀x,W x->W' x)(n:¬W' none)(s:Step W c c1 H H1):Step W' c c1 H H1 where
 nn:=n
 keep:=λa v h m=>s.keep a v h λz=>m (f _ z)
 there:=s.there
 col:=λa v h m=>s.col a v h λz=>m (f _ z)
theorem Step.trans (x:Step W c c1 H H1)(y:Step W c1 c2 H1 H2):Step W c c2 H H2 where
 nn:=x.nn
 keep:=λa v h n=>y.keep a v (x.keep a v h n) (by rw[x.col a v h n];exact n)
 there:=λa v h=>let ⟨v1,h1⟩:=x.there a v h;y.there a v1 h1
 col:=λa v h n=>(y.col a v (x.keep a v h n) (by rw[x.col a v h n];exact n)).trans (x.col a v h n)
theorem Step.upd (n:¬W none)(m:W (c a)):Step W c c H (L2.upd H a o) where
 nn:=n
 keep:=λb v h n=>by rw[ao (λz=>n (by rw[z];exact m))];exact h
 there:=λb v h=>by
  by_cases z:b=a
  ·rw[z];exact⟨o,ae⟩
  ·exact⟨v,by rw[ao z];exact h⟩
 col:=λ_ _ _ _=>rfl
def aw (c:Col)(a:Addr)(x:Option (Nat×Rl)):Col:=λb=>if b=a then x else c b
theorem aS {x:Option (Nat×Rl)}:aw c a x a=x:=if_pos rfl
theorem au {b:Addr}{x:Option (Nat×Rl)}(h:b≠a):aw c a x b=c b:=if_neg h
theorem Step.new {x:Option (Nat×Rl)}(n:¬W none)(h:H a=none):Step W c (aw c a x) H (L2.upd H a o) where
 nn:=n
 keep:=λb v e _=>ax h b v e
 there:=λb v e=>⟨v,ax h b v e⟩
 col:=λb v e _=>au (λz=>by rw[z,h]at e;cases e)
theorem Step.role {x:Option (Nat×Rl)}(n:¬W none)(m:W (c a)):Step W c (aw c a x) H H where
 nn:=n
 keep:=λ_ _ h _=>h
 there:=λ_ v h=>⟨v,h⟩
 col:=λb _ _ n=>au (λz=>n (by rw[z];exact m))
def bz (c:Col)(H:Hp):Col:=λa=>if (H a).isSome then c a else none
theorem bx (h:H a=none):bz c H a=none:=by unfold bz;rw[h];rfl
theorem Jq {v:HO}(h:H a=some v):bz c H a=c a:=by unfold bz;rw[h];rfl
theorem Step.cl (n:¬W none)(s:bc H H'):Step W c (bz c H) H H':=⟨n,λa v h _=>s a v h,λa v h=>⟨v,s a v h⟩,λ_ _ h _=>Jq h⟩
end
def Wr (i:Nat)(p:Rl->Bool)(x:Option (Nat×Rl)):Prop:=∃r,x=some (i,r)/\p r=true
section
variable{i:Nat}{p:Rl->Bool}{r:Rl}{c c':Col}{H H':Hp}{a:Addr}
theorem Wr.nn:¬Wr i p none:=λ⟨_,e,_⟩=>nomatch e
theorem Wr.no (h:p r=false):¬Wr i p (some (i,r)):=λ⟨_,e,z⟩=>by cases e;rw[h]at z;cases z
theorem Wr.yes (e:c a=some (i,r))(h:p r=true):Wr i p (c a):=⟨r,e,h⟩
theorem Step.eT (s:Step (Wr i p) c c' H H'):Step (cz i) c c' H H':=s.mono (λ_ ⟨r,e,_⟩=>⟨r,e⟩) aT
theorem jx {o:Addr}{v:HO}(h:p .ob=false)(s:Step (Wr i p) c c' H H')(h1:c o=some (i,.ob))(h2:H o=some v):c' o=some (i,.ob)/\H' o=some v:=by
 have hn:¬Wr i p (c o):=by rw[h1];exact Wr.no h
 exact⟨by rw[s.col o _ h2 hn];exact h1,s.keep _ _ h2 hn⟩
end
inductive Mn where
 |mat (tx:List Str) | chg (e:Ed) | mnd (e:Ed) | off (n:Int) | cls | lay | rst | pnt (z:Str)
def Mn.k:Mn->Nat
 | .mat _=>0 | .chg _=>1 | .mnd _=>2 | .off _=>3 | .cls=>4 | .lay=>5 | .rst=>6 | .pnt _=>7
theorem Mn.k8 (m:Mn):m.k < 8:=by cases m <;> simp only[Mn.k] <;> omega
def TupAt (c:Col)(H:Hp)(t:Addr)(xs:List V):Prop:=c t=none/\Rd H t (.tup xs)
theorem TupAt.sq {K:bo}{c:Col}{H:Hp}{t:Addr}{xs:List V}(h:TupAt c H t xs):SqT K H t xs:=.inl h.2
theorem TupAt.step {W:Option (Nat×Rl)->Prop}{c c':Col}{H H':Hp}{t:Addr}{xs:List V}(s:Step W c c' H H')(h:TupAt c H t xs):TupAt c' H' t xs:=by
 obtain⟨n,h⟩:=h;have hn:¬W (c t):=by rw[n];exact s.nn
 rcases h with h | ⟨o,h⟩
 ·exact⟨by rw[s.col t _ h hn];exact n,.inl (s.keep _ _ h hn)⟩
 ·exact⟨by rw[s.col t _ h hn];exact n,.inr ⟨o,s.keep _ _ h hn⟩⟩
def xU (c:Col)(H:Hp)(p:Addr)(tx:List Str):Prop:=c p=none/\H p=some (.lst (tx.map V.str))
theorem xU.step {W:Option (Nat×Rl)->Prop}{c c':Col}{H H':Hp}{p:Addr}{tx:List Str}(s:Step W c c' H H')(h:xU c H p tx):xU c' H' p tx :=
 have hn:¬W (c p):=by rw[h.1];exact s.nn
 ⟨by rw[s.col p _ h.2 hn];exact h.1,s.keep _ _ h.2 hn⟩
def Mn.Val (c:Col)(H:Hp):Mn->V->Prop
 | .mat tx,v=>∃p,v=.ref p/\xU c H p tx
 | .chg e,v=>∃t,v=.ref t/\TupAt c H t (dS e)
 | .mnd e,v=>∃t,v=.ref t/\TupAt c H t (dS e)
 | .off n,v=>v=.int n
 | .pnt z,v=>v=.str z
 |_,_=>True
theorem Mn.Val.step {W:Option (Nat×Rl)->Prop}{c c':Col}{H H':Hp}(s:Step W c c' H H'):∀ {m:Mn} {v:V},m.Val c H v->m.Val c' H' v
 | .mat _,_,⟨p,e,h⟩=>⟨p,e,h.step s⟩
 | .chg _,_,⟨t,e,h⟩=>⟨t,e,h.step s⟩
 | .mnd _,_,⟨t,e,h⟩=>⟨t,e,h.step s⟩
 | .off _,_,h=>h
 | .pnt _,_,h=>h
 | .cls,_,_=>trivial
 | .lay,_,_=>trivial
 | .rst,_,_=>trivial
def jy (A:Adr)(c:Col)(H:Hp)(m:Mn)(o:Addr):Prop:=c o=none/\∃dx v,H o=some (.ins (A.C m.k) dx (lP m.k v))/\m.Val c H v
theorem jy.step {A:Adr}{W:Option (Nat×Rl)->Prop}{c c':Col}{H H':Hp}{m:Mn}{o:Addr}(s:Step W c c' H H')(h:jy A c H m o):jy A c' H' m o:=by
 obtain⟨n,dx,v,h,hv⟩:=h;have hn:¬W (c o):=by rw[n];exact s.nn
 exact⟨by rw[s.col o _ h hn];exact n,dx,v,s.keep _ _ h hn,hv.step s⟩
structure Ch where
 bN:Int
 aQ:Int
 closed:Bool
 made:List Mn
 av:List Nat
 aG:List (Nat×Int×List Nat)
 decided:List (Nat×Str)
 firsts:List (Nat×List Str)
 kept:List (Nat×List Ed)
 rows:List Str
def nV (n:Nat):V:=.int (n:Int)
def a5 (xs:List (Nat×V)):List (Key×V):=xs.map λp=>(ki (p.1:Int),p.2)
inductive br {α β:Type}(R:α->β->Prop):List α->List β->Prop
 |nil:br R [] []
 |cons {a b as bs}:R a b->br R as bs->br R (a::as) (b::bs)
theorem br.imp {α β:Type}{R R':α->β->Prop}(f:∀a b,R a b->R' a b):∀ {as:List α} {bs:List β},br R as bs->br R' as bs
 |_,_,.nil=>.nil
 |_,_,.cons h t=>.cons (f _ _ h) (t.imp f)
def LstAt (i:Nat)(c:Col)(H:Hp)(r:Rl)(a:Addr)(xs:List V):Prop:=c a=some (i,r)/\H a=some (.lst xs)
def gh (i:Nat)(c:Col)(H:Hp)(r:Rl)(a:Addr)(xs:List (Nat×V)):Prop:=c a=some (i,r)/\H a=some (.dK (a5 xs))
def chF (v0 v1 v2 v3 v4 v5 v6 v7 v8 v9:V):List (Str×V):=[(ar "seats",v0),(ar "sitting",v1),(ar "closed",v2),(ar "made",v3),(ar "pile",v4),(ar "aside",v5),(ar "decided",v6),(ar "first_texts",v7),(ar "edits_kept",v8),(ar "rows",v9)]
abbrev FH (i:Nat)(c:Col)(H:Hp)(x:Nat×Int×List Nat)(v:V):Prop:=∃t p,v=.ref t/\TupAt c H t [.int x.2.1,.ref p]/\LstAt i c H (.b7 x.1) p (x.2.2.map nV)
abbrev Bb (i:Nat)(c:Col)(H:Hp)(x:Nat×List Str)(v:V):Prop:=∃p,v=.ref p/\LstAt i c H (.b5 x.1) p (x.2.map V.str)
abbrev FI (i:Nat)(c:Col)(H:Hp)(x:Nat×List Ed)(v:V):Prop:=∃p ts,v=.ref p/\LstAt i c H (.d9 x.1) p (ts.map V.ref)/\br (λe t=>TupAt c H t (dS e)) x.2 ts
structure ChX (A:Adr)(i:Nat)(c:Col)(H:Hp)(o:Addr)(st:Ch)(dx aM aP aA aD aF aE aR:Addr)(ms ds:List Addr)(ws fs es:List V):Prop where
 co:c o=some (i,.ob)
 ob:H o=some (.ins A.aB dx (chF (.int st.bN) (.int st.aQ) (.bl st.closed) (.ref aM) (.ref aP) (.ref aA) (.ref aD) (.ref aF) (.ref aE) (.ref aR)))
 made:gh i c H .made aM ((Sk 1 st.made.length).zip (ms.map V.ref))
 mot:br (λm p=>jy A c H m p) st.made ms
 av:LstAt i c H .av aP (st.av.map nV)
 aG:gh i c H .aG aA ((st.aG.map (·.1)).zip ws)
 wait:br (FH i c H) st.aG ws
 dec:LstAt i c H .decided aD (ds.map V.ref)
 iy:br (λ(x:Nat×Str) t=>TupAt c H t [nV x.1,.str x.2]) st.decided ds
 firsts:gh i c H .firsts aF ((st.firsts.map (·.1)).zip fs)
 first:br (Bb i c H) st.firsts fs
 hJ:gh i c H .kept aE ((st.kept.map (·.1)).zip es)
 kept:br (FI i c H) st.kept es
 rows:LstAt i c H .rows aR (st.rows.map V.str)
structure cV (A:Adr)(i:Nat)(c:Col)(H:Hp)(o:Addr)(st:Ch):Prop where
 ex:∃(dx aM aP aA aD aF aE aR:Addr) (ms ds:List Addr) (ws fs es:List V),ChX A i c H o st dx aM aP aA aD aF aE aR ms ds ws fs es
theorem LstAt.keep {i:Nat}{W:Option (Nat×Rl)->Prop}{c c':Col}{H H':Hp}{r:Rl}{a:Addr}{xs:List V}(n:¬W (some (i,r)))(s:Step W c c' H H')(h:LstAt i c H r a xs):LstAt i c' H' r a xs:=by
 have hn:¬W (c a):=by rw[h.1];exact n
 exact⟨by rw[s.col a _ h.2 hn];exact h.1,s.keep _ _ h.2 hn⟩
theorem gh.keep {i:Nat}{W:Option (Nat×Rl)->Prop}{c c':Col}{H H':Hp}{r:Rl}{a:Addr}{xs:List (Nat×V)}(n:¬W (some (i,r)))(s:Step W c c' H H')(h:gh i c H r a xs):gh i c' H' r a xs:=by
 have hn:¬W (c a):=by rw[h.1];exact n
 exact⟨by rw[s.col a _ h.2 hn];exact h.1,s.keep _ _ h.2 hn⟩
section
variable{A:Adr}{i:Nat}{p:Rl->Bool}{r:Rl}{c c':Col}{H H':Hp}{a o:Addr}
theorem LstAt.kp {xs:List V}(h:p r=false)(s:Step (Wr i p) c c' H H')(z:LstAt i c H r a xs):LstAt i c' H' r a xs:=z.keep (Wr.no h) s
theorem gh.kp {xs:List (Nat×V)}(h:p r=false)(s:Step (Wr i p) c c' H H')(z:gh i c H r a xs):gh i c' H' r a xs:=z.keep (Wr.no h) s
theorem br.imp_mem {α β:Type}{R R':α->β->Prop}:∀ {as:List α} {bs:List β},(∀a∈as,∀b,R a b->R' a b)->br R as bs->br R' as bs
 |_,_,_,.nil=>.nil
 |_,_,f,.cons h t=>.cons (f _ eg _ h) (t.imp_mem λa m b=>f a (km _ m) b)
theorem oq {as:List Mn}{ms:List Addr}{W:Option (Nat×Rl)->Prop}(s:Step W c c' H H')(z:br (λm p=>jy A c H m p) as ms):br (λm p=>jy A c' H' m p) as ms:=z.imp λ_ _ y=>y.step s
theorem f7 {as:List (Nat×Str)}{ds:List Addr}{W:Option (Nat×Rl)->Prop}(s:Step W c c' H H')(z:br (λ(x:Nat×Str) t=>TupAt c H t [nV x.1,.str x.2]) as ds):br (λ(x:Nat×Str) t=>TupAt c' H' t [nV x.1,.str x.2]) as ds:=z.imp λ_ _ y=>y.step s
theorem hU {as:List (Nat×Int×List Nat)}{ws:List V}(h:∀x∈as,p (.b7 x.1)=false)(s:Step (Wr i p) c c' H H')(z:br (FH i c H) as ws):br (FH i c' H') as ws :=
 z.imp_mem λx m v ⟨t,q,e,z1,z2⟩=>⟨t,q,e,z1.step s,z2.kp (h x m) s⟩
theorem qc {as:List (Nat×List Str)}{ws:List V}(h:∀x∈as,p (.b5 x.1)=false)(s:Step (Wr i p) c c' H H')(z:br (Bb i c H) as ws):br (Bb i c' H') as ws :=
 z.imp_mem λx m v ⟨q,e,z2⟩=>⟨q,e,z2.kp (h x m) s⟩
theorem rZ {as:List (Nat×List Ed)}{ws:List V}(h:∀x∈as,p (.d9 x.1)=false)(s:Step (Wr i p) c c' H H')(z:br (FI i c H) as ws):br (FI i c' H') as ws :=
 z.imp_mem λx m v ⟨q,ts,e,z2,z3⟩=>⟨q,ts,e,z2.kp (h x m) s,z3.imp λ_ _ y=>y.step s⟩
end
theorem cV.other {A:Adr}{i j:Nat}(n:i≠j){c c':Col}{H H':Hp}{o:Addr}{st:Ch}(s:Step (cz j) c c' H H')(h:cV A i c H o st):cV A i c' H' o st:=by
 obtain⟨dx,aM,aP,aA,aD,aF,aE,aR,ms,ds,ws,fs,es,h1,h2,h3,h4,h5,h6,h7,h8,h9,h10,h11,h12,h13,h14⟩:=h.ex;have no:=λr=>cm n r
 have hn:¬cz j (c o):=by rw[h1];exact no _
 refine⟨dx,aM,aP,aA,aD,aF,aE,aR,ms,ds,ws,fs,es,by rw[s.col o _ h2 hn];exact h1,s.keep _ _ h2 hn,h3.keep (no _) s,h4.imp λ_ _ z=>z.step s,h5.keep (no _) s,h6.keep (no _) s,h7.imp ?_,h8.keep (no _) s,h9.imp λ_ _ z=>z.step s,
  h10.keep (no _) s,h11.imp ?_,h12.keep (no _) s,h13.imp ?_,h14.keep (no _) s⟩
 ·rintro x v ⟨t,p,e,z1,z2⟩;exact⟨t,p,e,z1.step s,z2.keep (no _) s⟩
 ·rintro x v ⟨p,e,z⟩;exact⟨p,e,z.keep (no _) s⟩
 ·rintro x v ⟨p,ts,e,z1,z2⟩;exact⟨p,ts,e,z1.keep (no _) s,z2.imp λ_ _ y=>y.step s⟩
section
variable{v0 v1 v2 v3 v4 v5 v6 v7 v8 v9 y:V}
theorem GN:(chF v0 v1 v2 v3 v4 v5 v6 v7 v8 v9).lookup (ar "seats")=some v0:=by simp only[chF,Sv,show (ar "seats" == ar "seats")=true from by trivial]
theorem fF:(chF v0 v1 v2 v3 v4 v5 v6 v7 v8 v9).lookup (ar "sitting")=some v1:=by simp only[chF,Sv,show (ar "sitting" == ar "seats")=false from by trivial,show (ar "sitting" == ar "sitting")=true from by trivial]
theorem jz:(chF v0 v1 v2 v3 v4 v5 v6 v7 v8 v9).lookup (ar "closed")=some v2:=by simp only[chF,Sv,show (ar "closed" == ar "seats")=false from by trivial,show (ar "closed" == ar "sitting")=false from by trivial,show (ar "closed" == ar "closed")=true from by trivial]
theorem eU:(chF v0 v1 v2 v3 v4 v5 v6 v7 v8 v9).lookup (ar "made")=some v3:=by simp only[chF,Sv,show (ar "made" == ar "seats")=false from by trivial,show (ar "made" == ar "sitting")=false from by trivial,show (ar "made" == ar "closed")=false from by trivial,show (ar "made" == ar "made")=true from by trivial]
theorem dq:(chF v0 v1 v2 v3 v4 v5 v6 v7 v8 v9).lookup (ar "pile")=some v4:=by simp only[chF,Sv,show (ar "pile" == ar "seats")=false from by trivial,show (ar "pile" == ar "sitting")=false from by trivial,show (ar "pile" == ar "closed")=false from by trivial,show (ar "pile" == ar "made")=false from by trivial,show (ar "pile" == ar "pile")=true from by trivial]
theorem gH:(chF v0 v1 v2 v3 v4 v5 v6 v7 v8 v9).lookup (ar "aside")=some v5:=by simp only[chF,Sv,show (ar "aside" == ar "seats")=false from by trivial,show (ar "aside" == ar "sitting")=false from by trivial,show (ar "aside" == ar "closed")=false from by trivial,show (ar "aside" == ar "made")=false from by trivial,show (ar "aside" == ar "pile")=false from by trivial,show (ar "aside" == ar "aside")=true from by trivial]
theorem uK:(chF v0 v1 v2 v3 v4 v5 v6 v7 v8 v9).lookup (ar "decided")=some v6:=by simp only[chF,Sv,show (ar "decided" == ar "seats")=false from by trivial,show (ar "decided" == ar "sitting")=false from by trivial,show (ar "decided" == ar "closed")=false from by trivial,show (ar "decided" == ar "made")=false from by trivial,show (ar "decided" == ar "pile")=false from by trivial,show (ar "decided" == ar "aside")=false from by trivial,show (ar "decided" == ar "decided")=true from by trivial]
theorem ve:(chF v0 v1 v2 v3 v4 v5 v6 v7 v8 v9).lookup (ar "first_texts")=some v7:=by simp only[chF,Sv,show (ar "first_texts" == ar "seats")=false from by trivial,show (ar "first_texts" == ar "sitting")=false from by trivial,show (ar "first_texts" == ar "closed")=false from by trivial,show (ar "first_texts" == ar "made")=false from by trivial,show (ar "first_texts" == ar "pile")=false from by trivial,show (ar "first_texts" == ar "aside")=false from by trivial,show (ar "first_texts" == ar "decided")=false from by trivial,show (ar "first_texts" == ar "first_texts")=true from by trivial]
theorem ot:(chF v0 v1 v2 v3 v4 v5 v6 v7 v8 v9).lookup (ar "edits_kept")=some v8:=by simp only[chF,Sv,show (ar "edits_kept" == ar "seats")=false from by trivial,show (ar "edits_kept" == ar "sitting")=false from by trivial,show (ar "edits_kept" == ar "closed")=false from by trivial,show (ar "edits_kept" == ar "made")=false from by trivial,show (ar "edits_kept" == ar "pile")=false from by trivial,show (ar "edits_kept" == ar "aside")=false from by trivial,show (ar "edits_kept" == ar "decided")=false from by trivial,show (ar "edits_kept" == ar "first_texts")=false from by trivial,show (ar "edits_kept" == ar "edits_kept")=true from by trivial]
theorem ou:(chF v0 v1 v2 v3 v4 v5 v6 v7 v8 v9).lookup (ar "rows")=some v9:=by simp only[chF,Sv,show (ar "rows" == ar "seats")=false from by trivial,show (ar "rows" == ar "sitting")=false from by trivial,show (ar "rows" == ar "closed")=false from by trivial,show (ar "rows" == ar "made")=false from by trivial,show (ar "rows" == ar "pile")=false from by trivial,show (ar "rows" == ar "aside")=false from by trivial,show (ar "rows" == ar "decided")=false from by trivial,show (ar "rows" == ar "first_texts")=false from by trivial,show (ar "rows" == ar "edits_kept")=false from by trivial,show (ar "rows" == ar "rows")=true from by trivial]
theorem CM:dW (ar "sitting") y (chF v0 v1 v2 v3 v4 v5 v6 v7 v8 v9)=chF v0 y v2 v3 v4 v5 v6 v7 v8 v9:=by
 unfold chF;simp only[dW];rw[if_neg (by trivial),if_pos trivial]
theorem xV:dW (ar "closed") y (chF v0 v1 v2 v3 v4 v5 v6 v7 v8 v9)=chF v0 v1 y v3 v4 v5 v6 v7 v8 v9:=by
 unfold chF;simp only[dW];rw[if_neg (by trivial),if_neg (by trivial),if_pos trivial]
theorem CN:dW (ar "pile") y (chF v0 v1 v2 v3 v4 v5 v6 v7 v8 v9)=chF v0 v1 v2 v3 y v5 v6 v7 v8 v9:=by
 unfold chF;simp only[dW];rw[if_neg (by trivial),if_neg (by trivial),if_neg (by trivial),if_neg (by trivial),if_pos trivial]
end
def GO (A:Adr)(i:Nat):Sp:=λvs H Q E=>∃(o:Addr) (c:Col) (st:Ch),vs=[.ref o]/\cV A i c H o st/\(st.av≠[]->Q .non H)/\(st.av=[]->E (.ref A.lx) none H)
section
variable{P:kr}{w:World}{K:bo}{mg:Str->Option Value}{base:Heap}{A:Adr}
theorem jA (T:Txt w.params K mg A){i:Nat}:aX P w K mg base (CXX P w) 1 A.cG A.cD ["self"] (GO A i):=by
 refine T.jH.okX i9 (λvs H Q E h=>?_) (λcdv A' outer s H vs Q E hr h=>?_)
 ·obtain⟨o,c,st,rfl,_⟩:=h;rfl
 ·obtain⟨o,c,st,rfl,hc,q1,q2⟩:=h;obtain⟨dx,aM,aP,aA,aD,aF,aE,aR,ms,ds,ws,fs,es,h1,h2,h3,h4,h5,h6,h7,h8,h9,h10,h11,h12,h13,h14⟩:=hc.ex;refine⟨_,(bw (eI (qh (ni (a9 (pv 0) rfl) (λ_=>rfl)))
 (bw (gu T.Eo rfl rfl T.GJ (aa aj af)))
 (rp aJ))),?_⟩
  try dsimp only[bt]
  refine cU rfl h2 T.aq T.bg dq ?_;refine⟨_,.inl ⟨_,.inl (.inl h5.2),rfl⟩,?_⟩;cases e:st.av with
  |nil=>exact cC ⟨by decide,q2 e⟩
  |cons x r=>exact bK (q1 (by rw[e];exact Sd _ _))
end
theorem br.len {α β:Type}{R:α->β->Prop}:∀ {as:List α} {bs:List β},br R as bs->as.length=bs.length
 |_,_,.nil=>rfl
 |_,_,.cons _ t=>by rw[rf,rf,t.len]
theorem br.get {α β:Type}{R:α->β->Prop}:∀ {as:List α} {bs:List β} {i:Nat} {a:α},br R as bs->as[i]?=some a->∃b,bs[i]?=some b/\R a b
 |_,_,_,_,.nil,h=>by simp at h
 |_,_,0,_,.cons h t,e=>by
  rw[Sa]at e;cases e;exact⟨_,Sa,h⟩
 |_,_,i+1,_,.cons h t,e=>by
  rw[Sf]at e;obtain⟨b,e1,e2⟩:=t.get e;exact⟨b,by rw[Sf];exact e1,e2⟩
theorem xW:∀(ms:List Addr) (s k:Nat) {o:Addr},ms[k]?=some o->et (a5 ((Sk s ms.length).zip (ms.map V.ref))) (ki ((s+k:Nat):Int))=some (.ref o)
 |[],_,_,_,h=>by simp at h
 |m::ms,s,0,o,h=>by
  rw[Sa]at h;cases h;exact df (p:=(ki ((s:Nat):Int),V.ref m)) rfl
 |m::ms,s,k+1,o,h=>by
  rw[Sf]at h;have ih:=xW ms (s+1) k h;have e:s+(k+1)=s+1+k:=by omega
  rw[e];refine(bF (p:=(ki ((s:Nat):Int),V.ref m)) ?_).trans ih;intro z;have z':((s:Nat):Int)=((s+1+k:Nat):Int):=Sum.inl.inj z;omega
def Ch.mo (st:Ch)(n:Nat):Mn:=st.made.getD (n - 1) .cls
def cy (st:Ch)(n:Nat):Prop:=1<=n/\n<=st.made.length
def GP (A:Adr)(i:Nat):Sp:=λvs H Q _=>∃(o:Addr) (c:Col) (st:Ch),vs=[.ref o]/\cV A i c H o st/\(∀n∈st.av,cy st n)/\st.av.length<=1000 /\
 ∀R os,H R=none->br (λn m=>jy A c H (st.mo n) m) st.av os->Q (.ref R) (upd H R (.lst (os.map V.ref)))
theorem FJ {A:Adr}{c:Col}{H:Hp}{st:Ch}{ms:List Addr}(h:br (λm p=>jy A c H m p) st.made ms):∀(ns:List Nat),(∀n∈ns,cy st n)->br (λn m=>jy A c H (st.mo n) m) ns (ns.map λn=>ms.getD (n - 1) 0)
 |[],_=>.nil
 |n::ns,g=>by
  have hn:=g n eg;have hlt:n - 1 < st.made.length:=by have:=hn.1;have:=hn.2;omega
  obtain⟨b,e1,e2⟩:=h.get (tu hlt);refine .cons ?_ (FJ h ns λn hn=>g n (km _ hn))
  have e3:st.mo n=st.made[n - 1]:=by unfold Ch.mo;rw[RY,tu hlt];rfl
  have e4:ms.getD (n - 1) 0=b:=by rw[RY,e1];rfl
  show jy A c H (st.mo n) (ms.getD (n - 1) 0);rw[e3,e4];exact e2
section
variable{P:kr}{w:World}{K:bo}{mg:Str->Option Value}{base:Heap}{A:Adr}
theorem qO (T:Txt w.params K mg A){i:Nat}:aX P w K mg base CX0 1 A.fQ A.fj ["self"] (GP A i):=by
 refine T.rV.ok qm (λvs H Q E h=>?_) (λcdv A' outer s H vs Q E hr h=>?_)
 ·obtain⟨o,c,st,rfl,_⟩:=h;rfl
 ·obtain⟨o,c,st,rfl,hc,hp,hpl,q⟩:=h;obtain⟨dx,aM,aP,aA,aD,aF,aE,aR,ms,ds,ws,fs,es,h1,h2,h3,h4,h5,h6,h7,h8,h9,h10,h11,h12,h13,h14⟩:=hc.ex;have hu1:=hr.u1;refine⟨_,(ai (aI (oW (scope:=gf) nG rfl (eW (a9 (pv 0) rfl)) (λ_ _ _ _ _=>(aY hu1 (KJ (K:=K) rfl (pv 1) rfl) (pv 0) (λ_ _=>rfl)))))),?_⟩
  try dsimp only[bt]
  have ml:=h4.len;refine cU rfl h2 T.aq T.bg dq ?_;have hB:SqL K H aP (st.av.map nV):=SqL.of h5.2;refine⟨aP,rfl,⟨_,hB⟩,λR hR=>?_⟩
  have sR:∀ {o:HO},bc H (upd H R o):=ax hR;refine oX (K:=K) (a:=aP) (xs:=st.av.map nV) (λi ys H2=>ys=((st.av.take i).map λn=>V.ref (ms.getD (n - 1) 0))/\H2=upd H R (.lst ys)) ⟨rfl,rfl⟩ (by rw[ba,sizeLine_eq];omega) ?_ ?_ ?_
  ·rintro i ys H2 hi ⟨rfl,rfl⟩;rw[ba]at hi;exact⟨sR.seq hB,ae,by rw[ba,Sj];omega⟩
  ·rintro i y ys H2 hy ⟨rfl,rfl⟩;refine aL λGq gq=>?_
   obtain⟨n,hn1,rfl⟩:∃n,st.av[i]?=some n/\nV n=y:=by
    rw[R0]at hy;cases ht:st.av[i]? with
    |none=>rw[ht]at hy;cases hy
    |some t=>rw[ht]at hy;exact⟨t,rfl,si hy⟩
   have hn:=hp n (RV hn1);have hlt:n - 1 < ms.length:=by have:=hn.1;have:=hn.2;omega
   have hm:ms[n - 1]?=some (ms.getD (n - 1) 0):=by rw[RY,tu hlt];rfl
   have hv:=xW ms 1 (n - 1) hm;rw[<-ml,show 1+(n - 1)=n by have:=hn.1;omega]at hv
   refine gq ?_;refine cU rfl (sR _ _ h2) T.aq T.bE eU ?_;refine⟨_,rfl,aM,_,rfl,.inl ⟨_,ki (n:Int),.inl (sR _ _ h3.2),rfl,hv.symm⟩,?_⟩;refine bS.mk (List.getElem?_eq_some_iff.mp hy).1 ae ⟨?_,by rw[iK]⟩
   rw[SY,hn1,kg];rfl
  ·rintro ys H2 ⟨rfl,rfl⟩;rw[ba,SW];have:=q R _ hR (FJ h4 st.av hp);rw[TC]at this;exact this
end
theorem br.snoc {α β:Type}{R:α->β->Prop}:∀ {as:List α} {bs:List β} {a:α} {b:β},br R as bs->R a b->br R (as++[a]) (bs++[b])
 |_,_,_,_,.nil,h=>.cons h .nil
 |_,_,_,_,.cons g t,h=>.cons g (t.snoc h)
def Jr (A:Adr)(i:Nat):Sp:=λvs H Q _=>∃(o:Addr) (wd:Str) (c:Col) (st:Ch) (pre:List Nat) (n:Nat),vs=[.ref o,.str wd]/\cV A i c H o st/\st.av=pre++[n]/\st.av.length<=1000/\st.decided.length<=1000 /\
 ∀c' H',Step (cz i) c c' H H'->cV A i c' H' o { st with av:=pre,decided:=st.decided++[(n,wd)] }->Q .non H'
section
variable{P:kr}{w:World}{K:bo}{mg:Str->Option Value}{base:Heap}{A:Adr}
theorem zM (T:Txt w.params K mg A){i:Nat}:aX P w K mg base CX0 1 A.gC A.fR ["self","word"] (Jr A i):=by
 refine T.tU.ok rJ (λvs H Q E h=>?_) (λcdv A' outer s H vs Q E hr h=>?_)
 ·obtain⟨o,wd,c,st,pre,n,rfl,_⟩:=h;rfl
 ·obtain⟨o,wd,c,st,pre,n,rfl,hc,hp,hpl,hdl,q⟩:=h;obtain⟨dx,aM,aP,aA,aD,aF,aE,aR,ms,ds,ws,fs,es,h1,h2,h3,h4,h5,h6,h7,h8,h9,h10,h11,h12,h13,h14⟩:=hc.ex;refine⟨_,(ai (bh (bW fu ko kq bu (a9 (pv 0) rfl) (aa (a8 (aa (DH fu PySem.F.slot_list_pop PySem.F.type_list_pop Hs (a9 (pv 0) rfl)) (aa (pv 1) af))) af)))),?_⟩
  try dsimp only[bt]
  refine cU rfl h2 T.aq T.fm uK ?_;have hy:(st.av.map nV)[(st.av.map nV).length - 1]?=some (nV n):=by rw[hp];simp
  have hdr:(st.av.map nV).dropLast=pre.map nV:=by rw[hp,kg];simp
  have nPD:aD≠aP:=λz=>by have:=h8.1;rw[z,h5.1]at this;cases this
  refine⟨.inl ⟨rfl,_,SqL.of h8.2⟩,cU rfl h2 T.aq T.bg dq ?_⟩;refine⟨.inl ⟨rfl,_,SqL.of h5.2⟩,aP,_,_,rfl,rfl,h5.2,hy,_,rfl,(sl 2),λp hp0=>?_⟩
  have np:∀ {a:Addr} {v:HO},H a=some v->a≠p:=by
   intro a v e z;subst z
   by_cases y:a=aP
   ·subst y;rw[ae]at hp0;cases hp0
   ·rw[ao y,e]at hp0;cases hp0
  have nn:¬(λx=>x=some (i,Rl.av)\/x=some (i,Rl.decided)) (none:Option (Nat×Rl)):=by rintro (z | z) <;> cases z
  refine⟨aD,_,_,rfl,rfl,(ao (np h8.2)).trans ((ao nPD).trans h8.2),?_,?_⟩
  ·rw[ba,<-h9.len,sizeLine_eq];omega
  have sp:Step (λx=>x=some (i,Rl.av)\/x=some (i,Rl.decided)) c (aw c p none) H (upd (upd (upd H aP (.lst (st.av.map nV).dropLast)) p (.tup [nV n,.str wd])) aD (.lst (ds.map V.ref++[.ref p]))) :=
   ((Step.upd nn (.inl h5.1)).trans (Step.new nn hp0)).trans (Step.upd nn (.inr (by rw[au (np h8.2)];exact h8.1)))
  have ht:TupAt (aw c p none) (upd (upd (upd H aP (.lst (st.av.map nV).dropLast)) p (.tup [nV n,.str wd])) aD (.lst (ds.map V.ref++[.ref p]))) p [nV n,.str wd] :=
   ⟨aS,.inl ((ao (np h8.2).symm).trans ae)⟩
  have kp:LstAt i (aw c p none) (upd (upd (upd H aP (.lst (st.av.map nV).dropLast)) p (.tup [nV n,.str wd])) aD (.lst (ds.map V.ref++[.ref p]))) .av aP (pre.map nV) :=
   ⟨by rw[au (np h5.2)];exact h5.1,by rw[ao nPD.symm,ao (np h5.2),ae,hdr]⟩
  have kd:LstAt i (aw c p none) (upd (upd (upd H aP (.lst (st.av.map nV).dropLast)) p (.tup [nV n,.str wd])) aD (.lst (ds.map V.ref++[.ref p]))) .decided aD ((ds++[p]).map V.ref) :=
   ⟨by rw[au (np h8.2)];exact h8.1,by rw[ae,kg];rfl⟩
  generalize upd (upd (upd H aP (.lst (st.av.map nV).dropLast)) p (.tup [nV n,.str wd])) aD (.lst (ds.map V.ref++[.ref p]))=H' at sp ht kp kd ⊢;generalize aw c p none=c' at sp ht kp kd;have no:∀r,r≠Rl.av->r≠Rl.decided->¬(λx=>x=some (i,Rl.av)\/x=some (i,Rl.decided)) (some (i,r)):=λr y1 y2=>by
   rintro (z | z)
   ·cases z;exact y1 rfl
   ·cases z;exact y2 rfl
  have hno:=no .ob (λz=>nomatch z) (λz=>nomatch z)
  refine q c' H' (sp.mono (by rintro x (z | z) <;> exact⟨_,z⟩) aT) ⟨dx,aM,aP,aA,aD,aF,aE,aR,ms,ds++[p],ws,fs,es,by rw[sp.col o _ h2 (by rw[h1];exact hno)];exact h1,sp.keep _ _ h2 (by rw[h1];exact hno),
   h3.keep (no .made (λz=>nomatch z) (λz=>nomatch z)) sp,h4.imp λ_ _ z=>z.step sp,kp,h6.keep (no .aG (λz=>nomatch z) (λz=>nomatch z)) sp,h7.imp ?_,kd,(h9.imp λ_ _ z=>z.step sp).snoc ht,
   h10.keep (no .firsts (λz=>nomatch z) (λz=>nomatch z)) sp,h11.imp ?_,h12.keep (no .kept (λz=>nomatch z) (λz=>nomatch z)) sp,h13.imp ?_,h14.keep (no .rows (λz=>nomatch z) (λz=>nomatch z)) sp⟩
  ·rintro x v ⟨t,a,e,z1,z2⟩;exact⟨t,a,e,z1.step sp,z2.keep (no (.b7 x.1) (λz=>nomatch z) (λz=>nomatch z)) sp⟩
  ·rintro x v ⟨a,e,z⟩;exact⟨a,e,z.keep (no (.b5 x.1) (λz=>nomatch z) (λz=>nomatch z)) sp⟩
  ·rintro x v ⟨a,ts,e,z1,z2⟩;exact⟨a,ts,e,z1.keep (no (.d9 x.1) (λz=>nomatch z) (λz=>nomatch z)) sp,z2.imp λ_ _ y=>y.step sp⟩
end
inductive Xc where
 |qP (b:Int) | jB | noChange | noFit | lT (n:Int) | nothing | tooMany | pw | Bc (n:Int) | xX
def Xc.At (A:Adr)(H:Hp):Xc->Value->Option Addr->Prop
 | .qP b,C,d=>C=.ref A.nP/\∃a,d=some a/\H a=some (.xd [(ar "bar",.int b)])
 | .jB,C,d=>C=.ref A.mr/\d=none
 | .noChange,C,d=>C=.ref A.mw/\d=none
 | .noFit,C,d=>C=.ref A.pb/\d=none
 | .lT n,C,d=>C=.ref A.jk/\∃a,d=some a/\H a=some (.xd [(ar "sitting",.int n)])
 | .nothing,C,d=>C=.ref A.lx/\d=none
 | .tooMany,C,d=>C=.ref A.pd/\d=none
 | .pw,C,d=>C=.ref A.pf/\d=none
 | .Bc n,C,d=>C=.ref A.nQ/\∃a,d=some a/\H a=some (.xd [(ar "sitting",.int n)])
 | .xX,C,d=>C=.ref A.mx/\d=none
def Xc.New (A:Adr)(H H':Hp)(x:Xc)(C:Value)(d:Option Addr):Prop:=x.At A H' C d/\∀a,d=some a->H a=none
theorem same_none {H H':Hp}(s:bc H H'){a:Addr}(h:H' a=none):H a=none:=by
 cases z:H a with
 |none=>rfl
 |some v=>rw[s _ _ z]at h;cases h
theorem zN {i:Int}(h0:-10000000000 < i)(h1:i < 10000000000):i.natAbs.log2 < 1920:=by
 have h:i.natAbs < 2 ^ 34:=by
  have:(10000000000:Int)<=2 ^ 34:=by decide
  omega
 by_cases hz:i.natAbs=0
 ·rw[hz];decide
 ·exact Nat.lt_trans ((Nat.log2_lt hz).mpr h) (by decide)
theorem zO {i:Int}(h0:0<=i)(h1:i < 10000000000):(ar (toString i)).length<=20 :=
 ku (PyProof.Rows.toString_length_le h0 (by decide:(1:Nat)<=11) (by show i < (10:Int) ^ 11;omega)) (by decide)
theorem lU {i:Int}(h0:0<=i)(h1:i < 10000000000):∃z,BS (.int i) z/\z.length<=10000 :=
 ⟨_,.int (zN (by omega) h1),ku (zO h0 h1) (by decide)⟩
def m9 (ms:List Mn):Int:=match ms.getLast? with
 |none=>-1
 |some m=>(m.k:Int)
def iR (cl:Bool)(ms:List Mn):Int:=if cl=true then (if (4:Int) > m9 ms then 4 else m9 ms) else m9 ms
def pK (ms:List Mn):Bool:=ms.any λm=>decide (m.k=0)
def dF (ms:List Mn):Bool:=match ms.getLast? with
 |some (.chg e)=>!decide (e.k=1)
 |_=>false
def jS (ms:List Mn)(k:Nat):Bool:=if k=2 then dF ms else if k=1\/k=3\/k=4\/k=5 then pK ms else true
def qQ (cl:Bool)(ms:List Mn)(k:Nat):Option Xc :=
 if (k:Int)<=iR cl ms then some (.qP (iR cl ms)) else if jS ms k=true then none else if pK ms=true then some .noChange else some .jB
theorem Js (ms:List Mn):-1<=m9 ms/\m9 ms < 8:=by
 unfold m9;split
 ·omega
 ·rename_i m _;have:=m.k8;omega
theorem Ez (cl:Bool)(ms:List Mn):-1<=iR cl ms/\iR cl ms < 8:=by
 have:=Js ms;unfold iR;split
 ·split <;> omega
 ·omega
def qd (A:Adr)(K:bo)(c:Col)(H:Hp)(B:Addr)(ms:List Mn)(os:List Addr):Prop:=SqL K H B (os.map V.ref)/\br (λm p=>jy A c H m p) ms os
theorem jy.same {A:Adr}{c:Col}{H H':Hp}{m:Mn}{o:Addr}(s:bc H H')(h:jy A c H m o):jy A c H' m o:=h.step (Step.same (W:=λ_=>False) id s)
theorem qd.same {A:Adr}{K:bo}{c:Col}{H H':Hp}{B:Addr}{ms:List Mn}{os:List Addr}(s:bc H H')(h:qd A K c H B ms os):qd A K c H' B ms os:=⟨s.seq h.1,h.2.imp λ_ _ y=>y.same s⟩
def Pl (A:Adr)(K:bo):Sp:=λvs H Q _=>∃(B:Addr) (cl:Bool) (c:Col) (ms:List Mn) (os:List Addr),vs=[.ref B,.bl cl]/\qd A K c H B ms os/\Q (.int (iR cl ms)) H
def Pm (A:Adr)(K:bo):Sp:=λvs H Q _=>∃(B:Addr) (c:Col) (ms:List Mn) (os:List Addr),vs=[.ref B]/\qd A K c H B ms os/\ms.length<=1000/\∀H',bc H H'->Q (.bl (pK ms)) H'
def NL (A:Adr)(K:bo):Sp:=λvs H Q _=>∃(B:Addr) (c:Col) (ms:List Mn) (os:List Addr),vs=[.ref B]/\qd A K c H B ms os/\∀H',bc H H'->Q (.bl (dF ms)) H'
def Lb (A:Adr)(K:bo):Sp:=λvs H Q _=>∃(k:Nat) (B:Addr) (c:Col) (ms:List Mn) (os:List Addr),vs=[.str (nm k),.ref B]/\k < 8/\qd A K c H B ms os/\ms.length<=1000/\∀H',bc H H'->Q (.bl (jS ms k)) H'
def Pn (A:Adr)(K:bo):Sp:=λvs H Q E=>∃(k:Nat) (B:Addr) (cl:Bool) (c:Col) (ms:List Mn) (os:List Addr),vs=[.str (nm k),.ref B,.bl cl]/\k < 8/\qd A K c H B ms os/\ms.length<=1000 /\
 (qQ cl ms k=none->∀H',bc H H'->Q .non H')/\∀x,qQ cl ms k=some x->∀C d H',bc H H'->x.New A H H' C d->E C d H'
def Bd (A:Adr)(K:bo)(k:Nat):Sp:=λvs H Q E=>(k=0/\FD A K vs H Q E)\/Ex A k vs H Q E
theorem xY (pre:List Addr)(q:Addr):atI ((pre++[q]).map V.ref) (-1)=some (.ref q):=by
 rw[kg];exact fJ _ _
theorem qR:∀k,k < 8->decide (V.str (nm k)=V.str (ar "matter"))=decide (k=0):=by trivial
theorem bJ:∀k,k < 8->decide (V.str (nm k)=V.str (ar "change"))=decide (k=1):=by trivial
theorem bL:∀k,k < 8->decide (V.str (nm k)=V.str (ar "mend"))=decide (k=2):=by trivial
theorem eh:∀k,k < 8->decide (V.str (nm k)=V.str (ar "put off"))=decide (k=3):=by trivial
theorem f9:∀k,k < 8->decide (V.str (nm k)=V.str (ar "close"))=decide (k=4):=by trivial
theorem Be:∀k,k < 8->decide (V.str (nm k)=V.str (ar "lay"))=decide (k=5):=by trivial
theorem jC:∀k,k < 8->decide (V.str (nm k)=V.str (ar "rest"))=decide (k=6):=by trivial
theorem cv:∀ {k:Nat} {v:V},atI (rowOf k v) 0=some (.str (nm k))
 | 0,_=>rfl
 | 1,_=>rfl
 | 2,_=>rfl
 | 3,_=>rfl
 | 4,_=>rfl
 | 5,_=>rfl
 | 6,_=>rfl
 | 7,_=>rfl
 |_+8,_=>rfl
theorem Bf:∀k,decide (V.str (kn k)=V.str (ar "cut"))=decide (k=1)
 | 0=>by trivial
 | 1=>by trivial
 |n+2=>by rw[decide_eq_false (show ¬n+2=1 by omega)];show decide (V.str (ar "turn")=_)=_;trivial
theorem br.last {α β:Type}{R:α->β->Prop}{as:List α}{pre:List β}{b:β}(h:br R as (pre++[b])):∃as' a,as=as'++[a]/\br R as' pre/\R a b:=by
 induction pre generalizing as with
 |nil =>
  cases h with
  |cons h t=>cases t;exact⟨[],_,rfl,.nil,h⟩
 |cons x r ih =>
  cases h with
  |cons h t =>
   obtain⟨as',a,rfl,h1,h2⟩:=ih t;exact⟨_::as',a,rfl,.cons h h1,h2⟩
theorem lV (ms:List Mn)(m:Mn):m9 (ms++[m])=(m.k:Int):=by unfold m9;rw[Sw]
section
variable{P:kr}{w:World}{K:bo}{mg:Str->Option Value}{base:Heap}{A:Adr}
theorem uL (T:Txt w.params K mg A):aX P w K mg base CX0 1 A.wV A.tK ["self","bar"] (DX A.nP "bar"):=by
 refine T.Es.ok wy (λvs H Q E h=>?_) (λcdv A' outer s H vs Q E hr h=>?_)
 ·obtain⟨e,v,rfl,_⟩:=h;rfl
 ·obtain⟨e,v,rfl,hx,⟨z,fz,zl⟩,q⟩:=h;refine⟨_,(ah (bh (vT T.ix T.ph rfl T.fZ (aa (pv 0) (aa (za (i6 (sU (pv 1) sT))) af))))
 (ai (Az T.ph (pv 0) (pv 1)))),?_⟩
  try dsimp only[bt]
  have sz:fe=16777216:=by decide
  have c5:(ar "barred by the bar ").length=18:=by trivial
  have e5:(SI++ar "barred by the bar ":Str).length=18:=by trivial
  refine⟨_,rfl,by rw[e5];omega,_,rfl,z,fz,by omega,by rw[len_app,e5];omega,by rw[len_app,e5];omega,e,_,rfl,hx,?_⟩
  exact⟨_,rfl,_,rfl,e,rfl,hx,λd hd=>q d hd⟩
theorem yK (T:Txt w.params K mg A):aX P w K mg base CX0 1 A.qD A.nS ["self","sitting"] (DX A.jk "sitting"):=by
 refine T.A3.ok sY (λvs H Q E h=>?_) (λcdv A' outer s H vs Q E hr h=>?_)
 ·obtain⟨e,v,rfl,_⟩:=h;rfl
 ·obtain⟨e,v,rfl,hx,⟨z,fz,zl⟩,q⟩:=h;refine⟨_,(ah (bh (vT T.ix T.oe rfl T.fZ (aa (pv 0) (aa (za (i6 (sU (pv 1) sT))) af))))
 (ai (Az T.oe (pv 0) (pv 1)))),?_⟩
  try dsimp only[bt]
  have sz:fe=16777216:=by decide
  have c5:(ar "not later than the sitting ").length=27:=by trivial
  have e5:(SI++ar "not later than the sitting ":Str).length=27:=by trivial
  refine⟨_,rfl,by rw[e5];omega,_,rfl,z,fz,by omega,by rw[len_app,e5];omega,by rw[len_app,e5];omega,e,_,rfl,hx,?_⟩
  exact⟨_,rfl,_,rfl,e,rfl,hx,λd hd=>q d hd⟩
theorem CO (T:Txt w.params K mg A):aX P w K mg base CX0 1 A.wW A.tM ["self","sitting"] (DX A.nQ "sitting"):=by
 refine T.Et.ok wz (λvs H Q E h=>?_) (λcdv A' outer s H vs Q E hr h=>?_)
 ·obtain⟨e,v,rfl,_⟩:=h;rfl
 ·obtain⟨e,v,rfl,hx,⟨z,fz,zl⟩,q⟩:=h;refine⟨_,(ah (bh (vT T.ix T.tV rfl T.fZ (aa (pv 0) (aa (za (i6 (sU (pv 1) sT))) af))))
 (ai (Az T.tV (pv 0) (pv 1)))),?_⟩
  try dsimp only[bt]
  have sz:fe=16777216:=by decide
  have c5:(ar "aside until the sitting ").length=24:=by trivial
  have e5:(SI++ar "aside until the sitting ":Str).length=24:=by trivial
  refine⟨_,rfl,by rw[e5];omega,_,rfl,z,fz,by omega,by rw[len_app,e5];omega,by rw[len_app,e5];omega,e,_,rfl,hx,?_⟩
  exact⟨_,rfl,_,rfl,e,rfl,hx,λd hd=>q d hd⟩
theorem CP (T:Txt w.params K mg A):∀k,k < 8->aX P w K mg base CX0 2 (A.ft k) (A.ftd k) ["self"] (Bd A K k)
 | 0,_=>(Jn T).imp λvs H Q E h=>h.elim (λz=>z.2) (λz=>absurd z.1 (by decide))
 | 1,h=>(mH T 1 h).imp λvs H Q E h=>h.elim (λz=>absurd z.1 (by decide)) id
 | 2,h=>(mH T 2 h).imp λvs H Q E h=>h.elim (λz=>absurd z.1 (by decide)) id
 | 3,h=>(mH T 3 h).imp λvs H Q E h=>h.elim (λz=>absurd z.1 (by decide)) id
 | 4,h=>(mH T 4 h).imp λvs H Q E h=>h.elim (λz=>absurd z.1 (by decide)) id
 | 5,h=>(mH T 5 h).imp λvs H Q E h=>h.elim (λz=>absurd z.1 (by decide)) id
 | 6,h=>(mH T 6 h).imp λvs H Q E h=>h.elim (λz=>absurd z.1 (by decide)) id
 | 7,h=>(mH T 7 h).imp λvs H Q E h=>h.elim (λz=>absurd z.1 (by decide)) id
 |n+8,h=>absurd h (by omega)
theorem ua (T:Txt w.params K mg A):aX P w K mg base CX0 3 A.D5 A.tj ["pile","closed"] (Pl A K):=by
 have NM:∀k,k < 8->aX P w K mg base CX0 2 A.f_r A.KO ["self"] (Jl A):=λ_ _=>K6 T
 refine T.rQ.ok ze (λvs H Q E h=>?_) (λcdv A' outer s H vs Q E hr h=>?_)
 ·obtain⟨B,cl,c,ms,os,rfl,_⟩:=h;rfl
 ·obtain⟨B,cl,c,ms,os,rfl,⟨hB,ho⟩,q⟩:=h;refine⟨_,(ah (aZ (i:=2) ze.nd rfl (ma rfl) (By (ni (pv 0) (λ_=>rfl)) (iU (n:=8) (Cf:=A.C) (aH a7 (pv 0) (kM gi ag) (λ_ _=>rfl)) T.cl T.NA NM hr T.NC aV) (kM gi ag)))
 (ah (a4 (j3 (pv 1))
 (ai (aI (bQ (oO rfl) (by rfl) T.Fs An (aa (pv 2) (aa (vh (v:=V.int 4) rfl T.A2 ⟨_,rfl⟩) af)))))
 aJ)
 (ai (aI (pv 2))))),?_⟩
  try dsimp only[bt]
  unfold iR at q;rcases R6 os with h | ⟨pre,o,h⟩
  ·subst h;cases ho;refine⟨_,rfl,_,.inl ⟨_,hB,rfl⟩,bK ⟨_,rfl,?_⟩⟩;refine⟨_,rfl,_,rfl,?_⟩;cases cl with
   |true=>exact cC ⟨_,rfl,_,_,rfl,q⟩
   |false=>exact bK ⟨_,rfl,q⟩
  ·rw[R7]at h;refine aL λGq gq=>?_
   subst h;obtain⟨ms',m,rfl,_,_,dx,v,hm,_⟩:=ho.last;rw[lV]at q;refine gq ?_;refine⟨_,rfl,_,.inl ⟨_,hB,rfl⟩,pM (by simp) ⟨_,rfl,_,rfl,B,_,_,_,rfl,rfl,hB,xY pre o,m.k,m.k8,o,dx,_,rfl,hm,K2 m.k v,o,m.k,dx,_,m.k8,rfl,hm,iP m.k v,?_⟩⟩
   refine⟨_,rfl,_,rfl,?_⟩;cases cl with
   |true=>exact cC ⟨_,rfl,_,_,rfl,q⟩
   |false=>exact bK ⟨_,rfl,q⟩
theorem qf (T:Txt w.params K mg A):aX P w K mg base CX0 2 A.qu A.j5 ["pile"] (Pm A K):=by
 have d8:∀k,k < 8->aX P w K mg base CX0 1 (A.fk k) (A.fkd k) ["self"] (dM k):=iQ T;refine T.my.ok yE (λvs H Q E h=>?_) (λcdv A' outer s H vs Q E hr h=>?_)
 ·obtain⟨B,c,ms,os,rfl,_⟩:=h;rfl
 ·obtain⟨B,c,ms,os,rfl,⟨hB,ho⟩,hl,q⟩:=h;refine⟨_,(ai (aI (bQ (HE rfl) (by rfl) T.Pd MS (aa (oW (scope:=kX) uV rfl (eW (pv 0)) (λ_ _ _ _ _=>(gO bf (iU (n:=8) (Cf:=A.C) (pv 0) T.cl T.mB d8 hr T.mD aV) aj (aN _)))) af)))),?_⟩
  try dsimp only[bt]
  have lim:fe=16777216:=by decide
  have ol:=ho.len;refine⟨_,rfl,B,rfl,⟨_,hB⟩,λR hR=>?_⟩
  have sR:∀ {o:HO},bc H (upd H R o):=ax hR;refine oX (K:=K) (a:=B) (xs:=os.map V.ref) (λi ys H2=>ys=(ms.take i).map (λm=>V.bl (decide (m.k=0)))/\H2=upd H R (.lst ys)) ⟨rfl,rfl⟩ (by rw[ba];omega) ?_ ?_ ?_
  ·rintro i ys H2 hi ⟨rfl,rfl⟩;rw[ba]at hi;exact⟨sR.seq hB,ae,by rw[ba,Sj];omega⟩
  ·rintro i y ys H2 hy ⟨rfl,rfl⟩;refine aL λGq gq=>?_
   have hi:i < ms.length:=by have:=(List.getElem?_eq_some_iff.mp hy).1;rw[ba]at this;omega
   obtain⟨o,ho1,_,dx,v,ho2,_⟩:=ho.get (tu hi);rw[R0,ho1]at hy;cases hy;refine gq ?_;refine⟨_,rfl,ms[i].k,ms[i].k8,o,dx,_,rfl,sR _ _ ho2,iP _ v,o,rfl,rfl,?_⟩;rw[qR _ ms[i].k8];refine bS.mk (by rw[ba];omega) ae ⟨?_,by rw[iK]⟩
   rw[SY,tu hi,kg];rfl
  ·rintro ys H2 ⟨rfl,rfl⟩;rw[ba,<-ol,SW];refine⟨R,ms.map (λm=>decide (m.k=0)),rfl,SqL.of (by rw[ae,TC];rfl),?_⟩
   rw[List.any_map];exact q _ sR
theorem ub (T:Txt w.params K mg A):aX P w K mg base CX0 3 A.j6 A.gy ["pile"] (NL A K):=by
 have EA:∀k,k < 8->aX P w K mg base CX0 2 (A.ft k) (A.ftd k) ["self"] (Bd A K k):=CP T;refine T.mV.ok kY (λvs H Q E h=>?_) (λcdv A' outer s H vs Q E hr h=>?_)
 ·obtain⟨B,c,ms,os,rfl,_⟩:=h;rfl
 ·obtain⟨B,c,ms,os,rfl,⟨hB,ho⟩,q⟩:=h;refine⟨_,(ah (a4 (qh (ni (pv 0) (λ_=>rfl)))
 (ai (aI gb))
 aJ)
 (ah (aZ (i:=1) kY.nd rfl (ma rfl) (iU (n:=8) (Cf:=A.C) (aH a7 (pv 0) (kM gi ag) (λ_ _=>rfl)) T.cl T.Jc EA hr T.Je aV))
 (ai (aI (Hb (gO bf (aH aK (pv 1) ag (λ_ _=>rfl)) aj (aN _)) (Dr (gO um (aH aK (aH aK (pv 1) ag (λ_ _=>rfl)) ag (λ_ _=>rfl)) aj (aN _)))))))),?_⟩
  try dsimp only[bt]
  rcases R6 os with h | ⟨pre,o,h⟩
  ·subst h;cases ho;refine⟨_,rfl,_,.inl ⟨_,hB,rfl⟩,cC ?_⟩;exact q H (bc.refl _)
  ·rw[R7]at h;subst h;refine⟨_,rfl,_,.inl ⟨_,hB,rfl⟩,pN (by simp) ?_⟩
   refine aL λGq gq=>?_
   obtain⟨ms',m,rfl,_,_,dx,v,hm,hv⟩:=ho.last;have gl:(ms'++[m]).getLast?=some m:=Sw;unfold dF at q;rw[gl]at q;refine gq ?_;refine⟨_,rfl,_,rfl,B,_,_,_,rfl,rfl,hB,xY pre o,m.k,m.k8,o,dx,_,rfl,hm,FA m.k v,?_⟩
   by_cases h0:m.k=0
   ·obtain⟨tx,rfl⟩:∃tx,m=.mat tx:=by cases m <;> first | exact⟨_,rfl⟩ | exact absurd h0 (by simp[Mn.k])
    refine aL λGq gq=>?_
    obtain⟨p,rfl,_,hp⟩:=hv;refine gq ?_;refine .inl ⟨rfl,o,dx,p,tx.map V.str,rfl,hm,SqL.of hp,λp2 u hp2 hu npu=>?_⟩
    have nu:(upd H p2 (.lst (tx.map V.str))) u=none:=(ao (R4 npu)).trans hu;refine ixv rfl (SqT.of ae) rfl ⟨rfl,_,rfl,?_⟩;rw[bJ 0 (by decide)]
    exact bK (q _ ((ax hp2).new nu))
   ·refine .inr ⟨by omega,o,dx,v,rfl,hm,λu hu=>?_⟩
    have su:=ax (o:=.tup (rowOf m.k v)) hu;refine ixv rfl (SqT.of ae) cv ⟨rfl,_,rfl,?_⟩;rw[bJ m.k m.k8]
    by_cases h1:m.k=1
    ·obtain⟨e,rfl⟩:∃e,m=.chg e:=by cases m <;> first | exact⟨_,rfl⟩ | exact absurd h1 (by simp[Mn.k])
     refine aL λGq gq=>?_
     obtain⟨t,rfl,ht⟩:=hv;refine gq ?_;refine pM (decide_eq_true rfl) (ixv rfl (SqT.of ae) rfl ⟨t,_,_,_,rfl,rfl,bj su ht.sq,kF e,rfl,?_⟩);rw[Bf];exact q _ su
    ·rw[decide_eq_false h1];have q':∀H',bc H H'->Q (.bl false) H':=by
      cases m with
      |chg e=>exact absurd rfl h1
      |_=>exact q
     exact bK (q' _ su)
theorem hV (T:Txt w.params K mg A):aX P w K mg base CX0 4 A.fO A.dZ ["kind","pile"] (Lb A K):=by
 refine T.eO.ok nI (λvs H Q E h=>?_) (λcdv A' outer s H vs Q E hr h=>?_)
 ·obtain⟨k,B,c,ms,os,rfl,_⟩:=h;rfl
 ·obtain⟨k,B,c,ms,os,rfl,k8,hp,hl,q⟩:=h;refine⟨_,(ah (a4 (aC bf (pv 0) aj (aN _))
 (ai (aI (aU (ub T) hr rfl T.uW T.mV.kp T.uX .nil aV (aa (pv 1) af))))
 aJ)
 (ah (a4 (aC oS (pv 0) (a8 (aa aj (aa aj (aa aj (aa aj af))))) rfl)
 (ai (aI (aU (qf T) (hr.mono (by decide)) rfl T.rR T.my.kp T.rS .nil aV (aa (pv 1) af))))
 aJ)
 (ai (aI gb)))),?_⟩
  try dsimp only[bt]
  refine⟨_,rfl,rfl,_,rfl,?_⟩;rw[bL k k8];unfold jS at q
  by_cases h2:k=2
  ·rw[if_pos h2]at q;exact pM (decide_eq_true h2) ⟨_,rfl,B,c,ms,os,rfl,hp,q⟩
  ·rw[if_neg h2]at q;refine pN (decide_eq_false h2) ?_;refine⟨_,rfl,(sl 4),λt ht=>?_⟩
   have st:=ax (o:=.tup [V.str (ar "change"),V.str (ar "put off"),V.str (ar "close"),V.str (ar "lay")]) ht;refine⟨t,_,rfl,.inr (SqT.of ae),rfl,rfl,_,rfl,?_⟩;have ein:(if false=true then !inV (V.str (nm k)) [V.str (ar "change"),V.str (ar "put off"),V.str (ar "close"),V.str (ar "lay")] else inV (V.str (nm k)) [V.str (ar "change"),V.str (ar "put off"),V.str (ar "close"),V.str (ar "lay")])=decide (k=1\/k=3\/k=4\/k=5):=by
    have:∀k,k < 8->inV (V.str (nm k)) [V.str (ar "change"),V.str (ar "put off"),V.str (ar "close"),V.str (ar "lay")]=decide (k=1\/k=3\/k=4\/k=5):=by trivial
    exact this k k8
   rw[ein]
   by_cases h3:k=1\/k=3\/k=4\/k=5
   ·rw[if_pos h3]at q;exact pM (decide_eq_true h3) ⟨_,rfl,B,c,ms,os,rfl,hp.same st,hl,λH' s'=>q H' (st.trans s')⟩
   ·rw[if_neg h3]at q;exact pN (decide_eq_false h3) (q _ st)
theorem pL (T:Txt w.params K mg A):aX P w K mg base (CXX P w) 5 A.gz A.eJ ["kind","pile","closed"] (Pn A K):=by
 refine T.jo.okX iF (λvs H Q E h=>?_) (λcdv A' outer s H vs Q E hr h=>?_)
 ·obtain⟨k,B,cl,c,ms,os,rfl,_⟩:=h;rfl
 ·obtain⟨k,B,cl,c,ms,os,rfl,k8,hp,hl,q,qx⟩:=h;refine⟨_,(a6 (psx (aZ (i:=3) iF.nd rfl (ma rfl) (aU (ua T) (hr.mono (by decide)) rfl T.wX T.rQ.kp T.wY .nil aV (aa (pv 1) (aa (pv 2) af)))))
 (a6 (eI (aC q5 (aH DL (vh (v:=V.ref A.tab) rfl T.vy rfl) (pv 0) (λ_ _=>rfl)) (pv 3) (aN _))
 (bw (l7 T.ph (uL T) (hr.mono (by decide)) T.xK rfl rfl T.CF (aa (pv 3) af)))
 (rp aJ))
 (bw (eI (qh (j3 (aU (hV T) hr rfl T.iG T.eO.kp T.iH .nil aV (aa (pv 0) (aa (pv 1) af)))))
 (a6 (eI (j3 (aU (qf T) (hr.mono (by decide)) rfl T.rR T.my.kp T.rS .nil aV (aa (pv 1) af)))
 (bw (gu T.CH rfl rfl T.El (aa aj af)))
 (rp aJ))
 (bw (gu T.CG rfl rfl T.Ek (aa (za (sU (pv 0) (i6 sT))) af))))
 (rp aJ))))),?_⟩
  try dsimp only[bt]
  refine⟨_,rfl,_,rfl,B,cl,c,ms,os,rfl,hp,?_⟩;obtain⟨tk,htk⟩:=T.rk k k8;refine⟨_,rfl,A.tab,nm k,.int k,_,rfl,rfl,T.tb,htk,⟨_,rfl⟩,_,rfl,_,_,rfl,rfl,_,rfl,dc (λe=>?_) (λe=>?_)⟩
  ·have e':(k:Int)<=iR cl ms:=of_decide_eq_true e;have hb:=Ez cl ms;refine⟨_,rfl,_,rfl,lU (by omega) (by omega),λd hd=>qx (.qP (iR cl ms)) (by unfold qQ;rw[if_pos e']) _ _ _ (ax hd) ⟨⟨rfl,d,rfl,ae⟩,λ_ z=>by cases z;exact hd⟩⟩
  ·have e':¬(k:Int)<=iR cl ms:=λz=>e (decide_eq_true z)
   unfold qQ at q qx;rw[if_neg e']at q qx;refine⟨_,rfl,_,rfl,k,B,c,ms,os,rfl,k8,hp,hl,λH' s'=>⟨_,rfl,?_⟩⟩
   cases hn:jS ms k with
   |true =>
    rw[hn,if_pos rfl]at q;exact bK (q rfl _ s')
   |false =>
    rw[hn,if_neg kj]at qx;refine cC ⟨_,rfl,B,c,ms,os,rfl,hp.same s',hl,λH2 s2=>⟨_,rfl,?_⟩⟩
    cases hm:pK ms with
    |true =>
     rw[hm,if_pos rfl]at qx;exact cC ⟨by decide,qx _ rfl _ _ _ (s'.trans s2) ⟨⟨rfl,rfl⟩,λ_ z=>nomatch z⟩⟩
    |false =>
     rw[hm,if_neg kj]at qx;refine bK ⟨_,rfl,nm k,.str,?_,?_,?_⟩
     ·have:∀k,k < 8->(nm k).length<=10:=by trivial
      exact ku (this k k8) (by decide)
     ·have:∀k,k < 8->(SI++nm k:Str).length<=10:=by trivial
      exact ku (this k k8) (by decide)
     ·have:∀k,k < 8->((SI++nm k)++ar " needs a matter on the pile":Str).length<=100:=by trivial
      have l:=ku (this k k8) (show 100<=fe by decide)
      exact⟨l,l,(sl 1),qx _ rfl _ _ _ (s'.trans s2) ⟨⟨rfl,rfl⟩,λ_ z=>nomatch z⟩⟩
theorem gI (T:Txt w.params K mg A):aX P w K mg base CX0 1 A.f_n A.AY ["self"] (A5 0):=by
 refine T.F_n.ok we (λvs H Q E h=>?_) (λcdv A' outer s H vs Q E hr h=>?_)
 ·obtain⟨m,rfl,_⟩:=h;rfl
 ·obtain⟨m,rfl,q⟩:=h;exact⟨_,(ai (aI aj)),q⟩
theorem GQ (T:Txt w.params K mg A):aX P w K mg base CX0 1 A.Nk A.Iw ["self"] (A5 4):=by
 refine T.Rg.ok yB (λvs H Q E h=>?_) (λcdv A' outer s H vs Q E hr h=>?_)
 ·obtain⟨m,rfl,_⟩:=h;rfl
 ·obtain⟨m,rfl,q⟩:=h;exact⟨_,(ai (aI aj)),q⟩
theorem Lc (T:Txt w.params K mg A):∀k,k < 8->aX P w K mg base CX0 1 (A.fn k) (A.fnd k) ["self"] (A5 k)
 | 0,_=>gI T
 | 1,_=>gI T
 | 2,_=>gI T
 | 3,_=>gI T
 | 4,_=>GQ T
 | 5,_=>gI T
 | 6,_=>gI T
 | 7,_=>gI T
 |n+8,h=>absurd h (by omega)
end
theorem iS {a b:Nat}:((ki (a:Int):Key)=ki (b:Int))↔a=b:=⟨λh=>by have:=Sum.inl.inj h;omega,λh=>by rw[h]⟩
theorem b6 {k:Nat}{v:V}{ks:List Nat}{vs:List V}:a5 ((k::ks).zip (v::vs))=(ki (k:Int),v)::a5 (ks.zip vs):=rfl
theorem mJ {n:Nat}:∀ {ks:List Nat} {vs:List V},n∉ks->et (a5 (ks.zip vs)) (ki (n:Int))=none
 |[],_,_=>rfl
 |_::_,[],_=>rfl
 |k::ks,v::vs,h=>by
  rw[b6,bF (λz=>h (by rw[iS.mp z];exact eg))]
  exact mJ λz=>h (km _ z)
theorem zP {n:Nat}{v:V}:∀ {ks:List Nat} {vs:List V} {j:Nat},ks.Nodup->ks[j]?=some n->vs[j]?=some v->et (a5 (ks.zip vs)) (ki (n:Int))=some v
 |[],_,_,_,h,_=>by simp at h
 |_::_,[],_,_,_,h=>by simp at h
 |k::ks,u::vs,0,_,h,g=>by
  rw[Sa]at h g;cases h;cases g;exact df rfl
 |k::ks,u::vs,j+1,nd,h,g=>by
  rw[Sf]at h g;obtain⟨n1,n2⟩:=List.nodup_cons.mp nd;rw[b6,bF (λz=>n1 (by rw[iS.mp z];exact RV h))]
  exact zP n2 h g
theorem r6 {n:Nat}{v:V}:∀ {ks:List Nat} {vs:List V},n∉ks->(a5 (ks.zip vs)).map (λkv=>if kv.1=(ki (n:Int):Key) then (kv.1,v) else kv)=a5 (ks.zip vs)
 |[],_,_=>rfl
 |_::_,[],_=>rfl
 |k::ks,u::vs,h=>by
  rw[b6,gr,r6 λz=>h (km _ z),if_neg (λz=>h (by rw[iS.mp z];exact eg))]
theorem zQ {n:Nat}{v:V}:∀ {ks:List Nat} {vs:List V} {j:Nat},ks.Nodup->ks[j]?=some n->(a5 (ks.zip vs)).map (λkv=>if kv.1=(ki (n:Int):Key) then (kv.1,v) else kv)=a5 (ks.zip (vs.set j v))
 |[],_,_,_,h=>by simp at h
 |k::ks,[],_,_,_=>by simp[a5]
 |k::ks,u::vs,0,nd,h=>by
  rw[Sa]at h;cases h;rw[b6,gr,r6 (List.nodup_cons.mp nd).1,if_pos rfl];rfl
 |k::ks,u::vs,j+1,nd,h=>by
  rw[Sf]at h;obtain⟨n1,n2⟩:=List.nodup_cons.mp nd;rw[b6,gr,zQ n2 h,if_neg (λz=>n1 (by rw[iS.mp z];exact RV h))]
  rfl
theorem GR {n:Nat}{v:V}{ks:List Nat}{vs:List V}{j:Nat}(nd:ks.Nodup)(h:ks[j]?=some n)(l:ks.length=vs.length):putK (a5 (ks.zip vs)) (ki (n:Int)) v=a5 (ks.zip (vs.set j v)):=by
 have hj:j < vs.length:=by rw[<-l];exact(List.getElem?_eq_some_iff.mp h).1
 unfold putK;rw[nv,zP nd h (tu hj)];exact(if_pos rfl).trans (zQ nd h)
theorem lW {n:Nat}{v:V}{ks:List Nat}{vs:List V}(h:n∉ks)(l:ks.length=vs.length):putK (a5 (ks.zip vs)) (ki (n:Int)) v=a5 ((ks++[n]).zip (vs++[v])):=by
 rw[HZ v (mJ h),List.zip_append l];unfold a5;rw[kg];rfl
section
variable{β:Type}{R:Nat×β->V->Prop}
def at1 (n:Nat)(xs:List (Nat×β)):Option (Nat×β):=xs.find? λx=>decide (x.1=n)
theorem eZ {n:Nat}{xs:List (Nat×β)}{x:Nat×β}(h:at1 n xs=some x):x.1=n/\x∈xs:=by
 unfold at1 at h;have:=List.find?_some h;exact⟨of_decide_eq_true this,List.mem_of_find?_eq_some h⟩
theorem ox {n:Nat}{xs:List (Nat×β)}(h:at1 n xs=none):n∉xs.map (·.1):=λz=>by
 obtain⟨x,hx,e⟩:=List.mem_map.mp z;have:=List.find?_eq_none.mp h x hx;exact this (decide_eq_true e)
theorem br.val {n:Nat}:∀ {xs:List (Nat×β)} {ws:List V} {x:Nat×β},br R xs ws->at1 n xs=some x->∃v,et (a5 ((xs.map (·.1)).zip ws)) (ki (n:Int))=some v/\R x v
 |_,_,_,.nil,h=>nomatch h
 |y::xs,w::ws,x,.cons g t,h=>by
  unfold at1 at h;rw[Sn]at h
  by_cases e:y.1=n
  ·rw[decide_eq_true e]at h;cases h;exact⟨w,by rw[gr,b6];exact df (iS.mpr e),g⟩
  ·rw[decide_eq_false e]at h;obtain⟨v,h1,h2⟩:=br.val t h;exact⟨v,by rw[gr,b6,bF (λz=>e (iS.mp z))];exact h1,h2⟩
theorem br.drop {n:Nat}:∀ {xs:List (Nat×β)} {ws:List V},br R xs ws->∃ws',fA (a5 ((xs.map (·.1)).zip ws)) (ki (n:Int))=a5 (((xs.filter λx=>decide (x.1≠n)).map (·.1)).zip ws')/\br R (xs.filter λx=>decide (x.1≠n)) ws'
 |_,_,.nil=>⟨[],rfl,.nil⟩
 |y::xs,w::ws,.cons g t=>by
  obtain⟨ws',h1,h2⟩:=br.drop (n:=n) t
  by_cases e:y.1=n
  ·refine⟨ws',?_,?_⟩
   ·rw[List.filter_cons_of_neg (by simp[e]),<-h1,gr,b6]
    unfold fA;rw[List.filter_cons_of_neg (by simp[e])]
   ·rw[List.filter_cons_of_neg (by simp[e])];exact h2
  ·refine⟨w::ws',?_,?_⟩
   ·rw[List.filter_cons_of_pos (by simp[e]),gr,gr,b6,b6,<-h1]
    unfold fA;have hne:(ki (y.1:Int):Key)≠ki (n:Int):=λz=>e (iS.mp z)
    rw[List.filter_cons_of_pos (by exact decide_eq_true hne)]
   ·rw[List.filter_cons_of_pos (by simp[e])];exact .cons g h2
theorem br.Po {R':Nat×β->V->Prop}{n:Nat}{f:Nat×β->Nat×β}{v:V}(h1:∀x,x.1=n->R x v->R' (f x) v)(h2:∀x u,x.1≠n->R x u->R' x u):∀ {xs:List (Nat×β)} {ws:List V},br R xs ws->(xs.map (·.1)).Nodup->et (a5 ((xs.map (·.1)).zip ws)) (ki (n:Int))=some v ->
  br R' (xs.map λx=>if x.1=n then f x else x) ws
 |_,_,.nil,_,h=>nomatch h
 |y::xs,w::ws,.cons g t,nd,h=>by
  rw[gr]at nd;obtain⟨n1,n2⟩:=List.nodup_cons.mp nd;rw[gr,b6]at h;rw[gr]
  by_cases e:y.1=n
  ·rw[df (iS.mpr e)]at h;cases h;rw[if_pos e];refine .cons (h1 y e g) ?_;have hne:∀x∈xs,x.1≠n:=λx hx z=>n1 (by rw[e,<-z];exact List.mem_map_of_mem hx)
   have em:xs.map (λx=>if x.1=n then f x else x)=xs:=by
    have:xs.map (λx=>if x.1=n then f x else x)=xs.map id:=S5 λx hx=>if_neg (hne x hx)
    rw[this,List.map_id]
   rw[em];exact t.imp_mem λx hx u=>h2 x u (hne x hx)
  ·rw[bF (λz=>e (iS.mp z))]at h
   rw[if_neg e];exact .cons (h2 y w e g) (br.Po h1 h2 t n2 h)
end
theorem br.set {α β:Type}{R:α->β->Prop}:∀ {as:List α} {bs:List β} {a:α} {b:β} (j:Nat),br R as bs->R a b->br R (as.set j a) (bs.set j b)
 |_,_,_,_,_,.nil,_=>.nil
 |_,_,_,_,0,.cons _ t,h=>.cons h t
 |_,_,_,_,j+1,.cons g t,h=>.cons g (t.set j h)
def pOb:Rl->Bool | .ob=>true | _=>false
def Me:Rl->Bool | .rows=>true | _=>false
def FK:Rl->Bool | .made=>true | _=>false
def Mf:Rl->Bool | .av=>true | _=>false
def Ld:Rl->Bool | .ob=>true | .av=>true | .aG=>true | _=>false
def FL (n:Nat):Rl->Bool | .d9 m=>decide (m=n) | _=>false
def Pp:Rl->Bool | .firsts=>true | _=>false
def Pq:Rl->Bool | .kept=>true | _=>false
def FN (n:Nat):Rl->Bool | .ob=>true | .aG=>true | .b7 m=>decide (m=n) | _=>false
theorem cE {i:Nat}{c:Col}{a b:Addr}{r r':Rl}(h:c a=some (i,r))(h':c b=some (i,r'))(n:r≠r'):a≠b:=λz=>by
 rw[z,h']at h;cases h;exact n rfl
section
variable{A:Adr}{i:Nat}{c c':Col}{H H':Hp}{o dx aM aP aA aD aF aE aR:Addr}{st:Ch}{ms ds:List Addr}{ws fs es:List V}
theorem ChX.free {W:Option (Nat×Rl)->Prop}(h:∀r,¬W (some (i,r)))(s:Step W c c' H H')(X:ChX A i c H o st dx aM aP aA aD aF aE aR ms ds ws fs es):ChX A i c' H' o st dx aM aP aA aD aF aE aR ms ds ws fs es:=by
 have hn:¬W (c o):=by rw[X.co];exact h _
 refine⟨by rw[s.col o _ X.ob hn];exact X.co,s.keep _ _ X.ob hn,X.made.keep (h _) s,oq s X.mot,X.av.keep (h _) s,X.aG.keep (h _) s,X.wait.imp ?_,X.dec.keep (h _) s,f7 s X.iy,X.firsts.keep (h _) s,X.first.imp ?_,X.hJ.keep (h _) s,X.kept.imp ?_,X.rows.keep (h _) s⟩
 ·rintro x v ⟨t,p,e,z1,z2⟩;exact⟨t,p,e,z1.step s,z2.keep (h _) s⟩
 ·rintro x v ⟨p,e,z⟩;exact⟨p,e,z.keep (h _) s⟩
 ·rintro x v ⟨p,ts,e,z1,z2⟩;exact⟨p,ts,e,z1.keep (h _) s,z2.imp λ_ _ y=>y.step s⟩
theorem ChX.same (s:bc H H')(X:ChX A i c H o st dx aM aP aA aD aF aE aR ms ds ws fs es):ChX A i c H' o st dx aM aP aA aD aF aE aR ms ds ws fs es:=X.free (W:=λ_=>False) (λ_=>id) (Step.same id s)
theorem ChX.cl (s:bc H H')(X:ChX A i c H o st dx aM aP aA aD aF aE aR ms ds ws fs es):ChX A i (bz c H) H' o st dx aM aP aA aD aF aE aR ms ds ws fs es:=X.free (W:=λ_=>False) (λ_=>id) (Step.cl id s)
theorem ChX.at (X:ChX A i c H o st dx aM aP aA aD aF aE aR ms ds ws fs es):cV A i c H o st:=⟨_,_,_,_,_,_,_,_,_,_,_,_,_,X⟩
theorem ChX.attr (X:ChX A i c H o st dx aM aP aA aD aF aE aR ms ds ws fs es)(n:Int)(b:Bool) :
  Step (Wr i pOb) c c H (upd H o (.ins A.aB dx (chF (.int st.bN) (.int n) (.bl b) (.ref aM) (.ref aP) (.ref aA) (.ref aD) (.ref aF) (.ref aE) (.ref aR)))) /\
  ChX A i c (upd H o (.ins A.aB dx (chF (.int st.bN) (.int n) (.bl b) (.ref aM) (.ref aP) (.ref aA) (.ref aD) (.ref aF) (.ref aE) (.ref aR)))) o { st with aQ:=n,closed:=b } dx aM aP aA aD aF aE aR ms ds ws fs es:=by
 have s:Step (Wr i pOb) c c H (upd H o (.ins A.aB dx (chF (.int st.bN) (.int n) (.bl b) (.ref aM) (.ref aP) (.ref aA) (.ref aD) (.ref aF) (.ref aE) (.ref aR)))):=Step.upd Wr.nn (Wr.yes X.co rfl);exact⟨s,X.co,ae,X.made.kp rfl s,oq s X.mot,X.av.kp rfl s,X.aG.kp rfl s,hU (λ_ _=>rfl) s X.wait,X.dec.kp rfl s,f7 s X.iy,X.firsts.kp rfl s,qc (λ_ _=>rfl) s X.first,X.hJ.kp rfl s,rZ (λ_ _=>rfl) s X.kept,X.rows.kp rfl s⟩
theorem ChX.row (X:ChX A i c H o st dx aM aP aA aD aF aE aR ms ds ws fs es)(z:Str) :
  Step (Wr i Me) c c H (upd H aR (.lst (st.rows.map V.str++[.str z])))/\ChX A i c (upd H aR (.lst (st.rows.map V.str++[.str z]))) o { st with rows:=st.rows++[z] } dx aM aP aA aD aF aE aR ms ds ws fs es:=by
 have s:Step (Wr i Me) c c H (upd H aR (.lst (st.rows.map V.str++[.str z]))):=Step.upd Wr.nn (Wr.yes X.rows.1 rfl);have k:=jx rfl s X.co X.ob;exact⟨s,k.1,k.2,X.made.kp rfl s,oq s X.mot,X.av.kp rfl s,X.aG.kp rfl s,hU (λ_ _=>rfl) s X.wait,X.dec.kp rfl s,f7 s X.iy,X.firsts.kp rfl s,qc (λ_ _=>rfl) s X.first,X.hJ.kp rfl s,rZ (λ_ _=>rfl) s X.kept,X.rows.1,by rw[ae,kg];rfl⟩
theorem ChX.push (X:ChX A i c H o st dx aM aP aA aD aF aE aR ms ds ws fs es)(n:Nat) :
  Step (Wr i Mf) c c H (upd H aP (.lst (st.av.map nV++[nV n])))/\ChX A i c (upd H aP (.lst (st.av.map nV++[nV n]))) o { st with av:=st.av++[n] } dx aM aP aA aD aF aE aR ms ds ws fs es:=by
 have s:Step (Wr i Mf) c c H (upd H aP (.lst (st.av.map nV++[nV n]))):=Step.upd Wr.nn (Wr.yes X.av.1 rfl);have k:=jx rfl s X.co X.ob;exact⟨s,k.1,k.2,X.made.kp rfl s,oq s X.mot,⟨X.av.1,by rw[ae,kg];rfl⟩,X.aG.kp rfl s,hU (λ_ _=>rfl) s X.wait,X.dec.kp rfl s,f7 s X.iy,X.firsts.kp rfl s,qc (λ_ _=>rfl) s X.first,X.hJ.kp rfl s,rZ (λ_ _=>rfl) s X.kept,X.rows.kp rfl s⟩
theorem CQ {n k:Nat}(h1:1<=n)(h2:n<=k):(Sk 1 k)[n - 1]?=some n:=by
 rw[List.getElem?_range' (by omega)]
 congr 1
 omega
theorem ChX.FO (X:ChX A i c H o st dx aM aP aA aD aF aE aR ms ds ws fs es){n:Nat}{m:Mn}{x:Addr}(hn:cy st n)(hm:jy A c H m x) :
  Step (Wr i FK) c c H (upd H aM (.dK (putK (a5 ((Sk 1 st.made.length).zip (ms.map V.ref))) (ki (n:Int)) (.ref x)))) /\
  ChX A i c (upd H aM (.dK (putK (a5 ((Sk 1 st.made.length).zip (ms.map V.ref))) (ki (n:Int)) (.ref x)))) o { st with made:=st.made.set (n - 1) m } dx aM aP aA aD aF aE aR (ms.set (n - 1) x) ds ws fs es:=by
 have s:Step (Wr i FK) c c H (upd H aM (.dK (putK (a5 ((Sk 1 st.made.length).zip (ms.map V.ref))) (ki (n:Int)) (.ref x)))):=Step.upd Wr.nn (Wr.yes X.made.1 rfl);have k:=jx rfl s X.co X.ob;have ml:=X.mot.len;have e:=GR (v:=.ref x) (List.nodup_range' (s:=1) (n:=st.made.length)) (CQ hn.1 hn.2) (vs:=ms.map V.ref) (by rw[SV,ba];exact ml)
 have hd:gh i c (upd H aM (.dK (putK (a5 ((Sk 1 st.made.length).zip (ms.map V.ref))) (ki (n:Int)) (.ref x)))) .made aM ((Sk 1 (st.made.set (n - 1) m).length).zip ((ms.set (n - 1) x).map V.ref)) :=
  ⟨X.made.1,by rw[ae,e,S8,List.map_set]⟩
 exact⟨s,k.1,k.2,hd,(oq s X.mot).set _ (hm.step s),X.av.kp rfl s,X.aG.kp rfl s,hU (λ_ _=>rfl) s X.wait,X.dec.kp rfl s,f7 s X.iy,X.firsts.kp rfl s,qc (λ_ _=>rfl) s X.first,X.hJ.kp rfl s,rZ (λ_ _=>rfl) s X.kept,X.rows.kp rfl s⟩
theorem ChX.Le (X:ChX A i c H o st dx aM aP aA aD aF aE aR ms ds ws fs es){m:Mn}{x:Addr}(hm:jy A c H m x) :
  Step (Wr i FK) c c H (upd H aM (.dK (putK (a5 ((Sk 1 st.made.length).zip (ms.map V.ref))) (ki ((st.made.length+1:Nat):Int)) (.ref x)))) /\
  ChX A i c (upd H aM (.dK (putK (a5 ((Sk 1 st.made.length).zip (ms.map V.ref))) (ki ((st.made.length+1:Nat):Int)) (.ref x)))) o { st with made:=st.made++[m] } dx aM aP aA aD aF aE aR (ms++[x]) ds ws fs es:=by
 have s:Step (Wr i FK) c c H (upd H aM (.dK (putK (a5 ((Sk 1 st.made.length).zip (ms.map V.ref))) (ki ((st.made.length+1:Nat):Int)) (.ref x)))):=Step.upd Wr.nn (Wr.yes X.made.1 rfl);have k:=jx rfl s X.co X.ob;have ml:=X.mot.len;have e:=lW (v:=.ref x) (n:=st.made.length+1) (ks:=Sk 1 st.made.length) (vs:=ms.map V.ref) (by rw[Tg];omega) (by rw[SV,ba];exact ml)
 have hd:gh i c (upd H aM (.dK (putK (a5 ((Sk 1 st.made.length).zip (ms.map V.ref))) (ki ((st.made.length+1:Nat):Int)) (.ref x)))) .made aM ((Sk 1 (st.made++[m]).length).zip ((ms++[x]).map V.ref)) :=
  ⟨X.made.1,by rw[ae,e,ka,R5,List.range'_concat,kg,Nat.one_mul,Nat.add_comm 1];rfl⟩
 exact⟨s,k.1,k.2,hd,(oq s X.mot).snoc (hm.step s),X.av.kp rfl s,X.aG.kp rfl s,hU (λ_ _=>rfl) s X.wait,X.dec.kp rfl s,f7 s X.iy,X.firsts.kp rfl s,qc (λ_ _=>rfl) s X.first,X.hJ.kp rfl s,rZ (λ_ _=>rfl) s X.kept,X.rows.kp rfl s⟩
def nc (n:Nat)(e:Ed)(xs:List (Nat×List Ed)):List (Nat×List Ed):=xs.map λx=>if x.1=n then (x.1,x.2++[e]) else x
theorem ChX.dN (X:ChX A i c H o st dx aM aP aA aD aF aE aR ms ds ws fs es){n:Nat}{x:Nat×List Ed}(hx:at1 n st.kept=some x):∃(p:Addr) (ts:List Addr),et (a5 ((st.kept.map (·.1)).zip es)) (ki (n:Int))=some (.ref p)/\LstAt i c H (.d9 n) p (ts.map V.ref)/\ts.length=x.2.length:=by
 obtain⟨v,h1,p,ts,rfl,h2,h3⟩:=X.kept.val hx;rw[(eZ hx).1]at h2;exact⟨p,ts,h1,h2,h3.len.symm⟩
theorem ChX.Bg (X:ChX A i c H o st dx aM aP aA aD aF aE aR ms ds ws fs es){n:Nat}{e:Ed}{t p:Addr}{ts:List Addr}(hv:et (a5 ((st.kept.map (·.1)).zip es)) (ki (n:Int))=some (.ref p))(hl:LstAt i c H (.d9 n) p (ts.map V.ref))(nd:(st.kept.map (·.1)).Nodup)(ht:TupAt c H t (dS e)) :
  Step (Wr i (FL n)) c c H (upd H p (.lst (ts.map V.ref++[.ref t])))/\ChX A i c (upd H p (.lst (ts.map V.ref++[.ref t]))) o { st with kept:=nc n e st.kept } dx aM aP aA aD aF aE aR ms ds ws fs es:=by
 have s:Step (Wr i (FL n)) c c H (upd H p (.lst (ts.map V.ref++[.ref t]))):=Step.upd Wr.nn (Wr.yes hl.1 (decide_eq_true rfl));have k:=jx rfl s X.co X.ob;have ek:(nc n e st.kept).map (·.1)=st.kept.map (·.1):=by
  unfold nc;rw[TC];refine S5 λx _=>?_
  show (if x.1=n then (x.1,x.2++[e]) else x).1=x.1
  split <;> rfl
 refine⟨s,k.1,k.2,X.made.kp rfl s,oq s X.mot,X.av.kp rfl s,X.aG.kp rfl s,hU (λ_ _=>rfl) s X.wait,X.dec.kp rfl s,f7 s X.iy,X.firsts.kp rfl s,qc (λ_ _=>rfl) s X.first,by show gh i c _ .kept aE (((nc n e st.kept).map (·.1)).zip es);rw[ek];exact X.hJ.kp rfl s,?_,X.rows.kp rfl s⟩
 refine br.Po (f:=λx=>(x.1,x.2++[e])) (v:=.ref p) ?_ ?_ X.kept nd hv
 ·rintro x e1 ⟨q,us,e2,z1,z2⟩;cases e2;have e3:us.map V.ref=ts.map V.ref:=by
   have:=z1.2;rw[hl.2]at this;injection this with this
   injection this with this
   exact this.symm
  refine⟨p,us++[t],rfl,⟨z1.1,?_⟩,(z2.imp λ_ _ y=>y.step s).snoc (ht.step s)⟩
  rw[ae,<-e3,kg];rfl
 ·rintro x u e1 ⟨q,us,rfl,z1,z2⟩;exact⟨q,us,rfl,z1.kp (decide_eq_false e1) s,z2.imp λ_ _ y=>y.step s⟩
theorem ChX.Jt (X:ChX A i c H o st dx aM aP aA aD aF aE aR ms ds ws fs es){n:Nat}{tx:List Str}{p:Addr}(hp:H p=none)(hn:n∉st.firsts.map (·.1)) :
  Step (Wr i Pp) c (aw c p (some (i,.b5 n))) H (upd (upd H p (.lst (tx.map V.str))) aF (.dK (putK (a5 ((st.firsts.map (·.1)).zip fs)) (ki (n:Int)) (.ref p)))) /\
  ChX A i (aw c p (some (i,.b5 n))) (upd (upd H p (.lst (tx.map V.str))) aF (.dK (putK (a5 ((st.firsts.map (·.1)).zip fs)) (ki (n:Int)) (.ref p)))) o { st with firsts:=st.firsts++[(n,tx)] } dx aM aP aA aD aF aE aR ms ds ws (fs++[.ref p]) es:=by
 have np:∀ {a:Addr} {v:HO},H a=some v->a≠p:=λe=>az e hp
 have s:Step (Wr i Pp) c (aw c p (some (i,.b5 n))) H (upd (upd H p (.lst (tx.map V.str))) aF (.dK (putK (a5 ((st.firsts.map (·.1)).zip fs)) (ki (n:Int)) (.ref p)))) :=
  (Step.new Wr.nn hp).trans (Step.upd Wr.nn ⟨.firsts,by rw[au (np X.firsts.2)];exact X.firsts.1,rfl⟩)
 have k:=jx rfl s X.co X.ob;have e:=lW (v:=.ref p) hn (vs:=fs) (by rw[ba];exact X.first.len)
 have hd:gh i (aw c p (some (i,.b5 n))) (upd (upd H p (.lst (tx.map V.str))) aF (.dK (putK (a5 ((st.firsts.map (·.1)).zip fs)) (ki (n:Int)) (.ref p)))) .firsts aF (((st.firsts++[(n,tx)]).map (·.1)).zip (fs++[.ref p])) :=
  ⟨by rw[au (np X.firsts.2)];exact X.firsts.1,by rw[ae,e,kg];rfl⟩
 have hl:Bb i (aw c p (some (i,.b5 n))) (upd (upd H p (.lst (tx.map V.str))) aF (.dK (putK (a5 ((st.firsts.map (·.1)).zip fs)) (ki (n:Int)) (.ref p)))) (n,tx) (.ref p) :=
  ⟨p,rfl,aS,(ao (np X.firsts.2).symm).trans ae⟩
 exact⟨s,k.1,k.2,X.made.kp rfl s,oq s X.mot,X.av.kp rfl s,X.aG.kp rfl s,hU (λ_ _=>rfl) s X.wait,X.dec.kp rfl s,f7 s X.iy,hd,(qc (λ_ _=>rfl) s X.first).snoc hl,X.hJ.kp rfl s,rZ (λ_ _=>rfl) s X.kept,X.rows.kp rfl s⟩
theorem ChX.Lf (X:ChX A i c H o st dx aM aP aA aD aF aE aR ms ds ws fs es){n:Nat}{p:Addr}(hp:H p=none)(hn:n∉st.kept.map (·.1)) :
  Step (Wr i Pq) c (aw c p (some (i,.d9 n))) H (upd (upd H p (.lst [])) aE (.dK (putK (a5 ((st.kept.map (·.1)).zip es)) (ki (n:Int)) (.ref p)))) /\
  ChX A i (aw c p (some (i,.d9 n))) (upd (upd H p (.lst [])) aE (.dK (putK (a5 ((st.kept.map (·.1)).zip es)) (ki (n:Int)) (.ref p)))) o { st with kept:=st.kept++[(n,([]:List Ed))] } dx aM aP aA aD aF aE aR ms ds ws fs (es++[.ref p]):=by
 have np:∀ {a:Addr} {v:HO},H a=some v->a≠p:=λe=>az e hp
 have s:Step (Wr i Pq) c (aw c p (some (i,.d9 n))) H (upd (upd H p (.lst [])) aE (.dK (putK (a5 ((st.kept.map (·.1)).zip es)) (ki (n:Int)) (.ref p)))) :=
  (Step.new Wr.nn hp).trans (Step.upd Wr.nn ⟨.kept,by rw[au (np X.hJ.2)];exact X.hJ.1,rfl⟩)
 have k:=jx rfl s X.co X.ob;have e:=lW (v:=.ref p) hn (vs:=es) (by rw[ba];exact X.kept.len)
 have hd:gh i (aw c p (some (i,.d9 n))) (upd (upd H p (.lst [])) aE (.dK (putK (a5 ((st.kept.map (·.1)).zip es)) (ki (n:Int)) (.ref p)))) .kept aE (((st.kept++[(n,([]:List Ed))]).map (·.1)).zip (es++[.ref p])) :=
  ⟨by rw[au (np X.hJ.2)];exact X.hJ.1,by rw[ae,e,kg];rfl⟩
 have hl:FI i (aw c p (some (i,.d9 n))) (upd (upd H p (.lst [])) aE (.dK (putK (a5 ((st.kept.map (·.1)).zip es)) (ki (n:Int)) (.ref p)))) (n,[]) (.ref p) :=
  ⟨p,[],rfl,⟨aS,(ao (np X.hJ.2).symm).trans ae⟩,.nil⟩
 exact⟨s,k.1,k.2,X.made.kp rfl s,oq s X.mot,X.av.kp rfl s,X.aG.kp rfl s,hU (λ_ _=>rfl) s X.wait,X.dec.kp rfl s,f7 s X.iy,X.firsts.kp rfl s,qc (λ_ _=>rfl) s X.first,hd,(rZ (λ_ _=>rfl) s X.kept).snoc hl,X.rows.kp rfl s⟩
def Ch.jI (st:Ch)(n:Nat)(u:Int):Ch:={ st with av:=[],aG:=st.aG++[(n,u,st.av)] }
theorem ChX.jI (X:ChX A i c H o st dx aM aP aA aD aF aE aR ms ds ws fs es){n:Nat}{u:Int}{t p:Addr}(ht:H t=none)(hp:H p=none)(ntp:p≠t)(hn:n∉st.aG.map (·.1)) :
  ∃c',Step (Wr i Ld) c c' H (upd (upd (upd (upd H t (.tup [.int u,.ref aP])) aA (.dK (putK (a5 ((st.aG.map (·.1)).zip ws)) (ki (n:Int)) (.ref t)))) p (.lst [])) o (.ins A.aB dx (chF (.int st.bN) (.int st.aQ) (.bl st.closed) (.ref aM) (.ref p) (.ref aA) (.ref aD) (.ref aF) (.ref aE) (.ref aR)))) /\
  ChX A i c' (upd (upd (upd (upd H t (.tup [.int u,.ref aP])) aA (.dK (putK (a5 ((st.aG.map (·.1)).zip ws)) (ki (n:Int)) (.ref t)))) p (.lst [])) o (.ins A.aB dx (chF (.int st.bN) (.int st.aQ) (.bl st.closed) (.ref aM) (.ref p) (.ref aA) (.ref aD) (.ref aF) (.ref aE) (.ref aR)))) o (st.jI n u) dx aM p aA aD aF aE aR ms ds (ws++[.ref t]) fs es:=by
 have nt:∀ {a:Addr} {v:HO},H a=some v->a≠t:=λe=>az e ht
 have np:∀ {a:Addr} {v:HO},H a=some v->a≠p:=λe=>az e hp
 have oA:o≠aA:=cE X.co X.aG.1 (λz=>nomatch z)
 have oP:o≠aP:=cE X.co X.av.1 (λz=>nomatch z)
 have AP:aA≠aP:=cE X.aG.1 X.av.1 (λz=>nomatch z)
 have e:=lW (v:=.ref t) hn (vs:=ws) (by rw[ba];exact X.wait.len)
 have hp2:(upd (upd H t (.tup [.int u,.ref aP])) aA (.dK (putK (a5 ((st.aG.map (·.1)).zip ws)) (ki (n:Int)) (.ref t)))) p=none:=by
  rw[ao (np X.aG.2).symm,ao ntp];exact hp
 refine⟨aw (aw (aw c t none) p (some (i,.av))) aP (some (i,.b7 n)),?_⟩;have s:Step (Wr i Ld) c (aw (aw (aw c t none) p (some (i,.av))) aP (some (i,.b7 n))) H (upd (upd (upd (upd H t (.tup [.int u,.ref aP])) aA (.dK (putK (a5 ((st.aG.map (·.1)).zip ws)) (ki (n:Int)) (.ref t)))) p (.lst [])) o (.ins A.aB dx (chF (.int st.bN) (.int st.aQ) (.bl st.closed) (.ref aM) (.ref p) (.ref aA) (.ref aD) (.ref aF) (.ref aE) (.ref aR)))):=by
  refine((((Step.new Wr.nn ht).trans (Step.upd Wr.nn ⟨.aG,?_,rfl⟩)).trans (Step.new Wr.nn hp2)).trans (Step.upd Wr.nn ⟨.ob,?_,rfl⟩)).trans (Step.role Wr.nn ⟨.av,?_,rfl⟩)
  ·rw[au (nt X.aG.2)];exact X.aG.1
  ·rw[au (np X.ob),au (nt X.ob)];exact X.co
  ·rw[au (np X.av.2),au (nt X.av.2)];exact X.av.1
 have k1:aw (aw (aw c t none) p (some (i,.av))) aP (some (i,.b7 n)) o=some (i,.ob):=by
  rw[au oP,au (np X.ob),au (nt X.ob)];exact X.co
 have hd:gh i (aw (aw (aw c t none) p (some (i,.av))) aP (some (i,.b7 n))) (upd (upd (upd (upd H t (.tup [.int u,.ref aP])) aA (.dK (putK (a5 ((st.aG.map (·.1)).zip ws)) (ki (n:Int)) (.ref t)))) p (.lst [])) o (.ins A.aB dx (chF (.int st.bN) (.int st.aQ) (.bl st.closed) (.ref aM) (.ref p) (.ref aA) (.ref aD) (.ref aF) (.ref aE) (.ref aR)))) .aG aA (((st.aG++[(n,u,st.av)]).map (·.1)).zip (ws++[.ref t])) :=
  ⟨by rw[au AP,au (np X.aG.2),au (nt X.aG.2)];exact X.aG.1,by rw[ao oA.symm,ao (np X.aG.2),ae,e,kg];rfl⟩
 have hl:LstAt i (aw (aw (aw c t none) p (some (i,.av))) aP (some (i,.b7 n))) (upd (upd (upd (upd H t (.tup [.int u,.ref aP])) aA (.dK (putK (a5 ((st.aG.map (·.1)).zip ws)) (ki (n:Int)) (.ref t)))) p (.lst [])) o (.ins A.aB dx (chF (.int st.bN) (.int st.aQ) (.bl st.closed) (.ref aM) (.ref p) (.ref aA) (.ref aD) (.ref aF) (.ref aE) (.ref aR)))) (.b7 n) aP (st.av.map nV) :=
  ⟨aS,by rw[ao oP.symm,ao (np X.av.2),ao AP.symm,ao (nt X.av.2)];exact X.av.2⟩
 have hn':LstAt i (aw (aw (aw c t none) p (some (i,.av))) aP (some (i,.b7 n))) (upd (upd (upd (upd H t (.tup [.int u,.ref aP])) aA (.dK (putK (a5 ((st.aG.map (·.1)).zip ws)) (ki (n:Int)) (.ref t)))) p (.lst [])) o (.ins A.aB dx (chF (.int st.bN) (.int st.aQ) (.bl st.closed) (.ref aM) (.ref p) (.ref aA) (.ref aD) (.ref aF) (.ref aE) (.ref aR)))) .av p [] :=
  ⟨by rw[au (np X.av.2).symm,aS],by rw[ao (np X.ob).symm,ae]⟩
 have htt:TupAt (aw (aw (aw c t none) p (some (i,.av))) aP (some (i,.b7 n))) (upd (upd (upd (upd H t (.tup [.int u,.ref aP])) aA (.dK (putK (a5 ((st.aG.map (·.1)).zip ws)) (ki (n:Int)) (.ref t)))) p (.lst [])) o (.ins A.aB dx (chF (.int st.bN) (.int st.aQ) (.bl st.closed) (.ref aM) (.ref p) (.ref aA) (.ref aD) (.ref aF) (.ref aE) (.ref aR)))) t [.int u,.ref aP] :=
  ⟨by rw[au (nt X.av.2).symm,au ntp.symm,aS],.inl (by rw[ao (nt X.ob).symm,ao ntp.symm,ao (nt X.aG.2).symm,ae])⟩
 exact⟨s,k1,ae,X.made.kp rfl s,oq s X.mot,hn',hd,(hU (λ_ _=>rfl) s X.wait).snoc ⟨t,aP,rfl,htt,hl⟩,X.dec.kp rfl s,f7 s X.iy,X.firsts.kp rfl s,qc (λ_ _=>rfl) s X.first,X.hJ.kp rfl s,rZ (λ_ _=>rfl) s X.kept,X.rows.kp rfl s⟩
def Ch.mZ (st:Ch)(n:Nat)(pl:List Nat):Ch:={ st with av:=pl,aG:=st.aG.filter λx=>decide (x.1≠n) }
theorem ChX.waitOf (X:ChX A i c H o st dx aM aP aA aD aF aE aR ms ds ws fs es){n:Nat}{x:Nat×Int×List Nat}(hx:at1 n st.aG=some x):∃t p,et (a5 ((st.aG.map (·.1)).zip ws)) (ki (n:Int))=some (.ref t)/\TupAt c H t [.int x.2.1,.ref p]/\LstAt i c H (.b7 n) p (x.2.2.map nV):=by
 obtain⟨v,h1,t,p,rfl,h2,h3⟩:=X.wait.val hx;rw[(eZ hx).1]at h3;exact⟨t,p,h1,h2,h3⟩
theorem ChX.mZ (X:ChX A i c H o st dx aM aP aA aD aF aE aR ms ds ws fs es){n:Nat}{p:Addr}{pl:List Nat}(hl:LstAt i c H (.b7 n) p (pl.map nV)) :
  ∃c' ws',Step (Wr i (FN n)) c c' H (upd (upd H aA (.dK (fA (a5 ((st.aG.map (·.1)).zip ws)) (ki (n:Int))))) o (.ins A.aB dx (chF (.int st.bN) (.int st.aQ) (.bl st.closed) (.ref aM) (.ref p) (.ref aA) (.ref aD) (.ref aF) (.ref aE) (.ref aR)))) /\
  ChX A i c' (upd (upd H aA (.dK (fA (a5 ((st.aG.map (·.1)).zip ws)) (ki (n:Int))))) o (.ins A.aB dx (chF (.int st.bN) (.int st.aQ) (.bl st.closed) (.ref aM) (.ref p) (.ref aA) (.ref aD) (.ref aF) (.ref aE) (.ref aR)))) o (st.mZ n pl) dx aM p aA aD aF aE aR ms ds ws' fs es:=by
 have oA:o≠aA:=cE X.co X.aG.1 (λz=>nomatch z)
 have op:o≠p:=cE X.co hl.1 (λz=>nomatch z)
 have Ap:aA≠p:=cE X.aG.1 hl.1 (λz=>nomatch z)
 obtain⟨ws',e1,e2⟩:=X.wait.drop (n:=n);refine⟨aw c p (some (i,.av)),ws',?_⟩;have s:Step (Wr i (FN n)) c (aw c p (some (i,.av))) H (upd (upd H aA (.dK (fA (a5 ((st.aG.map (·.1)).zip ws)) (ki (n:Int))))) o (.ins A.aB dx (chF (.int st.bN) (.int st.aQ) (.bl st.closed) (.ref aM) (.ref p) (.ref aA) (.ref aD) (.ref aF) (.ref aE) (.ref aR)))) :=
  ((Step.upd Wr.nn ⟨.aG,X.aG.1,rfl⟩).trans (Step.upd Wr.nn ⟨.ob,X.co,rfl⟩)).trans (Step.role Wr.nn ⟨.b7 n,hl.1,decide_eq_true rfl⟩)
 have k1:aw c p (some (i,.av)) o=some (i,.ob):=by rw[au op];exact X.co
 have hd:gh i (aw c p (some (i,.av))) (upd (upd H aA (.dK (fA (a5 ((st.aG.map (·.1)).zip ws)) (ki (n:Int))))) o (.ins A.aB dx (chF (.int st.bN) (.int st.aQ) (.bl st.closed) (.ref aM) (.ref p) (.ref aA) (.ref aD) (.ref aF) (.ref aE) (.ref aR)))) .aG aA (((st.aG.filter λx=>decide (x.1≠n)).map (·.1)).zip ws') :=
  ⟨by rw[au Ap];exact X.aG.1,by rw[ao oA.symm,ae,e1]⟩
 have hpl:LstAt i (aw c p (some (i,.av))) (upd (upd H aA (.dK (fA (a5 ((st.aG.map (·.1)).zip ws)) (ki (n:Int))))) o (.ins A.aB dx (chF (.int st.bN) (.int st.aQ) (.bl st.closed) (.ref aM) (.ref p) (.ref aA) (.ref aD) (.ref aF) (.ref aE) (.ref aR)))) .av p (pl.map nV) :=
  ⟨aS,by rw[ao op.symm,ao Ap.symm];exact hl.2⟩
 exact⟨s,k1,ae,X.made.kp rfl s,oq s X.mot,hpl,hd,hU (λx hx=>decide_eq_false (of_decide_eq_true (List.mem_filter.mp hx).2)) s e2,X.dec.kp rfl s,f7 s X.iy,X.firsts.kp rfl s,qc (λ_ _=>rfl) s X.first,X.hJ.kp rfl s,rZ (λ_ _=>rfl) s X.kept,X.rows.kp rfl s⟩
end
def uc (i:Nat)(c:Col)(H:Hp)(t:Addr)(xs:List V):Prop:=¬cz i (c t)/\H t=some (.tup xs)
def GS (i:Nat)(c:Col)(H:Hp)(t:Addr)(xs:List V):Prop:=¬cz i (c t)/\H t=some (.lst xs)
def lX (i:Nat)(c:Col)(H:Hp):R.cK->Addr->Prop
 | .mat cs,t=>∃L,uc i c H t [.str (ar "matter"),.ref L]/\GS i c H L ((cs.map (ky R.bl1)).map V.str)
 | .ed m k j ws,t=>∃e,uc i c H t [.str (R.kEd m),.ref e]/\TupAt c H e (R.edR k j (ky R.bl1 ws))
 | .pt ws,t=>uc i c H t [.str (ar "point"),.str (ky R.bl1 ws)]
 | .nums kd ns,t=>uc i c H t (.str kd::ns.map V.int)
section
variable{i:Nat}{c c':Col}{H H':Hp}{t:Addr}{xs:List V}
theorem uc.step (s:Step (cz i) c c' H H')(h:uc i c H t xs):uc i c' H' t xs:=⟨by rw[s.col t _ h.2 h.1];exact h.1,s.keep _ _ h.2 h.1⟩
theorem GS.step (s:Step (cz i) c c' H H')(h:GS i c H t xs):GS i c' H' t xs:=⟨by rw[s.col t _ h.2 h.1];exact h.1,s.keep _ _ h.2 h.1⟩
theorem lX.step (s:Step (cz i) c c' H H'):∀ {d:R.cK},lX i c H d t->lX i c' H' d t
 | .mat _,⟨L,a,b⟩=>⟨L,a.step s,b.step s⟩
 | .ed _ _ _ _,⟨e,a,b⟩=>⟨e,a.step s,b.step s⟩
 | .pt _,h=>uc.step s h
 | .nums _ _,h=>uc.step s h
theorem lX.at {K:bo}:∀ {d:R.cK},lX i c H d t->R.oh K H d t
 | .mat _,⟨L,a,b⟩=>⟨L,SqT.of a.2,SqL.of b.2⟩
 | .ed _ _ _ _,⟨e,a,b⟩=>⟨e,SqT.of a.2,b.sq⟩
 | .pt _,h=>SqT.of h.2
 | .nums _ _,h=>SqT.of h.2
end
theorem Bh {k:Nat}{j:Int}{x:Str}(h:k=0\/k=1\/k=2):R.edR k j x=dS ⟨k,j,x⟩:=by
 rcases h with rfl | rfl | rfl <;> rfl
theorem dG {t1 t2:TS}{D:Ends}{σ:St}{H:Hp}(J:St->Hp->Prop)(h2:∀σ' H',J σ' H'->t2 D σ' H')(h1:∀N:St->Hp->Prop,(∀σ' H',J σ' H'->N σ' H')->t1 { D with nx:=N } σ H):Hd t1 t2 D σ H:=h1 (t2 D) h2
def Ch.opened (st:Ch):Ch:={ st with closed:=if st.av=[] then false else st.closed }
def Ch.qS (st:Ch)(row:Str):Ch:={ st.opened with rows:=st.rows++[row] }
def Pr (A:Adr)(i:Nat):Sp:=λvs H Q _=>∃(o t:Addr) (c:Col) (st:Ch) (d:R.cK),vs=[.ref o,.ref t]/\cV A i c H o st/\lX i c H d t/\R.DOk d/\st.rows.length<=1000 /\
 ∀c' H',Step (cz i) c c' H H'->cV A i c' H' o (st.qS (R.lQ d))->Q .non H'
def NN (A:Adr)(i:Nat):Sp:=λvs H Q _=>∃(o:Addr) (u:Int) (c:Col) (st:Ch) (n:Nat) (r:List Nat),vs=[.ref o,.int u]/\cV A i c H o st/\st.av=n::r/\n∉st.aG.map (·.1)/\st.aG.length<=1000 /\
 ∀c' H',Step (cz i) c c' H H'->cV A i c' H' o (st.jI n u)->Q .non H'
def Ch.Ju (st:Ch)(n:Nat)(tx:List Str)(e:Ed):Ch:={ st with made:=st.made.set (n - 1) (.mat (bC tx e)),kept:=nc n e st.kept }
def NO (A:Adr)(i:Nat):Sp:=λvs H Q _=>∃(o t:Addr) (c:Col) (st:Ch) (n:Nat) (r:List Nat) (tx:List Str) (e:Ed) (x:Nat×List Ed),vs=[.ref o,.ref t]/\cV A i c H o st/\st.av=n::r/\cy st n/\st.mo n=.mat tx/\tx.length<=1000/\st.made.length<=1000 /\
 TupAt c H t (dS e)/\m8 e/\d7 tx.length e=true/\at1 n st.kept=some x/\x.2.length<=1000/\(st.kept.map (·.1)).Nodup /\
 ∀c' H',Step (cz i) c c' H H'->cV A i c' H' o (st.Ju n tx e)->Q .non H'
def Ch.Jv (st:Ch)(n:Nat)(e:Ed)(ws:List Str):Ch:={ st with made:=st.made.set (n - 1) (.chg ⟨e.k,e.at_,ky R.bl1 ws⟩) }
def NP (A:Adr)(i:Nat):Sp:=λvs H Q _=>∃(o t:Addr) (c:Col) (st:Ch) (n:Nat) (r:List Nat) (e f:Ed),vs=[.ref o,.ref t]/\cV A i c H o st/\st.av=r++[n]/\cy st n/\st.mo n=.chg e/\e.k≠1/\m8 e/\(R.bb e.th).length<=1000/\st.made.length<=1000 /\
 TupAt c H t (dS f)/\m8 f/\d7 (R.bb e.th).length f=true/\((bC (R.bb e.th) f).map (·.length)).sum+(bC (R.bb e.th) f).length<=16777216 /\
 ∀c' H',Step (cz i) c c' H H'->cV A i c' H' o (st.Jv n e (bC (R.bb e.th) f))->Q .non H'
theorem ChX.Lg {A:Adr}{i:Nat}{c:Col}{H:Hp}{o dx aM aP aA aD aF aE aR:Addr}{st:Ch}{ms ds:List Addr}{ws fs es:List V}(X:ChX A i c H o st dx aM aP aA aD aF aE aR ms ds ws fs es){n:Nat}(hn:cy st n) :
  ∃x,et (a5 ((Sk 1 st.made.length).zip (ms.map V.ref))) (ki (n:Int))=some (.ref x)/\jy A c H (st.mo n) x:=by
 have ml:=X.mot.len;have hlt:n - 1 < st.made.length:=by have:=hn.1;have:=hn.2;omega
 obtain⟨x,e1,e2⟩:=X.mot.get (tu hlt);have hv:=xW ms 1 (n - 1) e1;rw[<-ml,show 1+(n - 1)=n by have:=hn.1;omega]at hv
 have e3:st.mo n=st.made[n - 1]:=by unfold Ch.mo;rw[RY,tu hlt];rfl
 exact⟨x,hv,by rw[e3];exact e2⟩
section
variable{P:kr}{w:World}{K:bo}{mg:Str->Option Value}{base:Heap}{A:Adr}
theorem m5 (T:Txt w.params K mg A){i:Nat}:aX P w K mg base CX0 5 A.dE A.dh ["self","deed"] (Pr A i):=by
 have hX:aX P w K mg base CX0 4 A.iV A.eu ["deed"] (R.tY K):=R.mI T;refine T.mE.ok kW (λvs H Q E h=>?_) (λcdv A' outer s H vs Q E hr h=>?_)
 ·obtain⟨o,t,c,st,d,rfl,_⟩:=h;rfl
 ·obtain⟨o,t,c,st,d,rfl,hc,hd,hk,hl,q⟩:=h;refine⟨_,(ah (a4 (qh (ni (a9 (pv 0) rfl) (λ_=>rfl)))
 (ai (cZ (pv 0) gb rfl))
 aJ)
 (ai (bh (bW fu ko kq bu (a9 (pv 0) rfl) (aa (aU hX hr rfl T.nZ T.jP.kp T.n5 .nil aV (aa (pv 1) af)) af))))),?_⟩
  try dsimp only[bt]
  have lim:fe=16777216:=by decide
  refine dG (λσ' H'=>σ'=[some (.ref o),some (.ref t)]/\Step (cz i) c c H H'/\cV A i c H' o st.opened) ?r (λN nN=>?f)
  case f =>
   refine aL λGq gq=>?_
   obtain⟨dx,aM,aP,aA,aD,aF,aE,aR,ms,ds,ws,fs,es,X⟩:=hc.ex;refine gq ?_;refine cU rfl X.ob T.aq T.bg dq ?_;refine⟨_,.inl ⟨_,.inl (.inl X.av.2),rfl⟩,?_⟩;cases e:st.av with
   |nil =>
    refine cC ⟨_,rfl,o,A.aB,dx,_,rfl,X.ob,T.aq,T.bM,(by show 10 < 1000;decide),?_⟩
    rw[xV];obtain⟨s1,X1⟩:=X.attr st.aQ false;refine nN _ _ ⟨rfl,s1.eT,?_⟩;have e1:st.opened={ st with aQ:=st.aQ,closed:=false }:=by unfold Ch.opened;rw[e,if_pos rfl]
    rw[e1];exact X1.at
   |cons x r =>
    refine bK (nN _ _ ⟨rfl,Step.refl aT,?_⟩);have e1:st.opened=st:=by unfold Ch.opened;rw[e,if_neg (Sd _ _)];cases st;cases e;rfl
    rw[e1];exact hc
  case r =>
   rintro σ' H1 ⟨rfl,s1,hc1⟩;refine aL λGq gq=>?_
   obtain⟨dx,aM,aP,aA,aD,aF,aE,aR,ms,ds,ws,fs,es,X⟩:=hc1.ex;refine gq ?_;refine cU rfl X.ob T.aq T.cH ou ?_;refine⟨.inl ⟨rfl,_,SqL.of X.rows.2⟩,_,rfl,t,d,rfl,(hd.step s1).at,hk,λH2 s2=>?_⟩
   have X2:=X.same s2;obtain⟨s3,X3⟩:=X2.row (R.lQ d);refine⟨aR,_,_,rfl,rfl,X2.rows.2,by rw[ba];show st.rows.length < _;omega,?_⟩
   exact q c _ ((s1.trans (Step.same aT s2)).trans s3.eT) X3.at
theorem r8 (T:Txt w.params K mg A){i:Nat}:aX P w K mg base CX0 1 A.eN A.d6 ["self","until"] (NN A i):=by
 refine T.pJ.ok nH (λvs H Q E h=>?_) (λcdv A' outer s H vs Q E hr h=>?_)
 ·obtain⟨o,u,c,st,n,r,rfl,_⟩:=h;rfl
 ·obtain⟨o,u,c,st,n,r,rfl,hc,hp,hn,hl,q⟩:=h;obtain⟨dx,aM,aP,aA,aD,aF,aE,aR,ms,ds,ws,fs,es,X⟩:=hc.ex;have hu1:=hr.u1;have lim:fe=16777216:=by decide
  refine⟨_,(ah (eX hu1 (a9 (pv 0) rfl) (aH a7 (a9 (pv 0) rfl) ag (λ_ _=>rfl)) (a8 (aa (pv 1) (aa (a9 (pv 0) rfl) af))) rfl)
 (ai (cZ (pv 0) (bq af) rfl))),?_⟩
  try dsimp only[bt]
  refine⟨_,rfl,cU rfl X.ob T.aq T.bg dq ⟨(sl 2),λt ht=>?_⟩⟩
  have s1:=ax (o:=.tup [V.int u,.ref aP]) ht;refine cU rfl (s1 _ _ X.ob) T.aq T.bT gH ?_;have h0:atI (st.av.map nV) 0=some (nV n):=by rw[hp];exact cq (j:=0) rfl
  refine cU rfl (s1 _ _ X.ob) T.aq T.bg dq ⟨aP,_,_,_,rfl,rfl,SqL.of (s1 _ _ X.av.2),h0,?_⟩;refine⟨aA,_,rfl,kQ.k (k:=ki (n:Int)) (s1 _ _ X.aG.2) ?_,?_⟩
  ·unfold a5;rw[ba,Tn,ba];omega
  have oA:o≠aA:=cE X.co X.aG.1 (λz=>nomatch z)
  refine⟨(sl 0),λp hp0=>?_⟩
  have npA:p≠aA:=λz=>by rw[z,ae]at hp0;cases hp0
  have npt:p≠t:=λz=>by rw[ao npA,z,ae]at hp0;cases hp0
  have hp1:H p=none:=by rw[ao npA,ao npt]at hp0;exact hp0
  have hob:(upd (upd (upd H t (.tup [V.int u,.ref aP])) aA (.dK (putK (a5 ((st.aG.map (·.1)).zip ws)) (ki (n:Int)) (.ref t)))) p (.lst [])) o=some (.ins A.aB dx (chF (.int st.bN) (.int st.aQ) (.bl st.closed) (.ref aM) (.ref aP) (.ref aA) (.ref aD) (.ref aF) (.ref aE) (.ref aR))):=by
   rw[ao (az X.ob hp1),ao oA];exact s1 _ _ X.ob
  refine⟨_,rfl,o,A.aB,dx,_,rfl,hob,T.aq,T.bg,(by show 10 < 1000;decide),?_⟩
  rw[CN];refine aL λGq gq=>?_
  obtain⟨c',s2,X2⟩:=X.jI (u:=u) ht hp1 npt hn;refine gq ?_;exact q c' _ s2.eT X2.at
theorem ud (T:Txt w.params K mg A){i:Nat}:aX P w K mg base CX0 4 A.dj A.cQ ["self","edit"] (NO A i):=by
 refine T.lE.ok eS (λvs H Q E h=>?_) (λcdv A' outer s H vs Q E hr h=>?_)
 ·obtain⟨o,t,c,st,n,r,tx,e,x,rfl,_⟩:=h;rfl
 ·obtain⟨o,t,c,st,n,r,tx,e,x,rfl,hc,hp,hn,hm,htx,hml,ht,he,hf,hx,hxl,hnd,q⟩:=h;obtain⟨dx,aM,aP,aA,aD,aF,aE,aR,ms,ds,ws,fs,es,X⟩:=hc.ex;have hu1:=hr.u1;have lim:fe=16777216:=by decide
  refine⟨_,(ah (aZ (i:=2) eS.nd rfl (ma rfl) (aH a7 (a9 (pv 0) rfl) ag (λ_ _=>rfl)))
 (ah (eX hu1 (a9 (pv 0) rfl) (pv 2) (dP T.xt (xS T) (hr.mono (by decide)) rfl T.xq T.ND .nil aV (aa (aU (Fy T) hr rfl T.IK T.Ef.kp T.IL .nil DN (aa (a9 (aY hu1 (a9 (pv 0) rfl) (pv 2) (λ_ _=>rfl)) rfl) (aa (pv 1) af))) af)) rfl)
 (ai (bh (bW fu ko kq bu (aY hu1 (a9 (pv 0) rfl) (pv 2) (λ_ _=>rfl)) (aa (pv 1) af)))))),?_⟩
  try dsimp only[bt]
  refine aL λGq gq=>?_
  have h0:atI (st.av.map nV) 0=some (nV n):=by rw[hp];exact cq (j:=0) rfl
  obtain⟨m,hv,hmo⟩:=X.Lg hn;rw[hm]at hmo;obtain⟨_,dm,v,NQ,L,rfl,hL⟩:=hmo;refine gq ?_;refine cU rfl X.ob T.aq T.bg dq ⟨aP,_,_,_,rfl,rfl,SqL.of X.av.2,h0,?_⟩;refine⟨_,rfl,o,A.aB,dx,_,.ref aM,rfl,X.ob,T.aq,T.bE,eU,_,rfl,aM,_,rfl,.inl ⟨_,ki (n:Int),.inl X.made.2,rfl,hv.symm⟩,?_⟩;refine⟨m,A.C 0,dm,_,.ref L,rfl,NQ,T.cl 0 (by decide),T.na0,rfl,_,rfl,?_⟩
  refine⟨L,t,tx,e,rfl,SqL.of hL.2,htx,ht.sq,he,λ_ p hp0=>?_,λz=>by rw[hf]at z;cases z⟩
  refineλy dy hy hdy ndy=>?_
  refine⟨y,dy,p,(bC tx e).map V.str,rfl,ae,?_,λp2 hp2=>⟨rfl,?_⟩⟩
  ·exact(((ax hdy).new ((ao (R4 ndy)).trans hy)).seq (SqL.of ae))
  have hy0:H y=none:=by
   by_cases z:y=p
   ·rw[z,ae]at hy;cases hy
   ·rw[ao z]at hy;exact hy
  have Ru:H dy=none:=by
   by_cases z:dy=p
   ·rw[z,ae]at hdy;cases hdy
   ·rw[ao z]at hdy;exact hdy
  have sm0:bc H (upd (upd (upd H p (.lst ((bC tx e).map V.str))) dy (.own y)) y (.ins (A.C 0) dy [])):=((ax hp0).own Ru).own hy0;have Pt:H p2=none:=by
   cases z:H p2 with
   |none=>rfl
   |some v=>rw[sm0 _ _ z]at hp2;cases hp2
  have sm:bc H (upd (upd (upd (upd (upd H p (.lst ((bC tx e).map V.str))) dy (.own y)) y (.ins (A.C 0) dy [])) p2 (.lst ((bC tx e).map V.str))) y (.ins (A.C 0) dy (lP 0 (.ref p2)))):=(sm0.own Pt).own hy0;have nyp:y≠p2:=λz=>by rw[<-z,ae]at hp2;cases hp2
  have X1:=X.cl sm;have hmn:jy A (bz c H) (upd (upd (upd (upd (upd H p (.lst ((bC tx e).map V.str))) dy (.own y)) y (.ins (A.C 0) dy [])) p2 (.lst ((bC tx e).map V.str))) y (.ins (A.C 0) dy (lP 0 (.ref p2)))) (.mat (bC tx e)) y :=
   ⟨bx hy0,dy,.ref p2,ae,p2,rfl,bx Pt,(ao (R4 nyp)).trans ae⟩
  have st1:Step (cz i) c (bz c H) H _:=Step.cl aT sm;have ht1:=ht.step st1;generalize upd (upd (upd (upd (upd H p (.lst ((bC tx e).map V.str))) dy (.own y)) y (.ins (A.C 0) dy [])) p2 (.lst ((bC tx e).map V.str))) y (.ins (A.C 0) dy (lP 0 (.ref p2)))=H1 at X1 hmn st1 ht1 ⊢;generalize bz c H=c1 at X1 hmn st1 ht1;refine cU rfl X1.ob T.aq T.bE eU ⟨_,rfl,aM,_,rfl,kQ.k (k:=ki (n:Int)) X1.made.2 ?_,?_⟩
  ·unfold a5;rw[ba,Tn,SV];omega
  obtain⟨s2,X2⟩:=X1.FO hn hmn;have ht2:=ht1.step s2.eT;generalize upd H1 aM (.dK (putK (a5 ((Sk 1 st.made.length).zip (ms.map V.ref))) (ki (n:Int)) (.ref y)))=H2 at s2 X2 ht2 ⊢;refine aL λGq gq=>?_
  obtain⟨pk,ts,hv2,hl2,tl⟩:=X2.dN hx;refine gq ?_;refine⟨_,rfl,o,A.aB,dx,_,.ref aE,rfl,X2.ob,T.aq,T.dJ,ot,_,rfl,aE,_,rfl,.inl ⟨_,ki (n:Int),.inl X2.hJ.2,rfl,hv2.symm⟩,?_⟩;refine⟨.inl ⟨rfl,_,SqL.of hl2.2⟩,_,rfl,pk,_,_,rfl,rfl,hl2.2,by rw[ba];omega,?_⟩
  obtain⟨s3,X3⟩:=X2.Bg hv2 hl2 hnd ht2;exact q c1 _ ((st1.trans s2.eT).trans s3.eT) X3.at
theorem ue (T:Txt w.params K mg A){i:Nat}:aX P w K mg base CX0 4 A.dn A.cS ["self","edit"] (NP A i):=by
 have jw:aX P w K mg base CX0 1 A.words_of A.fE ["clause"] R.iY:=R.hG T;have oj:aX P w K mg base CX0 1 A.lj A.fM ["words"] (R.qN K):=R.rY T;refine T.lI.ok cc (λvs H Q E h=>?_) (λcdv A' outer s H vs Q E hr h=>?_)
 ·obtain⟨o,t,c,st,n,r,e,f,rfl,_⟩:=h;rfl
 ·obtain⟨o,t,c,st,n,r,e,f,rfl,hc,hp,hn,hm,hk1,heo,hwl,hml,ht,hfo,hf,hsz,q⟩:=h;obtain⟨dx,aM,aP,aA,aD,aF,aE,aR,ms,ds,ws,fs,es,X⟩:=hc.ex;have hu1:=hr.u1;have lim:fe=16777216:=by decide
  refine⟨_,(ah (aZ (i:=2) cc.nd rfl (ma rfl) (aH a7 (a9 (pv 0) rfl) (kM gi ag) (λ_ _=>rfl)))
 (ah (aZ (i:=3) cc.nd rfl (ma rfl) (a9 (aY hu1 (a9 (pv 0) rfl) (pv 2) (λ_ _=>rfl)) rfl))
 (ah (aZ (i:=4) cc.nd rfl (ma rfl) (aU (Fy T) hr rfl T.IK T.Ef.kp T.IL .nil DN (aa (aU jw (hr.mono (by decide)) rfl T.jm T.gD.kp T.jn .nil aV (aa (aH aK (pv 3) ag (λ_ _=>rfl)) af)) (aa (pv 1) af))))
 (ai (eX hu1 (a9 (pv 0) rfl) (pv 2) (dP T.xu (jv T) (hr.mono (by decide)) rfl T.xr T.NF .nil aV (aa (a8 (aa (aH aK (pv 3) ag (λ_ _=>rfl)) (aa (aH aK (pv 3) ag (λ_ _=>rfl)) (aa (aU oj (hr.mono (by decide)) rfl T.uH T.nU.kp T.uI .nil aV (aa (pv 4) af)) af)))) af)) rfl))))),?_⟩
  try dsimp only[bt]
  refine aL λGq gq=>?_
  have h0:atI (st.av.map nV) (-1)=some (nV n):=by rw[hp,kg];exact fJ _ _
  obtain⟨m,hv,hmo⟩:=X.Lg hn;rw[hm]at hmo;obtain⟨_,dm,v,NQ,te,rfl,hte⟩:=hmo;refine gq ?_;refine⟨_,rfl,o,A.aB,dx,_,.ref aP,rfl,X.ob,T.aq,T.bg,dq,_,rfl,aP,_,_,_,rfl,rfl,SqL.of X.av.2,h0,?_⟩;refine⟨_,rfl,o,A.aB,dx,_,.ref aM,rfl,X.ob,T.aq,T.bE,eU,_,rfl,aM,_,rfl,.inl ⟨_,ki (n:Int),.inl X.made.2,rfl,hv.symm⟩,?_⟩;refine⟨m,A.C 1,dm,_,.ref te,rfl,NQ,T.cl 1 (by decide),T.na1,rfl,?_⟩
  have h2:=qK (e:=e) hk1;refine ixv rfl hte.sq h2 ⟨e.th,rfl,?_,λp1 hp1=>?_⟩
  ·have:=heo.th.len;omega
  have s1:=ax (o:=.lst ((R.bb e.th).map V.str)) hp1;refine⟨_,rfl,p1,t,R.bb e.th,f,rfl,SqL.of ae,hwl,bj s1 ht.sq,hfo,λ_ p2 hp2=>?_,λz=>by rw[hf]at z;cases z⟩
  have s2:=s1.new (o:=.lst ((bC (R.bb e.th) f).map V.str)) hp2;refine ixv rfl (bj s2 hte.sq) (kF e) (ixv rfl (bj s2 hte.sq) (qJ e) ⟨_,rfl,p2,_,rfl,SqL.of ae,hsz,(sl 3),λtn htn=>?_⟩)
  have s3:=s2.new (o:=.tup [V.str (kn e.k),.int e.at_,.str (ky R.bl1 (bC (R.bb e.th) f))]) htn;refineλy dy hy hdy ndy=>?_
  refine⟨y,dy,.ref tn,rfl,ae,rfl,?_⟩;have hno:∀ {a:Addr},(upd (upd (upd H p1 (.lst ((R.bb e.th).map V.str))) p2 (.lst ((bC (R.bb e.th) f).map V.str))) tn (.tup [V.str (kn e.k),.int e.at_,.str (ky R.bl1 (bC (R.bb e.th) f))])) a=none->H a=none:=by
   intro a ha;cases z:H a with
   |none=>rfl
   |some v=>rw[s3 _ _ z]at ha;cases ha
  have nyt:y≠tn:=λz=>by rw[z,ae]at hy;cases hy
  have ndt:dy≠tn:=λz=>by rw[z,ae]at hdy;cases hdy
  have Rv:H tn=none:=by
   cases z:H tn with
   |none=>rfl
   |some v=>rw[s2 _ _ z]at htn;cases htn
  have sm:=((s3.own (o:=.own y) (hno hdy)).own (o:=.ins (A.C 1) dy []) (hno hy)).own (o:=.ins (A.C 1) dy (lP 1 (.ref tn))) (hno hy);have X1:=X.cl sm;have er:dS ⟨e.k,e.at_,ky R.bl1 (bC (R.bb e.th) f)⟩=[V.str (kn e.k),.int e.at_,.str (ky R.bl1 (bC (R.bb e.th) f))]:=by
   obtain⟨k,a,th⟩:=e;have h3:=heo.k3;dsimp only at h3 hk1 ⊢;rcases h3 with rfl | rfl | rfl
   ·rfl
   ·exact absurd rfl hk1
   ·rfl
  have hmn:=(⟨bx (hno hy),dy,.ref tn,ae,tn,rfl,bx Rv,.inl (by rw[ao (R4 nyt),ao (R4 nyt),ao (R4 ndt),ae,er])⟩:jy A (bz c H) (upd (upd (upd (upd (upd (upd H p1 (.lst ((R.bb e.th).map V.str))) p2 (.lst ((bC (R.bb e.th) f).map V.str))) tn (.tup [V.str (kn e.k),.int e.at_,.str (ky R.bl1 (bC (R.bb e.th) f))])) dy (.own y)) y (.ins (A.C 1) dy [])) y (.ins (A.C 1) dy (lP 1 (.ref tn)))) (.chg ⟨e.k,e.at_,ky R.bl1 (bC (R.bb e.th) f)⟩) y)
  have st1:Step (cz i) c (bz c H) H _:=Step.cl aT sm;generalize upd (upd (upd (upd (upd (upd H p1 (.lst ((R.bb e.th).map V.str))) p2 (.lst ((bC (R.bb e.th) f).map V.str))) tn (.tup [V.str (kn e.k),.int e.at_,.str (ky R.bl1 (bC (R.bb e.th) f))])) dy (.own y)) y (.ins (A.C 1) dy [])) y (.ins (A.C 1) dy (lP 1 (.ref tn)))=H1 at X1 hmn st1 ⊢;generalize bz c H=c1 at X1 hmn st1;refine cU rfl X1.ob T.aq T.bE eU ⟨_,rfl,aM,_,rfl,kQ.k (k:=ki (n:Int)) X1.made.2 ?_,?_⟩
  ·unfold a5;rw[ba,Tn,SV];omega
  obtain⟨s4,X2⟩:=X1.FO hn hmn;exact q c1 _ (st1.trans s4.eT) X2.at
end
def uM (below:List Mn):Mn->Prop
 | .mat _=>below=[]
 | .chg e=>∃tx,below=[.mat tx]/\d7 tx.length e=true
 | .mnd f=>∃tx e,below=[.mat tx,.chg e]/\e.k≠1/\d7 (R.bb e.th).length f=true
 | .off _=>(∃tx r,below=.mat tx::r)/\∀b∈below,b.k < 3
 | .cls=>(∃tx r,below=.mat tx::r)/\∀b∈below,b.k < 4
 | .lay=>(∃tx r,below=.mat tx::r)/\∀b∈below,b.k < 5
 | .rst=>∀b∈below,b.k < 6
 | .pnt _=>∀b∈below,b.k < 7
inductive PMs:List Mn->Prop
 |nil:PMs []
 |snoc {ms:List Mn} {m:Mn}:PMs ms->uM ms m->PMs (ms++[m])
theorem PMs.pop {ms:List Mn}{m:Mn}(h:PMs (ms++[m])):PMs ms/\uM ms m:=by
 generalize e:ms++[m]=l at h;cases h with
 |nil=>simp at e
 |snoc h1 h2 =>
  obtain⟨e1,e2⟩:=List.append_inj' e rfl;cases e2;subst e1;exact⟨h1,h2⟩
theorem uM.lt {below:List Mn}:∀ {m:Mn},uM below m->∀b∈below,b.k < m.k
 | .mat _,h,b,hb=>by rw[h]at hb;cases hb
 | .chg _,⟨tx,h,_⟩,b,hb=>by
  rw[h,R3]at hb;rw[hb];show 0 < 1;decide
 | .mnd _,⟨tx,e,h,_,_⟩,b,hb=>by
  rw[h]at hb;rcases List.mem_cons.mp hb with rfl | hb
  ·show 0 < 2;decide
  ·rw[R3]at hb;rw[hb];show 1 < 2;decide
 | .off _,h,b,hb=>h.2 b hb
 | .cls,h,b,hb=>h.2 b hb
 | .lay,h,b,hb=>h.2 b hb
 | .rst,h,b,hb=>h b hb
 | .pnt _,h,b,hb=>h b hb
theorem PMs.le_top {ms:List Mn}(h:PMs ms):∀b∈ms,(b.k:Int)<=m9 ms:=by
 cases h with
 |nil=>intro b hb;cases hb
 |snoc h1 h2 =>
  intro b hb;rw[lV];rcases List.mem_append.mp hb with hb | hb
  ·have:=h2.lt b hb;omega
  ·rw[R3]at hb;rw[hb];exact Int.le_refl _
theorem PMs.EB {ms:List Mn}(h:PMs ms):pK ms=true->∃tx r,ms=.mat tx::r:=by
 induction h with
 |nil=>intro h;cases h
 | @snoc ms m h1 h2 ih =>
  intro h;unfold pK at h ih;rw[List.any_append,Bool.or_eq_true]at h;rcases h with h | h
  ·obtain⟨tx,r,e⟩:=ih h;exact⟨tx,r++[m],by rw[e];rfl⟩
  ·cases m with
   |mat tx =>
    have:ms=[]:=h2;rw[this];exact⟨tx,[],rfl⟩
   |_=>simp[Mn.k]at h
theorem PMs.len {ms:List Mn}(h:PMs ms):(ms.length:Int)<=m9 ms+1:=by
 induction h with
 |nil=>decide
 | @snoc ms m h1 h2 ih =>
  rw[lV,ka,R5];have:m9 ms < (m.k:Int):=by
   unfold m9;split
   ·omega
   ·rename_i b hb;have:=h2.lt b (List.mem_of_getLast? hb);omega
  omega
theorem PMs.yL {ms:List Mn}(h:PMs ms):ms.length<=8:=by
 have:=h.len;have:=Js ms;omega
theorem oy (cl:Bool)(ms:List Mn):m9 ms<=iR cl ms:=by
 unfold iR;split
 ·split <;> omega
 ·exact Int.le_refl _
theorem r9 {cl:Bool}{ms:List Mn}{k:Nat}(h:qQ cl ms k=none):m9 ms < (k:Int)/\jS ms k=true:=by
 have hb:=oy cl ms;unfold qQ at h;split at h
 ·cases h
 ·split at h
  ·exact⟨by omega,by assumption⟩
  ·split at h <;> cases h
theorem xZ {ms:List Mn}(h:m9 ms < 0):ms=[]:=by
 rcases R6 ms with e | ⟨r,b,e⟩
 ·exact e
 ·rw[e,R7,lV]at h;omega
def Pu (ms:List Mn):Mn->Prop
 | .chg e=>∀tx r,ms=.mat tx::r->d7 tx.length e=true
 | .mnd f=>∀r e,ms=r++[.chg e]->d7 (R.bb e.th).length f=true
 |_=>True
theorem lY {α:Type}{xs:List α}{x:α}(h:xs.getLast?=some x):∃r,xs=r++[x]:=by
 rcases R6 xs with e | ⟨r,b,e⟩
 ·rw[e]at h;cases h
 ·rw[R7]at e;rw[e,Sw]at h;cases h;exact⟨r,e⟩
theorem PMs.push {cl:Bool}{ms:List Mn}(h:PMs ms){m:Mn}(ho:qQ cl ms m.k=none)(hf:Pu ms m):PMs (ms++[m]):=by
 obtain⟨h1,h2⟩:=r9 ho;have lt:∀b∈ms,b.k < m.k:=λb hb=>by have:=h.le_top b hb;omega
 refine .snoc h ?_;cases m with
 |mat tx=>exact xZ h1
 |chg e =>
  obtain⟨tx,r,e1⟩:=h.EB h2;refine⟨tx,?_,hf tx r e1⟩;rcases R6 r with e2 | ⟨r',b,e2⟩
  ·rw[e1,e2]
  ·rw[R7]at e2;have hb:b.k < 1:=lt b (by rw[e1,e2];simp)
   rw[e1,e2,<-List.cons_append]at h;have ht:=h.pop.2;cases b with
   |mat ty=>exact absurd ht (Sd _ _)
   |_=>simp[Mn.k]at hb
 |mnd f =>
  have h3:dF ms=true:=h2;unfold dF at h3;split at h3
  ·rename_i e he;obtain⟨r,e1⟩:=lY he;rw[e1]at h;obtain⟨tx,e2,_⟩:=h.pop.2;refine⟨tx,e,by rw[e1,e2];rfl,?_,hf r e e1⟩
   intro z;rw[z]at h3;cases h3
  ·cases h3
 |off n=>exact⟨h.EB h2,lt⟩
 |cls=>exact⟨h.EB h2,lt⟩
 |lay=>exact⟨h.EB h2,lt⟩
 |rst=>exact lt
 |pnt z=>exact lt
theorem Bi {st:Ch}{n:Nat}{m:Mn}(hn:cy st n){st':Ch}(h:st'.made=st.made.set (n - 1) m):st'.mo n=m:=by
 unfold Ch.mo;have:=hn.1;have:=hn.2;rw[h,RY,List.getElem?_set_self (by omega)]
 rfl
theorem pz {st:Ch}{n k:Nat}{m:Mn}(hn:cy st n)(h1:1<=k)(ne:k≠n){st':Ch}(h:st'.made=st.made.set (n - 1) m):st'.mo k=st.mo k:=by
 unfold Ch.mo;have:=hn.1;rw[h,RY,List.getElem?_set_ne (by omega),<-RY]
theorem EC {st:Ch}{m:Mn}{st':Ch}(h:st'.made=st.made++[m]){k:Nat}(hk:cy st k):st'.mo k=st.mo k:=by
 unfold Ch.mo;have:=hk.1;have:=hk.2;rw[h,RY,List.getElem?_append_left (by omega),<-RY]
theorem ED {st:Ch}{m:Mn}{st':Ch}(h:st'.made=st.made++[m]):st'.mo (st.made.length+1)=m:=by
 unfold Ch.mo;rw[h,RY,Nat.add_sub_cancel,Tu (gn _),Nat.sub_self];rfl
def EdB (N:Nat)(e:Ed):Prop:=(e.k=0\/e.k=1\/e.k=2)/\-9999999999<=e.at_/\e.at_<=9999999999/\∃ws,e.th=ky R.bl1 ws/\(∀w∈ws,R.kH w)/\ws.length<=N
def MOk (N:Nat):Mn->Prop
 | .mat tx=>tx.length<=12+N/\∀x∈tx,Sg x=true
 | .chg e=>EdB (12+N) e
 | .mnd f=>EdB 1 f/\∃w,f.th=w/\R.kH w
 | .off u=>-10000000000 < u/\u < 10000000000
 | .pnt z=>Sg z=true
 |_=>True
theorem EdB.mono {N M:Nat}(h:N<=M){e:Ed}(z:EdB N e):EdB M e:=by
 obtain⟨a,b,c,ws,d,f,g⟩:=z;exact⟨a,b,c,ws,d,f,ku g h⟩
theorem MOk.mono {N M:Nat}(h:N<=M):∀ {m:Mn},MOk N m->MOk M m
 | .mat tx,z=>⟨ku z.1 (by omega),z.2⟩
 | .chg e,z=>EdB.mono (by omega) z
 | .mnd f,z=>z
 | .off u,z=>z
 | .cls,_=>trivial
 | .lay,_=>trivial
 | .rst,_=>trivial
 | .pnt _,z=>z
def Ch.all (st:Ch):List Nat:=st.av++(st.aG.flatMap (·.2.2)++st.decided.map (·.1))
def Ch.sf (st:Ch):List Nat:=(Sk 1 st.made.length).filter λn=>decide ((st.mo n).k=0)
structure Inv (N:Nat)(st:Ch):Prop where
 lm:3 * st.made.length<=N
 lr:st.rows.length<=N
 ld:st.decided.length<=N
 la:st.aG.length<=N
 lk:∀x∈st.kept,x.2.length<=N
 sit:1<=st.aQ/\st.aQ<=N+1
 mok:∀m∈st.made,MOk N m
 num:∀n∈st.all,cy st n
 nd:st.all.Nodup
 pil:PMs (st.av.map st.mo)
 asd:∀x∈st.aG,PMs (x.2.2.map st.mo)/\(∃r,x.2.2=x.1::r)/\-10000000000 < x.2.1/\x.2.1 < 10000000000
 kk:st.kept.map (·.1)=st.sf
 ff:st.firsts.map (·.1)=st.sf
 dw:∀x∈st.decided,Sg x.2=true
theorem Inv.mono {N M:Nat}(h:N<=M){st:Ch}(I:Inv N st):Inv M st where
 lm:=ku I.lm h
 lr:=ku I.lr h
 ld:=ku I.ld h
 la:=ku I.la h
 lk:=λx hx=>ku (I.lk x hx) h
 sit:=⟨I.sit.1,by have:=I.sit.2;omega⟩
 mok:=λm hm=>(I.mok m hm).mono h
 num:=I.num
 nd:=I.nd
 pil:=I.pil
 asd:=I.asd
 kk:=I.kk
 ff:=I.ff
 dw:=I.dw
theorem Inv.sj {N:Nat}{st:Ch}(I:Inv N st){n:Nat}(hn:cy st n):MOk N (st.mo n):=by
 have:=hn.1;have:=hn.2;have hlt:n - 1 < st.made.length:=by omega
 have e:st.mo n=st.made[n - 1]:=by unfold Ch.mo;rw[RY,tu hlt];rfl
 rw[e];exact I.mok _ (List.getElem_mem hlt)
theorem Inv.bG {N:Nat}{st:Ch}(I:Inv N st):∀n∈st.av,cy st n:=λn hn=>I.num n (Su _ hn)
theorem Inv.oz {N:Nat}{st:Ch}(I:Inv N st){x:Nat×Int×List Nat}(hx:x∈st.aG):∀n∈x.2.2,cy st n:=λn hn =>
 I.num n (de _ (Su _ (List.mem_flatMap.mpr ⟨x,hx,hn⟩)))
theorem Inv.FP {N:Nat}{st:Ch}(I:Inv N st){n:Nat}(hn:n∈st.av){x:Nat×Int×List Nat}(hx:x∈st.aG):n∉x.2.2:=λz =>
 (List.nodup_append.mp I.nd).2.2 n hn n (Su _ (List.mem_flatMap.mpr ⟨x,hx,z⟩)) rfl
theorem Inv.Bj {N:Nat}{st:Ch}(I:Inv N st){n:Nat}(hn:n∈st.av):n∉st.aG.map (·.1):=λz=>by
 obtain⟨x,hx,e⟩:=List.mem_map.mp z;obtain⟨r,er⟩:=(I.asd x hx).2.1;exact I.FP hn hx (by rw[er,e];exact eg)
theorem Lh {st st':Ch}(hl:st'.made.length=st.made.length)(hk:∀n,cy st n->(st'.mo n).k=(st.mo n).k):st'.sf=st.sf:=by
 unfold Ch.sf;rw[hl];refine List.filter_congr λn hn=>?_
 rw[Tg]at hn;rw[hk n ⟨hn.1,by omega⟩]
theorem EE (st:Ch):st.sf.Nodup:=List.filter_sublist.nodup List.nodup_range'
theorem Inv.keptAt {N:Nat}{st:Ch}(I:Inv N st){n:Nat}(hn:cy st n)(hk:(st.mo n).k=0):∃x,at1 n st.kept=some x/\x.2.length<=N:=by
 cases e:at1 n st.kept with
 |some x=>exact⟨x,rfl,I.lk x (eZ e).2⟩
 |none =>
  have h:=ox e;rw[I.kk]at h;have hr:n∈Sk 1 st.made.length:=by
   rw[Tg];have:=hn.1;have:=hn.2;omega
  exact absurd (show n∈st.sf from List.mem_filter.mpr ⟨hr,by exact decide_eq_true hk⟩) h
def Ch.popped (st:Ch)(pre:List Nat)(n:Nat)(wd:Str):Ch:={ st with av:=pre,decided:=st.decided++[(n,wd)] }
theorem Inv.pop {N:Nat}{st:Ch}(I:Inv N st){pre:List Nat}{n:Nat}(e:st.av=pre++[n])(wd:Str)(hw:Sg wd=true):Inv (N+1) (st.popped pre n wd)/\uM (pre.map st.mo) (st.mo n):=by
 have hp:=I.pil;rw[e,kg]at hp;obtain⟨p1,p2⟩:=PMs.pop hp;have perm:Tx (st.popped pre n wd).all st.all:=by
  unfold Ch.all Ch.popped;rw[e,kg];have:Tx (st.aG.flatMap (·.2.2)++(st.decided.map (·.1)++[(n,wd)].map (·.1))) ([n]++(st.aG.flatMap (·.2.2)++st.decided.map (·.1))):=by
   rw[<-Th];exact List.perm_append_comm
  exact(List.Perm.append_left pre this).trans (by rw[Th])
 refine⟨⟨R9 I.lm,R9 I.lr,?_,R9 I.la,λx hx=>R9 (I.lk x hx),⟨I.sit.1,by have:=I.sit.2;show st.aQ<=_;omega⟩,λm hm=>(I.mok m hm).mono (by omega),λk hk=>I.num k (perm.mem_iff.mp hk),perm.nodup_iff.mpr I.nd,p1,I.asd,I.kk,I.ff,?_⟩,p2⟩
 ·show (st.decided++[(n,wd)]).length<=_;rw[ka,R5];have:=I.ld;omega
 ·intro x hx;rcases List.mem_append.mp hx with h | h
  ·exact I.dw x h
  ·rw[R3]at h;rw[h];exact hw
theorem Inv.qS {N:Nat}{st:Ch}(I:Inv N st)(z:Str):Inv (N+1) (st.qS z):=by
 refine⟨R9 I.lm,?_,R9 I.ld,R9 I.la,λx hx=>R9 (I.lk x hx),⟨I.sit.1,by have:=I.sit.2;show st.aQ<=_;omega⟩,λm hm=>(I.mok m hm).mono (by omega),I.num,I.nd,I.pil,I.asd,I.kk,I.ff,I.dw⟩
 show (st.rows++[z]).length<=_;rw[ka,R5];have:=I.lr;omega
theorem Inv.Mg {N:Nat}{st:Ch}(I:Inv N st){n:Nat}{m:Mn}(hn:n∈st.av)(hk:m.k=(st.mo n).k)(hm:MOk (N+1) m){kp:List (Nat×List Ed)}(ek:kp.map (·.1)=st.kept.map (·.1))(lk:∀x∈kp,x.2.length<=N+1)
  (hp:PMs (st.av.map (Ch.mo { st with made:=st.made.set (n - 1) m,kept:=kp }))):Inv (N+1) { st with made:=st.made.set (n - 1) m,kept:=kp }:=by
 have hno:=I.bG n hn;have kinds:∀k,cy st k->(Ch.mo { st with made:=st.made.set (n - 1) m,kept:=kp } k).k=(st.mo k).k:=λk h=>by
  by_cases z:k=n
  ·subst z;rw[Bi hno rfl,hk]
  ·rw[pz hno h.1 z rfl]
 have em:Ch.sf { st with made:=st.made.set (n - 1) m,kept:=kp }=st.sf:=Lh (by show (st.made.set (n - 1) m).length=_;rw[S8]) kinds
 refine⟨?_,R9 I.lr,R9 I.ld,R9 I.la,lk,⟨I.sit.1,by have:=I.sit.2;show st.aQ<=_;omega⟩,?_,?_,I.nd,hp,?_,by rw[em,<-I.kk];exact ek,by rw[em];exact I.ff,I.dw⟩
 ·show 3 * (st.made.set (n - 1) m).length<=_;rw[S8];have:=I.lm;omega
 ·intro x hx;rcases List.mem_or_eq_of_mem_set hx with h | h
  ·exact(I.mok x h).mono (by omega)
  ·rw[h];exact hm
 ·intro k hk;have:=I.num k hk;exact⟨this.1,by show k<=(st.made.set (n - 1) m).length;rw[S8];exact this.2⟩
 ·intro x hx;obtain⟨h1,h2⟩:=I.asd x hx;refine⟨?_,h2⟩;have:x.2.2.map (Ch.mo { st with made:=st.made.set (n - 1) m,kept:=kp })=x.2.2.map st.mo:=S5 λk hk =>
   pz hno (I.oz hx k hk).1 (λz=>I.FP hn hx (by rw[<-z];exact hk)) rfl
  rw[this];exact h1
theorem Inv.jI {N:Nat}{st:Ch}(I:Inv N st){n:Nat}{r:List Nat}(e:st.av=n::r){u:Int}(h0:-10000000000 < u)(h1:u < 10000000000):Inv (N+1) (st.jI n u):=by
 have perm:Tx (st.jI n u).all st.all:=by
  unfold Ch.all Ch.jI;rw[List.flatMap_append,List.nil_append];show Tx ((st.aG.flatMap (·.2.2)++[(n,u,st.av)].flatMap (·.2.2))++st.decided.map (·.1)) _
  rw[show [(n,u,st.av)].flatMap (·.2.2)=st.av by simp,<-Th]
  exact List.Perm.append_right _ List.perm_append_comm
 refine⟨R9 I.lm,R9 I.lr,R9 I.ld,?_,λx hx=>R9 (I.lk x hx),⟨I.sit.1,by have:=I.sit.2;show st.aQ<=_;omega⟩,λm hm=>(I.mok m hm).mono (by omega),λk hk=>I.num k (perm.mem_iff.mp hk),perm.nodup_iff.mpr I.nd,.nil,?_,I.kk,I.ff,I.dw⟩
 ·show (st.aG++[(n,u,st.av)]).length<=_;rw[ka,R5];have:=I.la;omega
 ·intro x hx;rcases List.mem_append.mp hx with hx | hx
  ·exact I.asd x hx
  ·rw[R3]at hx;subst hx;exact⟨I.pil,⟨r,e⟩,h0,h1⟩
def Ch.carry (st:Ch):Mn->Ch
 | .chg e=>match st.av with
  |n::_=>(match st.mo n with
   | .mat tx=>st.Ju n tx e
   |_=>st)
  |[]=>st
 | .mnd f=>match st.av.getLast? with
  |some n=>(match st.mo n with
   | .chg e=>st.Jv n e (bC (R.bb e.th) f)
   |_=>st)
  |none=>st
 | .off u=>match st.av with
  |n::_=>st.jI n u
  |[]=>st
 | .cls=>{ st with closed:=true }
 | .lay=>match st.av with
  |n::_=>st.jI n st.aQ
  |[]=>st
 | .rst=>{ st with aQ:=st.aQ+1 }
 |_=>st
theorem pA (xs:List Str)(e:Ed):(bC xs e).length<=xs.length+1:=by
 unfold bC;split
 ·rw[ka,rf,Sj,To];omega
 ·exact R9 (List.length_eraseIdx_le _ _)
 ·rw[S8];omega
theorem zR {xs:List Str}{e:Ed}{x:Str}(h:x∈bC xs e):x∈xs\/x=e.th:=by
 unfold bC at h;split at h
 ·rcases List.mem_append.mp h with h | h
  ·exact .inl (List.mem_of_mem_take h)
  ·rcases List.mem_cons.mp h with h | h
   ·exact .inr h
   ·exact .inl (List.mem_of_mem_drop h)
 ·exact .inl (List.mem_of_mem_eraseIdx h)
 ·exact List.mem_or_eq_of_mem_set h
theorem Li {α β:Type}{f:α->β}{xs:List α}{y:β}(h:xs.map f=[y]):∃a,xs=[a]/\f a=y:=by
 cases xs with
 |nil=>cases h
 |cons a r =>
  cases r with
  |nil=>exact⟨a,rfl,by simpa using h⟩
  |cons b r=>simp at h
theorem NR {α β:Type}{f:α->β}{xs:List α}{y z:β}(h:xs.map f=[y,z]):∃a b,xs=[a,b]/\f a=y/\f b=z:=by
 cases xs with
 |nil=>cases h
 |cons a r =>
  rw[gr]at h;obtain⟨b,rfl,e⟩:=Li (List.cons.inj h).2;exact⟨a,b,rfl,(List.cons.inj h).1,e⟩
theorem GU {α β:Type}{f:α->β}{xs:List α}{y:β}{r:List β}(h:xs.map f=y::r):∃a s,xs=a::s/\f a=y:=by
 cases xs with
 |nil=>cases h
 |cons a s=>exact⟨a,s,rfl,(List.cons.inj h).1⟩
theorem EdB.ok {N:Nat}{e:Ed}(h:EdB N e)(hN:N<=4000):m8 e:=by
 obtain⟨a,b,c,ws,d,f,g⟩:=h;refine⟨a,b,c,?_,?_⟩
 ·rw[d];exact js (λx hx=>by
   rw[show (R.bl1:Str).cps.toList=[32] by trivial,R3]at hx
   omega) ws λw hw=>λx hx=>by have:=(f w hw).sgn x hx;unfold R.Sign at this;omega
 ·rw[d,R.kG];have h1:=oV 32 ws;have h2:=R.zL f;omega
theorem EdB.str {N:Nat}{e:Ed}(h:EdB N e):Sg e.th=true:=by
 obtain⟨a,b,c,ws,d,f,g⟩:=h;rw[d];exact(js (λx hx=>by
  rw[show (R.bl1:Str).cps.toList=[32] by trivial,R3]at hx
  omega) ws λw hw=>λx hx=>by have:=(f w hw).sgn x hx;unfold R.Sign at this;omega).ok
theorem EdB.words {N:Nat}{e:Ed}(h:EdB N e):(∀w∈R.bb e.th,R.kH w)/\(R.bb e.th).length<=N:=by
 obtain⟨a,b,c,ws,d,f,g⟩:=h;rw[d,R.cJ f];exact⟨f,g⟩
theorem qT {ws:List Str}{f:Ed}(h:∀w∈ws,R.kH w)(hf:R.kH f.th):∀w∈bC ws f,R.kH w:=λw hw=>by
 rcases zR hw with h1 | h1
 ·exact h w h1
 ·rw[h1];exact hf
theorem GV (n:Nat)(e:Ed)(xs:List (Nat×List Ed)):(nc n e xs).map (·.1)=xs.map (·.1):=by
 unfold nc;rw[TC];refine S5 λx _=>?_
 show (if x.1=n then (x.1,x.2++[e]) else x).1=x.1
 split <;> rfl
theorem Jw {n N:Nat}{e:Ed}{xs:List (Nat×List Ed)}(h:∀x∈xs,x.2.length<=N):∀x∈nc n e xs,x.2.length<=N+1:=by
 intro x hx;obtain⟨y,hy,rfl⟩:=List.mem_map.mp hx;have:=h y hy;split
 ·show (y.2++[e]).length<=_;rw[ka,R5];omega
 ·omega
theorem Inv.carry {N:Nat}{st:Ch}(I:Inv N st)(hN:N<=900){m:Mn}(ht:uM (st.av.map st.mo) m)(hm:MOk N m):Inv (N+1) (st.carry m):=by
 have J:=I.mono (SG N);cases m with
 |mat tx=>exact J
 |pnt z=>exact J
 |chg e =>
  obtain⟨tx,h1,hf⟩:=ht;obtain⟨k,e1,e2⟩:=Li h1;have hn:k∈st.av:=by rw[e1];exact eg
  have htx:=I.sj (I.bG k hn);rw[e2]at htx;have e3:st.carry (.chg e)=st.Ju k tx e:=by unfold Ch.carry;rw[e1];dsimp only;rw[e2]
  rw[e3];refine I.Mg hn (by rw[e2];rfl) ?_ (GV k e st.kept) (Jw I.lk) ?_
  ·have:=pA tx e;have h3:tx.length<=12+N:=htx.1;refine⟨by omega,λx hx=>?_⟩
   rcases zR hx with h | h
   ·exact htx.2 x h
   ·rw[h];exact EdB.str hm
  ·rw[e1,gr,Sq,Bi (I.bG k hn) rfl];exact PMs.snoc (ms:=[]) .nil rfl
 |mnd f =>
  obtain⟨tx,e,h1,hk,hf⟩:=ht;obtain⟨a,b,e1,e2,e3⟩:=NR h1;have ha:a∈st.av:=by rw[e1];exact eg
  have hb:b∈st.av:=by rw[e1];exact km _ eg
  have he:=I.sj (I.bG b hb);rw[e3]at he;have he':EdB (12+N) e:=he;obtain⟨w1,w2⟩:=he'.words;have e4:st.carry (.mnd f)=st.Jv b e (bC (R.bb e.th) f):=by unfold Ch.carry;rw[e1];show (match st.mo b with | .chg e=>_ | _=>st)=_;rw[e3];rfl
  rw[e4];obtain⟨_,w,hw,hw2⟩:=hm;refine I.Mg (kp:=st.kept) hb (by rw[e3];rfl) ?_ rfl (λx hx=>R9 (I.lk x hx)) ?_
  ·refine⟨he'.1,he'.2.1,he'.2.2.1,_,rfl,qT w1 (by rw[hw];exact hw2),?_⟩
   have:=pA (R.bb e.th) f;omega
  ·have ne:a≠b:=λz=>by rw[z,e3]at e2;cases e2
   have hp:=I.pil;rw[h1]at hp;obtain⟨tx',e5,e6⟩:=(PMs.pop (ms:=[.mat tx]) hp).2;cases e5;rw[e1,gr,gr,Sq,Bi (I.bG b hb) rfl,pz (I.bG b hb) (I.bG a ha).1 ne rfl,e2];exact PMs.snoc (ms:=[.mat tx]) (PMs.snoc (ms:=[]) .nil rfl) ⟨tx,rfl,e6⟩
 |off u =>
  obtain⟨⟨tx,r,h1⟩,_⟩:=ht;obtain⟨k,s,e1,_⟩:=GU h1;have e3:st.carry (.off u)=st.jI k u:=by unfold Ch.carry;rw[e1]
  rw[e3];exact I.jI e1 hm.1 hm.2
 |lay =>
  obtain⟨⟨tx,r,h1⟩,_⟩:=ht;obtain⟨k,s,e1,_⟩:=GU h1;have e3:st.carry .lay=st.jI k st.aQ:=by unfold Ch.carry;rw[e1]
  rw[e3];have:=I.sit;exact I.jI e1 (by omega) (by omega)
 |cls=>exact⟨J.lm,J.lr,J.ld,J.la,J.lk,J.sit,J.mok,J.num,J.nd,J.pil,J.asd,J.kk,J.ff,J.dw⟩
 |rst=>exact⟨J.lm,J.lr,J.ld,J.la,J.lk,⟨by have:=I.sit.1;show 1<=st.aQ+1;omega,by have:=I.sit.2;show st.aQ+1<=_;omega⟩,J.mok,J.num,J.nd,J.pil,J.asd,J.kk,J.ff,J.dw⟩
inductive Rs where
 |num (n:Nat) | txt (z:Str) | exc (x:Xc)
abbrev x8:Str:=ar "kept"
abbrev Mh:Str:=ar "lost"
abbrev jD:Str:=ar "dropped"
def mK (b:Bool):Str:=if b=true then x8 else Mh
theorem Bk (b:Bool):Sg (mK b)=true:=by
 unfold mK;split <;> trivial
def jE (st:Ch)(a b:Int):Rs×Ch:=match st.av.getLast? with
 |none=>(.exc .nothing,st)
 |some n=>if a+b > st.bN then (.exc .tooMany,st) else
  (.txt (mK (g9 (nd (st.mo n).k) a b)),(if g9 (nd (st.mo n).k) a b=true then (st.popped st.av.dropLast n (mK (g9 (nd (st.mo n).k) a b))).carry (st.mo n) else st.popped st.av.dropLast n (mK (g9 (nd (st.mo n).k) a b))).qS (R.lQ (.nums (ar "vote") [a,b])))
def jT (st:Ch):Rs×Ch:=match st.av.getLast? with
 |none=>(.exc .nothing,st)
 |some n=>(.txt jD,(st.popped st.av.dropLast n jD).qS (R.lQ (.nums (ar "drop") [])))
def stepT (st:Ch)(n:Nat):Rs×Ch:=if st.av=[] then (match at1 n st.aG with
 |none=>(.exc .pw,st)
 |some x=>if st.aQ < x.2.1 then (.exc (.Bc x.2.1),st) else (.num n,{ st.mZ n x.2.2 with rows:=st.rows++[R.lQ (.nums (ar "take") [(n:Int)])] })) else (.exc (.qP (iR st.closed (st.av.map st.mo))),st)
def iz (st:Ch):Mn->Option Xc
 | .chg e=>match st.av.map st.mo with
  | .mat tx::_=>if d7 tx.length e=true then none else some .noFit
  |_=>none
 | .mnd f=>match (st.av.map st.mo).getLast? with
  |some (.chg e)=>if d7 (R.bb e.th).length f=true then none else some .noFit
  |_=>none
 | .off u=>if u<=st.aQ then some (.lT st.aQ) else none
 |_=>none
def gJ (st:Ch)(m:Mn):Option Xc:=match qQ st.closed (st.av.map st.mo) m.k with
 |some x=>some x
 |none=>iz st m
def Ch.moved (st:Ch)(m:Mn)(row:Str):Ch:={ st with made:=st.made++[m],av:=st.av++[st.made.length+1],firsts:=(match m with | .mat tx=>st.firsts++[(st.made.length+1,tx)] | _=>st.firsts),kept:=(match m with | .mat _=>st.kept++[(st.made.length+1,([]:List Ed))] | _=>st.kept),rows:=st.rows++[row] }
def jU (st:Ch)(m:Mn)(row:Str):Rs×Ch:=match gJ st m with
 |some x=>(.exc x,st)
 |none=>(.num (st.made.length+1),st.moved m row)
theorem Inv.moved {N:Nat}{st:Ch}(I:Inv N st){m:Mn}(hm:MOk N m)(hc:gJ st m=none)(row:Str):Inv (N+3) (st.moved m row):=by
 have J:=I.mono (show N<=N+3 by omega)
 have ho:qQ st.closed (st.av.map st.mo) m.k=none/\iz st m=none:=by
  unfold gJ at hc;split at hc
  ·cases hc
  ·exact⟨by assumption,hc⟩
 have hf:Pu (st.av.map st.mo) m:=by
  have h:=ho.2;cases m with
  |chg e =>
   intro tx r e1;unfold iz at h;dsimp only at h;rw[e1]at h;dsimp only at h;split at h
   ·assumption
   ·cases h
  |mnd f =>
   intro r e e1;unfold iz at h;dsimp only at h;rw[e1,Sw]at h;dsimp only at h;split at h
   ·assumption
   ·cases h
  |_=>trivial
 have em:(st.moved m row).made=st.made++[m]:=rfl;have old:∀ks:List Nat,(∀k∈ks,cy st k)->ks.map (st.moved m row).mo=ks.map st.mo:=λks h=>S5 λk hk=>EC em (h k hk)
 have nok:∀k,cy st k->cy (st.moved m row) k:=λk h=>⟨h.1,by show k<=(st.made++[m]).length;rw[ka];have:=h.2;omega⟩
 have perm:Tx (st.moved m row).all ((st.made.length+1)::st.all):=by
  unfold Ch.all Ch.moved;rw[Th];exact List.perm_middle
 have mt:(st.moved m row).sf=st.sf++(if m.k=0 then [st.made.length+1] else []):=by
  unfold Ch.sf;rw[em,ka,R5,List.range'_concat,List.filter_append,Nat.one_mul,Nat.add_comm 1]
  congr 1
  ·refine List.filter_congr λk hk=>?_
   rw[Tg]at hk;rw[EC em ⟨hk.1,by omega⟩]
  ·rw[List.filter_cons,ED em]
   by_cases z:m.k=0
   ·rw[if_pos (decide_eq_true z),if_pos z];rfl
   ·rw[if_neg (by rw[decide_eq_false z];decide),if_neg z];rfl
 refine⟨?_,?_,J.ld,J.la,?_,J.sit,?_,?_,?_,?_,?_,?_,?_,J.dw⟩
 ·show 3 * (st.made++[m]).length<=_;rw[ka,R5];have:=I.lm;omega
 ·show (st.rows++[row]).length<=_;rw[ka,R5];have:=I.lr;omega
 ·intro x hx;have hx':x∈(match m with | .mat _=>st.kept++[(st.made.length+1,([]:List Ed))] | _=>st.kept):=hx
  cases m with
  |mat tx =>
   rcases List.mem_append.mp hx' with h | h
   ·exact J.lk x h
   ·rw[R3]at h;rw[h];exact Sl _
  |_=>exact J.lk x hx'
 ·intro x hx;rcases List.mem_append.mp (show x∈st.made++[m] from hx) with h | h
  ·exact J.mok x h
  ·rw[R3]at h;rw[h];exact hm.mono (by omega)
 ·intro k hk;rcases List.mem_cons.mp (perm.mem_iff.mp hk) with h | h
  ·rw[h];exact⟨by omega,by show _<=(st.made++[m]).length;rw[ka,R5];omega⟩
  ·exact nok k (I.num k h)
 ·rw[perm.nodup_iff,List.nodup_cons];exact⟨λz=>by have:=(I.num _ z).2;omega,I.nd⟩
 ·show PMs ((st.av++[st.made.length+1]).map (st.moved m row).mo);rw[kg,old st.av I.bG,gr,Sq,ED em];exact I.pil.push ho.1 hf
 ·intro x hx;obtain⟨h1,h2⟩:=I.asd x hx;exact⟨by rw[old _ (I.oz hx)];exact h1,h2⟩
 ·rw[mt,<-I.kk];cases m with
  |mat tx=>show (st.kept++[(st.made.length+1,([]:List Ed))]).map (·.1)=_;rw[kg,if_pos (show (Mn.mat tx).k=0 from rfl)];rfl
  |_=>exact(S6 _).symm
 ·rw[mt,<-I.ff];cases m with
  |mat tx=>show (st.firsts++[(st.made.length+1,tx)]).map (·.1)=_;rw[kg,if_pos (show (Mn.mat tx).k=0 from rfl)];rfl
  |_=>exact(S6 _).symm
theorem zS {n:Nat}{x:Nat×Int×List Nat}:∀ {as:List (Nat×Int×List Nat)},(as.flatMap (·.2.2)).Nodup->(∀y∈as,∃r,y.2.2=y.1::r)->at1 n as=some x->Tx (x.2.2++(as.filter λy=>decide (y.1≠n)).flatMap (·.2.2)) (as.flatMap (·.2.2))
 |[],_,_,h=>nomatch h
 |y::as,nd,hd,h=>by
  rw[List.flatMap_cons]at nd ⊢;obtain⟨n1,n2,n3⟩:=List.nodup_append.mp nd;unfold at1 at h;rw[Sn]at h
  by_cases e:y.1=n
  ·rw[decide_eq_true e]at h;cases h;have:as.filter (λz=>decide (z.1≠n))=as:=by
    rw[List.filter_eq_self];intro z hz;refine decide_eq_true λq=>?_
    obtain⟨r,hr⟩:=hd z (km _ hz);obtain⟨r',hr'⟩:=hd x eg;exact n3 n (by rw[hr',e];exact eg) n (List.mem_flatMap.mpr ⟨z,hz,by rw[hr,q];exact eg⟩) rfl
   rw[List.filter_cons_of_neg (by simp[e]),this]
  ·rw[decide_eq_false e]at h;have ih:=zS n2 (λz hz=>hd z (km _ hz)) h
   rw[List.filter_cons_of_pos (by simp[e]),List.flatMap_cons,<-Th]
   exact(List.Perm.append_right _ List.perm_append_comm).trans (by rw[Th];exact List.Perm.append_left _ ih)
theorem Inv.mZ {N:Nat}{st:Ch}(I:Inv N st){n:Nat}{x:Nat×Int×List Nat}(hp:st.av=[])(hx:at1 n st.aG=some x)(row:Str):Inv (N+1) { st.mZ n x.2.2 with rows:=st.rows++[row] }:=by
 have J:=I.mono (SG N);have hm:=(eZ hx).2;have nd:=I.nd;unfold Ch.all at nd;rw[hp,List.nil_append]at nd;have pm:=zS (List.nodup_append.mp nd).1 (λy hy=>(I.asd y hy).2.1) hx
 have perm:Tx (Ch.all { st.mZ n x.2.2 with rows:=st.rows++[row] }) st.all:=by
  unfold Ch.all Ch.mZ;rw[hp,List.nil_append,<-Th];exact List.Perm.append_right _ pm
 refine⟨J.lm,?_,J.ld,?_,J.lk,J.sit,J.mok,λk hk=>I.num k (perm.mem_iff.mp hk),perm.nodup_iff.mpr I.nd,(I.asd x hm).1,λy hy=>I.asd y (List.mem_filter.mp hy).1,I.kk,I.ff,I.dw⟩
 ·show (st.rows++[row]).length<=_;rw[ka,R5];have:=I.lr;omega
 ·exact ku (SM _ _) J.la
theorem Inv.jE {N:Nat}{st:Ch}(I:Inv N st)(hN:N<=800)(a b:Int):Inv (N+3) (jE st a b).2:=by
 unfold My.jE;split
 ·exact I.mono (by omega)
 ·rename_i n h;obtain⟨pre,e⟩:=lY h;split
  ·exact I.mono (by omega)
  ·have ed:st.av.dropLast=pre:=by rw[e];exact Te
   obtain⟨I1,ht⟩:=I.pop e (mK (g9 (My.nd (st.mo n).k) a b)) (Bk _);rw[ed];have hn:n∈st.av:=by rw[e];simp
   split
   ·exact(I1.carry (by omega) ht ((I.sj (I.bG n hn)).mono (by omega))).qS _
   ·exact(I1.qS _).mono (by omega)
theorem Inv.jT {N:Nat}{st:Ch}(I:Inv N st):Inv (N+3) (jT st).2:=by
 unfold My.jT;split
 ·exact I.mono (by omega)
 ·rename_i n h;obtain⟨pre,e⟩:=lY h;have ed:st.av.dropLast=pre:=by rw[e];exact Te
  rw[ed];exact((I.pop e jD (by trivial)).1.qS _).mono (by omega)
theorem Inv.stepT {N:Nat}{st:Ch}(I:Inv N st)(n:Nat):Inv (N+3) (stepT st n).2:=by
 unfold My.stepT;split
 ·split
  ·exact I.mono (by omega)
  ·split
   ·exact I.mono (by omega)
   ·exact(I.mZ (by assumption) (by assumption) _).mono (by omega)
 ·exact I.mono (by omega)
theorem Inv.jU {N:Nat}{st:Ch}(I:Inv N st){m:Mn}(hm:MOk N m)(row:Str):Inv (N+3) (jU st m row).2:=by
 unfold My.jU;split
 ·exact I.mono (by omega)
 ·exact I.moved hm (by assumption) row
theorem x9:∀(L:Nat) (l:List Nat),l.Nodup->(∀n∈l,1<=n/\n<=L)->l.length<=L
 | 0,l,_,h=>by
  cases l with
  |nil=>exact gn 0
  |cons x r=>have:=h x eg;omega
 |L+1,l,nd,h=>by
  by_cases m:L+1∈l
  ·have ih:=x9 L (l.erase (L+1)) (nd.erase _) (λn hn=>by
    obtain⟨h1,h2⟩:=nd.mem_erase_iff.mp hn;have:=h n h2;omega)
   rw[List.length_erase_of_mem m]at ih;omega
  ·have ih:=x9 L l nd (λn hn=>by
    have:=h n hn;have:n≠L+1:=λz=>m (by rw[<-z];exact hn)
    omega)
   omega
theorem CS:∀ {as:List (Nat×Int×List Nat)},(∀y∈as,∃r,y.2.2=y.1::r)->List.Sublist (as.map (·.1)) (as.flatMap (·.2.2))
 |[],_=>.slnil
 |y::as,h=>by
  obtain⟨r,hr⟩:=h y eg;rw[gr,List.flatMap_cons,hr,List.cons_append];exact .cons₂ _ ((CS λz hz=>h z (km _ hz)).trans (List.sublist_append_right _ _))
theorem Inv.Jx {N:Nat}{st:Ch}(I:Inv N st):(st.aG.map (·.1)).Nodup:=by
 have nd:=I.nd;unfold Ch.all at nd;exact(CS λy hy=>(I.asd y hy).2.1).nodup (List.nodup_append.mp (List.nodup_append.mp nd).2.1).1
theorem Inv.CT {N:Nat}{st:Ch}(I:Inv N st):st.aG.length<=st.made.length:=by
 have h:=x9 st.made.length (st.aG.map (·.1)) I.Jx (λn hn=>by
  obtain⟨x,hx,e⟩:=List.mem_map.mp hn;obtain⟨r,hr⟩:=(I.asd x hx).2.1;exact I.oz hx n (by rw[hr,e];exact eg))
 rw[ba]at h;exact h
def FQ (A:Adr)(i:Nat)(c:Col)(H:Hp)(o:Addr):Rs×Ch->VK->XK->Prop
 | (.num n,st),Q,_=>∀c' H',Step (cz i) c c' H H'->cV A i c' H' o st->Q (nV n) H'
 | (.txt z,st),Q,_=>∀c' H',Step (cz i) c c' H H'->cV A i c' H' o st->Q (.str z) H'
 | (.exc x,st),_,E=>∀c' H' C d,Step (cz i) c c' H H'->cV A i c' H' o st->x.At A H' C d->(∀a,d=some a->c' a=none)->E C d H'
def FR:List Str:=[ar "seats",ar "sitting",ar "closed",ar "made",ar "pile",ar "aside",ar "decided",ar "first_texts",ar "edits_kept",ar "rows"]
theorem bV {m:Str}{v0 v1 v2 v3 v4 v5 v6 v7 v8 v9:V}(h:m∉FR):(chF v0 v1 v2 v3 v4 v5 v6 v7 v8 v9).lookup m=none:=by
 unfold FR at h;simp only[TK,Ta,or_false,not_or]at h;obtain⟨h0,h1,h2,h3,h4,h5,h6,h7,h8,h9⟩:=h;unfold chF;simp only[Sv,beq_eq_false_iff_ne.mpr h0,beq_eq_false_iff_ne.mpr h1,beq_eq_false_iff_ne.mpr h2,beq_eq_false_iff_ne.mpr h3,beq_eq_false_iff_ne.mpr h4,beq_eq_false_iff_ne.mpr h5,beq_eq_false_iff_ne.mpr h6,beq_eq_false_iff_ne.mpr h7,beq_eq_false_iff_ne.mpr h8,beq_eq_false_iff_ne.mpr h9]
def Lj (A:Adr)(i:Nat):Sp:=λvs H Q _=>∃(o mo:Addr) (c:Col) (st:Ch) (m:Mn) (N:Nat),vs=[.ref o,.ref mo]/\cV A i c H o st/\jy A c H m mo/\Inv N st/\N<=900/\uM (st.av.map st.mo) m/\MOk N m /\
 ∀c' H',Step (cz i) c c' H H'->cV A i c' H' o (st.carry m)->Q .non H'
def NS (A:Adr)(i:Nat):Sp:=λvs H Q E=>∃(o:Addr) (a b:Int) (c:Col) (st:Ch) (N:Nat),vs=[.ref o,.int a,.int b]/\cV A i c H o st/\Inv N st/\N<=800/\(0<=a/\a < 10 ^ 10)/\(0<=b/\b < 10 ^ 10)/\FQ A i c H o (jE st a b) Q E
def NT (A:Adr)(i:Nat):Sp:=λvs H Q E=>∃(o:Addr) (c:Col) (st:Ch) (N:Nat),vs=[.ref o]/\cV A i c H o st/\Inv N st/\N<=800/\FQ A i c H o (jT st) Q E
def NU (A:Adr)(i:Nat):Sp:=λvs H Q E=>∃(o:Addr) (z:Int) (c:Col) (st:Ch) (N:Nat),vs=[.ref o,.int z]/\cV A i c H o st/\Inv N st/\N<=800/\-1<=z/\z < 10 ^ 10/\FQ A i c H o (stepT st z.toNat) Q E
theorem uf:∀ {ks:List Nat} {vs:List V},et (a5 (ks.zip vs)) (ki (-1))=none
 |[],_=>rfl
 |_::_,[]=>rfl
 |k::ks,v::vs=>by
  rw[b6,bF (λz=>by have:=Sum.inl.inj z;omega)]
  exact uf
theorem Inv.no0 {N:Nat}{st:Ch}(I:Inv N st):at1 0 st.aG=none:=by
 cases e:at1 0 st.aG with
 |none=>rfl
 |some x =>
  obtain⟨h1,h2⟩:=eZ e;obtain⟨r,hr⟩:=(I.asd x h2).2.1;have:=(I.oz h2 x.1 (by rw[hr];exact eg)).1
  omega
theorem Bl {i:Nat}{c:Col}{H:Hp}{t:Addr}{xs:List V}:uc i (aw c t none) (upd H t (.tup xs)) t xs:=⟨by rw[aS];exact aT,ae⟩
theorem oB {A:Adr}{c:Col}{H H':Hp}{f:Nat->Mn}(s:bc H H'):∀ {ns:List Nat} {os:List Addr},br (λn m=>jy A c H (f n) m) ns os->br (λm p=>jy A c H' m p) (ns.map f) os
 |_,_,.nil=>.nil
 |_,_,.cons h t=>.cons (h.same s) (oB s t)
theorem ya {kd:Str}{ns:List Int}(h:(kd,ns.length)∈R.cM)(hn:∀i∈ns,0<=i/\i < 10 ^ 10):R.DOk (.nums kd ns):=⟨h,hn⟩
section
variable{P:kr}{w:World}{K:bo}{mg:Str->Option Value}{base:Heap}{A:Adr}
theorem Bm (T:Txt w.params K mg A){i:Nat}:aX P w K mg base CX0 5 A.eM A.d5 ["self","motion"] (Lj A i):=by
 have d8:∀k,k < 8->aX P w K mg base CX0 1 (A.fk k) (A.fkd k) ["self"] (dM k):=iQ T;refine T.pH.ok gX (λvs H Q E h=>?_) (λcdv A' outer s H vs Q E hr h=>?_)
 ·obtain⟨o,mo,c,st,m,N,rfl,_⟩:=h;rfl
 ·obtain⟨o,mo,c,st,m,N,rfl,hc,hmo,I,hN,sv,yM,q⟩:=h;obtain⟨dx,aM,aP,aA,aD,aF,aE,aR,ms,ds,ws,fs,es,X⟩:=hc.ex;refine⟨_,(ah (aZ (i:=2) gX.nd rfl (ma rfl) (iU (n:=8) (Cf:=A.C) (pv 1) T.cl T.mB d8 (hr.mono (by decide)) T.mD aV))
 (ai (a4 (aC bf (pv 2) aj (aN _))
 (ai (bh (fH (pv 0) T.aq T.lD (ud (i:=i) T) hr T.lF .nil aV (aa (a9 (pv 1) rfl) af))))
 (ai (a4 (aC bf (pv 2) aj (aN _))
 (ai (bh (fH (pv 0) T.aq T.lG (ue (i:=i) T) hr T.lJ .nil aV (aa (a9 (pv 1) rfl) af))))
 (ai (a4 (aC bf (pv 2) aj (aN _))
 (ai (bh (fH (pv 0) T.aq T.iI (r8 (i:=i) T) (hr.mono (by decide)) T.iJ .nil aV (aa (a9 (pv 1) rfl) af))))
 (ai (a4 (aC bf (pv 2) aj (aN _))
 (ai (cZ (pv 0) gb rfl))
 (ai (a4 (aC bf (pv 2) aj (aN _))
 (ai (bh (fH (pv 0) T.aq T.iI (r8 (i:=i) T) (hr.mono (by decide)) T.iJ .nil aV (aa (a9 (pv 0) rfl) af))))
 (ai (a4 (aC bf (pv 2) aj (aN _))
 (ai (cZ (pv 0) (aW cF (a9 (pv 0) rfl) ag) rfl))
 aJ))))))))))))),?_⟩
  try dsimp only[bt]
  refine aL λGq gq=>?_
  obtain⟨hcn,dm,v,hm,hv⟩:=hmo;refine gq ?_;refine⟨_,rfl,m.k,m.k8,mo,dm,_,rfl,hm,iP m.k v,mo,rfl,?_⟩;have lM:=I.lm;cases m with
  |mat tx=>exact⟨_,rfl,rfl,tsf (bJ 0 (by decide)) ⟨_,rfl,rfl,tsf (bL 0 (by decide)) ⟨_,rfl,rfl,tsf (eh 0 (by decide)) ⟨_,rfl,rfl,tsf (f9 0 (by decide)) ⟨_,rfl,rfl,tsf (Be 0 (by decide)) ⟨_,rfl,rfl,tsf (jC 0 (by decide)) (q c H (Step.refl aT) hc)⟩⟩⟩⟩⟩⟩
  |pnt z=>exact⟨_,rfl,rfl,tsf (bJ 7 (by decide)) ⟨_,rfl,rfl,tsf (bL 7 (by decide)) ⟨_,rfl,rfl,tsf (eh 7 (by decide)) ⟨_,rfl,rfl,tsf (f9 7 (by decide)) ⟨_,rfl,rfl,tsf (Be 7 (by decide)) ⟨_,rfl,rfl,tsf (jC 7 (by decide)) (q c H (Step.refl aT) hc)⟩⟩⟩⟩⟩⟩
  |chg e =>
   refine⟨_,rfl,rfl,tst (bJ 1 (by decide)) ?_⟩
   refine aL λGq gq=>?_
   obtain⟨tx,h1,hf⟩:=sv;obtain⟨k,e1,e2⟩:=Li h1;have hn:k∈st.av:=by rw[e1];exact eg
   have hno:=I.bG k hn;have htx:=I.sj hno;rw[e2]at htx;have Rw:tx.length<=12+N:=htx.1;obtain⟨x,hx,hxl⟩:=I.keptAt hno (by rw[e2];rfl)
   have e3:st.carry (.chg e)=st.Ju k tx e:=by unfold Ch.carry;rw[e1];dsimp only;rw[e2]
   rw[e3]at q;have Jy:EdB (12+N) e:=yM;obtain⟨t,rfl,ht⟩:=hv;refine gq ?_;refine mtv rfl X.ob (bV (by trivial)) ⟨_,rfl,mo,A.C 1,dm,_,.ref t,rfl,hm,T.cl 1 (by decide),T.na1,rfl,?_⟩
   exact⟨o,t,c,st,k,[],tx,e,x,rfl,hc,e1,hno,e2,by omega,by omega,ht,Jy.ok (by omega),hf,hx,by omega,by rw[I.kk];exact EE st,q⟩
  |mnd f =>
   refine⟨_,rfl,rfl,tsf (bJ 2 (by decide)) ⟨_,rfl,rfl,tst (bL 2 (by decide)) ?_⟩⟩
   refine aL λGq gq=>?_
   obtain⟨tx,e,h1,hk,hf⟩:=sv;obtain⟨a,b,e1,e2,e3⟩:=NR h1;have hb:b∈st.av:=by rw[e1];exact km _ eg
   have hno:=I.bG b hb;have he:=I.sj hno;rw[e3]at he;have he':EdB (12+N) e:=he;obtain⟨w1,w2⟩:=he'.words;have e4:st.carry (.mnd f)=st.Jv b e (bC (R.bb e.th) f):=by unfold Ch.carry;rw[e1];show (match st.mo b with | .chg e=>_ | _=>st)=_;rw[e3];rfl
   rw[e4]at q;obtain⟨hf1,w0,hw0,hw1⟩:=yM;have l1:=pA (R.bb e.th) f;have l2:=R.zL (qT w1 (by rw[hw0];exact hw1):∀w∈bC (R.bb e.th) f,R.kH w)
   obtain⟨t,rfl,ht⟩:=hv;refine gq ?_;refine mtv rfl X.ob (bV (by trivial)) ⟨_,rfl,mo,A.C 2,dm,_,.ref t,rfl,hm,T.cl 2 (by decide),T.na2,rfl,?_⟩
   exact⟨o,t,c,st,b,[a],e,f,rfl,hc,e1,hno,e3,hk,he'.ok (by omega),by omega,by omega,ht,hf1.ok (by omega),hf,by omega,q⟩
  |off u =>
   refine⟨_,rfl,rfl,tsf (bJ 3 (by decide)) ⟨_,rfl,rfl,tsf (bL 3 (by decide)) ⟨_,rfl,rfl,tst (eh 3 (by decide)) ?_⟩⟩⟩
   refine aL λGq gq=>?_
   obtain⟨⟨tx,r,h1⟩,_⟩:=sv;obtain⟨k,r',e1,_⟩:=GU h1;have e3:st.carry (.off u)=st.jI k u:=by unfold Ch.carry;rw[e1]
   rw[e3]at q;have hv':v=.int u:=hv;subst hv';have:=I.la;refine gq ?_;refine mtv rfl X.ob (bV (by trivial)) ⟨_,rfl,mo,A.C 3,dm,_,.int u,rfl,hm,T.cl 3 (by decide),T.na3,rfl,?_⟩
   exact⟨o,u,c,st,k,r',rfl,hc,e1,I.Bj (by rw[e1];exact eg),by omega,q⟩
  |cls =>
   refine⟨_,rfl,rfl,tsf (bJ 4 (by decide)) ⟨_,rfl,rfl,tsf (bL 4 (by decide)) ⟨_,rfl,rfl,tsf (eh 4 (by decide)) ⟨_,rfl,rfl,tst (f9 4 (by decide)) ?_⟩⟩⟩⟩
   refine⟨_,rfl,o,A.aB,dx,_,rfl,X.ob,T.aq,T.bM,(by show 10 < 1000;decide),?_⟩
   rw[xV];obtain⟨s1,X1⟩:=X.attr st.aQ true;exact q c _ s1.eT X1.at
  |lay =>
   refine⟨_,rfl,rfl,tsf (bJ 5 (by decide)) ⟨_,rfl,rfl,tsf (bL 5 (by decide)) ⟨_,rfl,rfl,tsf (eh 5 (by decide)) ⟨_,rfl,rfl,tsf (f9 5 (by decide)) ⟨_,rfl,rfl,tst (Be 5 (by decide)) ?_⟩⟩⟩⟩⟩
   refine aL λGq gq=>?_
   obtain⟨⟨tx,r,h1⟩,_⟩:=sv;obtain⟨k,r',e1,_⟩:=GU h1;have e3:st.carry .lay=st.jI k st.aQ:=by unfold Ch.carry;rw[e1]
   rw[e3]at q;have:=I.la;refine gq ?_;refine mtv rfl X.ob (bV (by trivial)) (cU rfl X.ob T.aq T.bI fF ?_)
   exact⟨o,st.aQ,c,st,k,r',rfl,hc,e1,I.Bj (by rw[e1];exact eg),by omega,q⟩
  |rst =>
   refine⟨_,rfl,rfl,tsf (bJ 6 (by decide)) ⟨_,rfl,rfl,tsf (bL 6 (by decide)) ⟨_,rfl,rfl,tsf (eh 6 (by decide)) ⟨_,rfl,rfl,tsf (f9 6 (by decide)) ⟨_,rfl,rfl,tsf (Be 6 (by decide)) ⟨_,rfl,rfl,tst (jC 6 (by decide)) ?_⟩⟩⟩⟩⟩⟩
   refine cU rfl X.ob T.aq T.bI fF ⟨_,_,rfl,rfl,_,rfl,o,A.aB,dx,_,rfl,X.ob,T.aq,T.bI,(by show 10 < 1000;decide),?_⟩
   rw[CM];obtain⟨s1,X1⟩:=X.attr (st.aQ+1) st.closed;exact q c _ s1.eT X1.at
theorem Ll (T:Txt w.params K mg A){i:Nat}:aX P w K mg base (CXX P w) 6 A.jh A.ir ["self","ayes","noes"] (NS A i):=by
 have NV:∀k,k < 8->aX P w K mg base CX0 1 (A.fn k) (A.fnd k) ["self"] (A5 k):=Lc T;refine T.xC.okX ie (λvs H Q E h=>?_) (λcdv A' outer s H vs Q E hr h=>?_)
 ·obtain⟨o,a,b,c,st,N,rfl,_⟩:=h;rfl
 ·obtain⟨o,a,b,c,st,N,rfl,hc,I,hN,ha,hb,q⟩:=h;obtain⟨dx,aM,aP,aA,aD,aF,aE,aR,ms,ds,ws,fs,es,X⟩:=hc.ex;have hu1:=hr.u1;refine⟨_,(a6 (i5 (sS (px (pv 0)) T.aq T.eD (jA (i:=i) T) (hr.mono (by decide)) T.eE))
 (a6 (eI (aC yR (aW cF (pv 1) (pv 2)) (a9 (pv 0) rfl) (aN _))
 (bw (gu T.Ep rfl rfl T.GK (aa aj af)))
 (rp aJ))
 (a6 (psx (aZ (i:=3) ie.nd rfl (ma rfl) (aY hu1 (a9 (pv 0) rfl) (aH a7 (a9 (pv 0) rfl) (kM gi ag) (λ_ _=>rfl)) (λ_ _=>rfl))))
 (a6 (psx (aZ (i:=4) ie.nd rfl (ma rfl) (By (j3 (aU (Ey T) (hr.mono (by decide)) rfl T.Gu T.zz.kp T.Gv .nil aV (aa (iU (n:=8) (Cf:=A.C) (pv 3) T.cl T.Nz NV (hr.mono (by decide)) T.NB aV) (aa (pv 1) (aa (pv 2) af))))) aj aj)))
 (a6 (psx (bh (fH (pv 0) T.aq T.lA (zM (i:=i) T) (hr.mono (by decide)) T.lB .nil aV (aa (pv 4) af))))
 (a6 (psx (a4 (aC bf (pv 4) aj (aN _))
 (ai (bh (fH (pv 0) T.aq T.pG (Bm (i:=i) T) hr T.pI .nil aV (aa (pv 3) af))))
 aJ))
 (a6 (psx (bh (fH (pv 0) T.aq T.fW (m5 (i:=i) T) hr T.fX .nil aV (aa (a8 (aa aj (aa (pv 1) (aa (pv 2) af)))) af))))
 (bw (psx (aI (pv 4))))))))))),?_⟩
  try dsimp only[bt]
  refine mtv rfl X.ob (bV (by trivial)) ⟨o,c,st,rfl,hc,λhne=>?_,λhe=>?_⟩
  case refine_2 =>
   unfold jE at q;rw[he]at q;exact q c H _ _ (Step.refl aT) hc ⟨rfl,rfl⟩ (λ_ z=>nomatch z)
  refine aL λGq gq=>?_
  obtain⟨pre,n,e⟩:∃pre n,st.av=pre++[n]:=by
   rcases R6 st.av with e | ⟨pre,n,e⟩
   ·exact absurd e hne
   ·exact⟨pre,n,by rw[e,R7]⟩
  have gl:st.av.getLast?=some n:=by rw[e];exact Sw
  have ed:st.av.dropLast=pre:=by rw[e];exact Te
  unfold jE at q;rw[gl]at q;dsimp only at q;rw[ed]at q;refine gq ?_;refine⟨_,rfl,_,rfl,_,_,rfl,rfl,cU rfl X.ob T.aq T.lK GN ⟨_,_,rfl,rfl,_,rfl,dc (λz=>?_) (λz=>?_)⟩⟩
  ·have z':a+b > st.bN:=of_decide_eq_true z;rw[if_pos z']at q;exact⟨by decide,q c H _ _ (Step.refl aT) hc ⟨rfl,rfl⟩ (λ_ z=>nomatch z)⟩
  refine aL λGq gq=>?_
  have z':¬a+b > st.bN:=λy=>z (decide_eq_true y)
  rw[if_neg z']at q;have hn:n∈st.av:=by rw[e];simp
  have hno:=I.bG n hn;obtain⟨mo,hv,hmo⟩:=X.Lg hno;have hcp:=hmo;obtain⟨_,dm,v,hm,_⟩:=hmo;have h0:atI (st.av.map nV) (-1)=some (nV n):=by rw[e,kg];exact fJ _ _
  refine gq ?_;refine⟨_,rfl,o,A.aB,dx,_,.ref aM,rfl,X.ob,T.aq,T.bE,eU,_,rfl,o,A.aB,dx,_,.ref aP,rfl,X.ob,T.aq,T.bg,dq,_,rfl,aP,_,_,_,rfl,rfl,SqL.of X.av.2,h0,aM,_,rfl,.inl ⟨_,ki (n:Int),.inl X.made.2,rfl,hv.symm⟩,?_⟩;refine⟨_,rfl,(st.mo n).k,(st.mo n).k8,mo,dm,_,rfl,hm,K4 _ v,mo,rfl,_,rfl,_,rfl,nd (st.mo n).k,a,b,rfl,_,rfl,?_⟩;obtain⟨I1,sv⟩:=I.pop e (mK (g9 (nd (st.mo n).k) a b)) (Bk _);have yM:=(I.sj hno).mono (SG N);have lp:=I.pil.yL;rw[ba]at lp;have ld:=I.ld;have lr:=I.lr;have dk:R.DOk (.nums (ar "vote") [a,b]):=ya (by show (ar "vote",2)∈R.cM;trivial) (by
   intro i hi;rcases List.mem_cons.mp hi with h | hi
   ·rw[h];exact ha
   ·rw[R3]at hi;rw[hi];exact hb)
  cases hk:g9 (nd (st.mo n).k) a b with
  |true =>
   rw[hk]at q I1;rw[if_pos rfl]at q;refine cC (mtv rfl X.ob (bV (by trivial)) ⟨_,rfl,o,x8,c,st,pre,n,rfl,hc,e,by omega,by omega,λc1 H1 s1 hc1=>?_⟩)
   refine aL λGq gq=>?_
   obtain⟨dx1,aM1,aP1,aA1,aD1,aF1,aE1,aR1,ms1,ds1,ws1,fs1,es1,X1⟩:=hc1.ex;refine gq ?_;refine⟨_,rfl,rfl,tst (by trivial) (mtv rfl X1.ob (bV (by trivial)) ⟨_,rfl,o,mo,c1,_,st.mo n,N+1,rfl,hc1,hcp.step s1,I1,by omega,sv,yM,λc2 H2 s2 hc2=>?_⟩)⟩
   refine aL λGq gq=>?_
   obtain⟨dx2,aM2,aP2,aA2,aD2,aF2,aE2,aR2,ms2,ds2,ws2,fs2,es2,X2⟩:=hc2.ex;have I2:=I1.carry (by omega) sv yM
   refine gq ?_;refine mtv rfl X2.ob (bV (by trivial)) ⟨_,rfl,_,rfl,(sl 3),λt ht=>?_⟩
   have s3:Step (cz i) c2 (aw c2 t none) H2 (upd H2 t (.tup [V.str (ar "vote"),.int a,.int b])):=Step.new aT ht;have X3:=X2.free (W:=λ_=>False) (λ_=>id) (Step.new (x:=none) (o:=.tup [V.str (ar "vote"),.int a,.int b]) id ht)
   have lr2:=I2.lr;refine⟨o,t,_,_,.nums (ar "vote") [a,b],rfl,X3.at,Bl,dk,ku lr2 (by omega),λc4 H4 s4 hc4=>⟨_,rfl,?_⟩⟩
   exact q c4 H4 (((s1.trans s2).trans s3).trans s4) hc4
  |false =>
   rw[hk]at q I1;rw[if_neg kj]at q;refine bK (mtv rfl X.ob (bV (by trivial)) ⟨_,rfl,o,Mh,c,st,pre,n,rfl,hc,e,by omega,by omega,λc1 H1 s1 hc1=>?_⟩)
   refine aL λGq gq=>?_
   obtain⟨dx2,aM2,aP2,aA2,aD2,aF2,aE2,aR2,ms2,ds2,ws2,fs2,es2,X2⟩:=hc1.ex;refine gq ?_;refine⟨_,rfl,rfl,tsf (by trivial) ?_⟩
   refine mtv rfl X2.ob (bV (by trivial)) ⟨_,rfl,_,rfl,(sl 3),λt ht=>?_⟩
   have s3:Step (cz i) c1 (aw c1 t none) H1 (upd H1 t (.tup [V.str (ar "vote"),.int a,.int b])):=Step.new aT ht;have X3:=X2.free (W:=λ_=>False) (λ_=>id) (Step.new (x:=none) (o:=.tup [V.str (ar "vote"),.int a,.int b]) id ht)
   refine⟨o,t,_,_,.nums (ar "vote") [a,b],rfl,X3.at,Bl,dk,by show st.rows.length<=1000;omega,λc4 H4 s4 hc4=>⟨_,rfl,?_⟩⟩
   exact q c4 H4 ((s1.trans s3).trans s4) hc4
theorem Lm (T:Txt w.params K mg A){i:Nat}:aX P w K mg base (CXX P w) 6 A.ji A.iu ["self"] (NT A i):=by
 refine T.xF.okX uU (λvs H Q E h=>?_) (λcdv A' outer s H vs Q E hr h=>?_)
 ·obtain⟨o,c,st,N,rfl,_⟩:=h;rfl
 ·obtain⟨o,c,st,N,rfl,hc,I,hN,q⟩:=h;obtain⟨dx,aM,aP,aA,aD,aF,aE,aR,ms,ds,ws,fs,es,X⟩:=hc.ex;refine⟨_,(a6 (i5 (sS (px (pv 0)) T.aq T.eD (jA (i:=i) T) (hr.mono (by decide)) T.eE))
 (a6 (psx (bh (fH (pv 0) T.aq T.lA (zM (i:=i) T) (hr.mono (by decide)) T.lB .nil aV (aa aj af))))
 (a6 (psx (bh (fH (pv 0) T.aq T.fW (m5 (i:=i) T) hr T.fX .nil aV (aa (a8 (aa aj af)) af))))
 (bw (psx (aI aj)))))),?_⟩
  try dsimp only[bt]
  refine mtv rfl X.ob (bV (by trivial)) ⟨o,c,st,rfl,hc,λhne=>?_,λhe=>?_⟩
  case refine_2 =>
   unfold jT at q;rw[he]at q;exact q c H _ _ (Step.refl aT) hc ⟨rfl,rfl⟩ (λ_ z=>nomatch z)
  refine aL λGq gq=>?_
  obtain⟨pre,n,e⟩:∃pre n,st.av=pre++[n]:=by
   rcases R6 st.av with e | ⟨pre,n,e⟩
   ·exact absurd e hne
   ·exact⟨pre,n,by rw[e,R7]⟩
  have gl:st.av.getLast?=some n:=by rw[e];exact Sw
  have ed:st.av.dropLast=pre:=by rw[e];exact Te
  unfold jT at q;rw[gl]at q;dsimp only at q;rw[ed]at q;have lp:=I.pil.yL;rw[ba]at lp;have ld:=I.ld;have lr:=I.lr;refine gq ?_;refine mtv rfl X.ob (bV (by trivial)) ⟨o,jD,c,st,pre,n,rfl,hc,e,by omega,by omega,λc1 H1 s1 hc1=>?_⟩
  refine aL λGq gq=>?_
  obtain⟨dx2,aM2,aP2,aA2,aD2,aF2,aE2,aR2,ms2,ds2,ws2,fs2,es2,X2⟩:=hc1.ex;refine gq ?_;refine mtv rfl X2.ob (bV (by trivial)) ⟨(sl 1),λt ht=>?_⟩
  have s3:Step (cz i) c1 (aw c1 t none) H1 (upd H1 t (.tup [V.str (ar "drop")])):=Step.new aT ht;have X3:=X2.free (W:=λ_=>False) (λ_=>id) (Step.new (x:=none) (o:=.tup [V.str (ar "drop")]) id ht)
  refine⟨o,t,_,_,.nums (ar "drop") [],rfl,X3.at,Bl,ya (by trivial) (λ_ h=>nomatch h),by show st.rows.length<=1000;omega,λc4 H4 s4 hc4=>?_⟩
  exact q c4 H4 ((s1.trans s3).trans s4) hc4
theorem Ln (T:Txt w.params K mg A){i:Nat}:aX P w K mg base (CXX P w) 6 A.jj A.iw ["self","number"] (NU A i):=by
 have hX:aX P w K mg base CX0 4 A.iV A.eu ["deed"] (R.tY K):=R.mI T;refine T.xI.okX mQ (λvs H Q E h=>?_) (λcdv A' outer s H vs Q E hr h=>?_)
 ·obtain⟨o,z,c,st,N,rfl,_⟩:=h;rfl
 ·obtain⟨o,z,c,st,N,rfl,hc,I,hN,hz0,hz1,q⟩:=h;obtain⟨dx,aM,aP,aA,aD,aF,aE,aR,ms,ds,ws,fs,es,X⟩:=hc.ex;have hu1:=hr.u1;have hgd:=hr.gd;have lim:fe=16777216:=by decide
  refine⟨_,(a6 (eI (ni (a9 (pv 0) rfl) (λ_=>rfl))
 (bw (l7 T.ph (uL T) (hr.mono (by decide)) T.xK rfl rfl T.CF (aa (aU (ua T) (hr.mono (by decide)) rfl T.wX T.rQ.kp T.wY .nil aV (aa (cA (pv 0) T.aq T.fU (qO (i:=i) T) (hr.mono (by decide)) T.fV .nil aV) (aa (a9 (pv 0) rfl) af))) af)))
 (rp aJ))
 (a6 (eI (Dq (sV hu1 (pv 1) (a9 (pv 0) rfl)))
 (bw (gu T.Er rfl rfl T.GL (aa (za (i6 (sU (pv 1) (i6 sT)))) af)))
 (rp aJ))
 (a6 (psx (aZ (i:=2) mQ.nd rfl (ma rfl) (aH aK (aY hu1 (a9 (pv 0) rfl) (pv 1) (λ_ _=>rfl)) ag (λ_ _=>rfl))))
 (a6 (eI (aC nh (a9 (pv 0) rfl) (pv 2) (aN _))
 (bw (l7 T.tV (CO T) (hr.mono (by decide)) T.Eu rfl rfl T.Jf (aa (pv 2) af)))
 (rp aJ))
 (a6 (psx (cZ (pv 0) (aH MG (BY (a9 (pv 0) rfl) (pv 1) ⟨rfl,rfl,rfl,rfl⟩) ag (λ_ _=>rfl)) rfl))
 (a6 (psx (bh (bW fu ko kq bu (a9 (pv 0) rfl) (aa (aU hX (hr.mono (by decide)) rfl T.nZ T.jP.kp T.n5 .nil aV (aa (a8 (aa aj (aa (pv 1) af))) af)) af))))
 (bw (psx (aI (pv 1)))))))))),?_⟩
  try dsimp only[bt]
  by_cases hz:z=-1
  ·subst hz;refine cU rfl X.ob T.aq T.bg dq ⟨_,.inl ⟨_,.inl (.inl X.av.2),rfl⟩,?_⟩;rw[show ((-1:Int).toNat)=0 from rfl]at q
   unfold stepT at q;cases e:st.av with
   |cons k0 r0 =>
    rw[if_neg (by rw[e];exact Sd _ _)]at q
    have lp:=I.pil.yL;rw[ba]at lp;have hb:=Ez st.closed (st.av.map st.mo);have hb0:0<=iR st.closed (st.av.map st.mo):=Int.le_trans (by
     by_cases z:m9 (st.av.map st.mo) < 0
     ·have:=xZ z;rw[e]at this;cases this
     ·omega) (oy _ _)
    refine cC (mtv rfl X.ob (bV (by trivial)) ⟨o,c,st,rfl,hc,I.bG,by omega,λB os hB hos=>?_⟩)
    have sB:=ax (o:=.lst (os.map V.ref)) hB;refine cU rfl (sB _ _ X.ob) T.aq T.bM jz ⟨B,st.closed,c,st.av.map st.mo,os,rfl,⟨SqL.of ae,oB sB hos⟩,?_⟩;refine⟨_,rfl,lU (by omega) (by omega),λd hd=>?_⟩
    exact q (bz c H) _ _ _ (Step.cl aT (sB.new hd)) (X.cl (sB.new hd)).at ⟨rfl,d,rfl,ae⟩ (λ_ z=>by cases z;exact bx (same_none sB hd))
   |nil =>
    rw[if_pos e,I.no0]at q;refine bK ?_;refine⟨_,rfl,cU rfl X.ob T.aq T.bT gH ⟨aA,_,rfl,.inl ⟨_,ki (-1),.inl X.aG.2,rfl,rfl⟩,_,rfl,?_⟩⟩;rw[uf];have l1:(SI++ar "no matter of the number ":Str).length=24:=by trivial
    have l2:(ar " is aside").length=9:=by trivial
    have l3:(ar (toString (-1:Int))).length=2:=by trivial
    refine cC ⟨by rw[l1];omega,_,rfl,_,.int (by decide),by rw[l3];omega,by rw[len_app,l1,l3];omega,by rw[len_app,len_app,l1,l2,l3];omega,by rw[len_app,len_app,l1,l2,l3];omega,(sl 1),?_⟩
    exact q c H _ _ (Step.refl aT) hc ⟨rfl,rfl⟩ (λ_ z=>nomatch z)
  refine aL λGq gq=>?_
  obtain⟨n,rfl⟩:∃n:Nat,z=(n:Int):=⟨z.toNat,by omega⟩
  rw[Tz]at q;have RT:n < 10 ^ 10:=by
   have:(10:Nat) ^ 10=10000000000:=by decide
   have:(10:Int) ^ 10=10000000000:=by decide
   omega
  clear hz hz0 hz1;refine gq ?_;refine cU rfl X.ob T.aq T.bg dq ⟨_,.inl ⟨_,.inl (.inl X.av.2),rfl⟩,?_⟩;unfold stepT at q;cases e:st.av with
  |cons k0 r0 =>
   rw[if_neg (by rw[e];exact Sd _ _)]at q
   have lp:=I.pil.yL;rw[ba]at lp;have hb:=Ez st.closed (st.av.map st.mo);have hb0:0<=iR st.closed (st.av.map st.mo):=Int.le_trans (by
    by_cases z:m9 (st.av.map st.mo) < 0
    ·have:=xZ z;rw[e]at this;cases this
    ·omega) (oy _ _)
   refine cC (mtv rfl X.ob (bV (by trivial)) ⟨o,c,st,rfl,hc,I.bG,by omega,λB os hB hos=>?_⟩)
   have sB:=ax (o:=.lst (os.map V.ref)) hB;refine cU rfl (sB _ _ X.ob) T.aq T.bM jz ⟨B,st.closed,c,st.av.map st.mo,os,rfl,⟨SqL.of ae,oB sB hos⟩,?_⟩;refine⟨_,rfl,lU (by omega) (by omega),λd hd=>?_⟩
   exact q (bz c H) _ _ _ (Step.cl aT (sB.new hd)) (X.cl (sB.new hd)).at ⟨rfl,d,rfl,ae⟩ (λ_ z=>by cases z;exact bx (same_none sB hd))
  |nil =>
   rw[if_pos e]at q;refine bK ?_;refine⟨_,rfl,cU rfl X.ob T.aq T.bT gH ⟨aA,_,rfl,.inl ⟨_,ki (n:Int),.inl X.aG.2,rfl,rfl⟩,_,rfl,?_⟩⟩;cases hx:at1 n st.aG with
   |none =>
    rw[hx]at q;rw[mJ (ox hx)];have l1:(SI++ar "no matter of the number ":Str).length=24:=by trivial
    have l2:(ar " is aside").length=9:=by trivial
    have e10:(10:Nat) ^ 10=10000000000:=by decide
    have l3:(ar (toString (n:Int))).length<=20:=zO (by omega) (by omega)
    refine cC ⟨by rw[l1];omega,_,rfl,_,.int (zN (by omega) (by omega)),by omega,by rw[len_app,l1];omega,by rw[len_app,len_app,l1,l2];omega,by rw[len_app,len_app,l1,l2];omega,(sl 1),?_⟩
    exact q c H _ _ (Step.refl aT) hc ⟨rfl,rfl⟩ (λ_ z=>nomatch z)
   |some x =>
    refine aL λGq gq=>?_
    rw[hx]at q;dsimp only at q;obtain⟨t,p,hv,ht,hl⟩:=X.waitOf hx;refine gq ?_;rw[hv];refine bK ?_;refine⟨_,rfl,o,A.aB,dx,_,.ref aA,rfl,X.ob,T.aq,T.bT,gH,_,rfl,aA,_,rfl,.inl ⟨_,ki (n:Int),.inl X.aG.2,rfl,hv.symm⟩,t,_,_,_,rfl,rfl,ht.sq,rfl,?_⟩;refine⟨_,rfl,o,A.aB,dx,_,.int st.aQ,rfl,X.ob,T.aq,T.bI,fF,_,rfl,_,_,rfl,rfl,_,rfl,dc (λz=>?_) (λz=>?_)⟩
    ·have z':st.aQ < x.2.1:=of_decide_eq_true z;refine aL λGq gq=>?_
     rw[if_pos z']at q;obtain⟨_,_,b1,b2⟩:=I.asd x (eZ hx).2;refine gq ?_;refine⟨_,rfl,_,rfl,lU (by have:=I.sit.1;omega) b2,λd hd=>?_⟩
     exact q (bz c H) _ _ _ (Step.cl aT (ax hd)) (X.cl (ax hd)).at ⟨rfl,d,rfl,ae⟩ (λ_ z=>by cases z;exact bx hd)
    ·have z':¬st.aQ < x.2.1:=λy=>z (decide_eq_true y)
     rw[if_neg z']at q;have nAt:t≠aA:=λy=>by have:=ht.1;rw[y,X.aG.1]at this;cases this
     have ht':SqT K (upd H aA (.dK (fA (a5 ((st.aG.map (·.1)).zip ws)) (ki (n:Int))))) t [.int x.2.1,.ref p]:=by
      rcases ht.2 with h | ⟨u,h⟩
      ·exact .inl (.inl ((ao nAt).trans h))
      ·exact .inl (.inr ⟨u,(ao nAt).trans h⟩)
     have oA:o≠aA:=cE X.co X.aG.1 (λz=>nomatch z)
     refine cU rfl X.ob T.aq T.bT gH ⟨aA,rfl,.inl ⟨_,.inl X.aG.2⟩,_,rfl,_,ki (n:Int),_,X.aG.2,rfl,hv,.inr (.inl ⟨t,_,1,.ref p,rfl,rfl,ht',rfl,?_⟩)⟩;refine⟨_,rfl,o,A.aB,dx,_,rfl,(ao oA).trans X.ob,T.aq,T.bg,(by show 10 < 1000;decide),?_⟩
     rw[CN];refine aL λGq gq=>?_
     obtain⟨c1,ws1,s1,X1⟩:=X.mZ hl;refine gq ?_;generalize upd (upd H aA (.dK (fA (a5 ((st.aG.map (·.1)).zip ws)) (ki (n:Int))))) o (.ins A.aB dx (chF (.int st.bN) (.int st.aQ) (.bl st.closed) (.ref aM) (.ref p) (.ref aA) (.ref aD) (.ref aF) (.ref aE) (.ref aR)))=H1 at s1 X1 ⊢
     have lr:=I.lr;have h10:(n:Int) < 10 ^ 10:=by
      have:(10:Nat) ^ 10=10000000000:=by decide
      have:(10:Int) ^ 10=10000000000:=by decide
      omega
     refine cU rfl X1.ob T.aq T.cH ou ⟨.inl ⟨rfl,_,SqL.of X1.rows.2⟩,_,rfl,(sl 2),λu hu=>?_⟩
     have s2:=ax (o:=.tup [V.str (ar "take"),nV n]) hu;refine⟨u,.nums (ar "take") [(n:Int)],rfl,SqT.of ae,ya (by show (ar "take",1)∈R.cM;trivial) (by intro i hi;rw[R3]at hi;rw[hi];exact⟨by omega,h10⟩),λH2 s3=>?_⟩
     have X2:=X1.same (s2.trans s3);obtain⟨s4,X3⟩:=X2.row (R.lQ (.nums (ar "take") [(n:Int)]));refine⟨aR,_,_,rfl,rfl,X2.rows.2,by rw[ba];show st.rows.length < _;omega,_,rfl,?_⟩
     exact q c1 _ ((s1.eT.trans (Step.same aT (s2.trans s3))).trans s4.eT) X3.at
end
def cT:R.cK->Mn
 | .mat cs=>.mat (cs.map (ky R.bl1))
 | .ed m k j ws=>if m=true then .mnd ⟨k,j,ky R.bl1 ws⟩ else .chg ⟨k,j,ky R.bl1 ws⟩
 | .pt ws=>.pnt (ky R.bl1 ws)
 | .nums kd ns=>if kd=ar "put off" then .off (ns.getD 0 0) else if kd=ar "close" then .cls else if kd=ar "lay" then .lay else .rst
def jV:List (Str×Nat):=[(ar "put off",1),(ar "close",0),(ar "lay",0),(ar "rest",0)]
def Bn:R.cK->Prop
 | .mat cs=>cs.length<=12/\∀ws∈cs,R.xT 12 ws
 | .ed m k j ws=>(k=0\/k=1\/k=2)/\(-9999999999<=j/\j<=9999999999)/\R.xT 12 ws/\(m=true->ws.length=1)
 | .pt ws=>R.xT 12 ws
 | .nums kd ns=>(kd,ns.length)∈jV/\∀i∈ns,-10000000000 < i/\i < 10 ^ 10
theorem pB {kd:Str}{ns:List Int}(h:(kd,ns.length)∈jV):(∃u,kd=ar "put off"/\ns=[u])\/(kd=ar "close"/\ns=[])\/(kd=ar "lay"/\ns=[])\/(kd=ar "rest"/\ns=[]):=by
 unfold jV at h;simp only[TK,Ta,or_false,Prod.mk.injEq]at h;rcases h with ⟨h1,h2⟩ | ⟨h1,h2⟩ | ⟨h1,h2⟩ | ⟨h1,h2⟩
 ·cases ns with
  |nil=>simp at h2
  |cons u r =>
   cases r with
   |nil=>exact .inl ⟨u,h1,rfl⟩
   |cons _ _=>simp at h2
 ·exact .inr (.inl ⟨h1,List.length_eq_zero_iff.mp h2⟩)
 ·exact .inr (.inr (.inl ⟨h1,List.length_eq_zero_iff.mp h2⟩))
 ·exact .inr (.inr (.inr ⟨h1,List.length_eq_zero_iff.mp h2⟩))
theorem CU {n:Nat}{ws:List Str}(h:R.xT n ws):Sg (ky R.bl1 ws)=true:=(R.Clause.asc (n:=n) ⟨rfl,h.len,h.wd⟩).ok
theorem EF {N:Nat}:∀ {d:R.cK},Bn d->MOk N (cT d)
 | .mat cs,h=>by
  refine⟨?_,?_⟩
  ·rw[ba];have:=h.1;omega
  ·intro x hx;obtain⟨ws,hw,rfl⟩:=List.mem_map.mp hx;exact CU (h.2 ws hw)
 | .ed m k j ws,h=>by
  obtain⟨h1,⟨h2,h3⟩,h4,h5⟩:=h;cases m with
  |true =>
   show EdB 1 ⟨k,j,ky R.bl1 ws⟩/\_;have hl:=h5 rfl
   match ws,hl,h4 with
   |[x],_,h4=>exact⟨⟨h1,h2,h3,[x],rfl,h4.wd,gn 1⟩,x,rfl,h4.wd x eg⟩
  |false =>
   show EdB (12+N) ⟨k,j,ky R.bl1 ws⟩;exact⟨h1,h2,h3,ws,rfl,h4.wd,by have:=h4.len;omega⟩
 | .pt ws,h=>CU h
 | .nums kd ns,h=>by
  obtain⟨h1,h2⟩:=h;rcases pB h1 with ⟨u,rfl,rfl⟩ | ⟨rfl,rfl⟩ | ⟨rfl,rfl⟩ | ⟨rfl,rfl⟩
  ·rw[cT,if_pos rfl];obtain⟨a,b⟩:=h2 u eg;have:(10:Int) ^ 10=10000000000:=by decide
   exact⟨a,by show u < _;omega⟩
  ·rw[cT,if_neg (by trivial),if_pos rfl];trivial
  ·rw[cT,if_neg (by trivial),if_neg (by trivial),if_pos rfl];trivial
  ·rw[cT,if_neg (by trivial),if_neg (by trivial),if_neg (by trivial)];trivial
theorem Mi {M:Nat}{e:Ed}(h:d7 M e=true):0<=e.at_:=(xM.mp h).1
theorem Jz {N:Nat}{st:Ch}(I:Inv N st){d:R.cK}(h:Bn d)(hc:gJ st (cT d)=none):R.DOk d:=by
 have ho:qQ st.closed (st.av.map st.mo) (cT d).k=none/\iz st (cT d)=none:=by
  unfold gJ at hc;split at hc
  ·cases hc
  ·exact⟨by assumption,hc⟩
 obtain⟨h0,hf⟩:=ho;cases d with
 |mat cs=>exact h
 |pt ws=>exact h
 |ed m k j ws =>
  obtain⟨h1,⟨h2,h3⟩,h4,h5⟩:=h;have e10:(10:Int) ^ 10=10000000000:=by decide
  refine⟨h1,⟨?_,by omega⟩,h4,h5⟩
  cases m with
  |true =>
   rw[cT,if_pos rfl]at h0 hf;have h3:dF (st.av.map st.mo)=true:=(r9 h0).2;unfold dF at h3;split at h3
   ·rename_i e he;unfold iz at hf;dsimp only at hf;rw[he]at hf;dsimp only at hf;split at hf
    ·rename_i h6;exact Mi h6
    ·cases hf
   ·cases h3
  |false =>
   rw[cT,if_neg kj]at h0 hf;obtain⟨tx,r,e1⟩:=I.pil.EB (r9 h0).2;unfold iz at hf;dsimp only at hf;rw[e1]at hf;dsimp only at hf;split at hf
   ·rename_i h6;exact Mi h6
   ·cases hf
 |nums kd ns =>
  obtain⟨h1,h2⟩:=h;have s1:=I.sit.1;rcases pB h1 with ⟨u,rfl,rfl⟩ | ⟨rfl,rfl⟩ | ⟨rfl,rfl⟩ | ⟨rfl,rfl⟩
  ·rw[cT,if_pos rfl]at hf;refine⟨by show (ar "put off",1)∈R.cM;trivial,λi hi=>?_⟩
   rw[R3]at hi;subst hi;unfold iz at hf;dsimp only at hf;split at hf
   ·cases hf
   ·rename_i h6;have h7:¬i<=st.aQ:=h6;exact⟨by omega,(h2 i eg).2⟩
  ·exact⟨by trivial,λ_ h=>nomatch h⟩
  ·exact⟨by trivial,λ_ h=>nomatch h⟩
  ·exact⟨by trivial,λ_ h=>nomatch h⟩
theorem sx {i:Nat}{c:Col}{H:Hp}{t:Addr}:∀ {d:R.cK},Bn d->lX i c H d t->∃v,uc i c H t (rowOf (cT d).k v)/\((cT d).k=0->∃L tx,v=.ref L/\cT d=.mat tx/\GS i c H L (tx.map V.str))/\((cT d).k≠0->(cT d).Val c H v)
 | .mat cs,_,⟨L,a,b⟩=>⟨.ref L,a,λ_=>⟨L,_,rfl,rfl,b⟩,λz=>absurd rfl z⟩
 | .ed true k j ws,h,⟨e,a,b⟩=>⟨.ref e,a,λz=>(nomatch z),λ_=>⟨e,rfl,by rw[<-Bh h.1];exact b⟩⟩
 | .ed false k j ws,h,⟨e,a,b⟩=>⟨.ref e,a,λz=>(nomatch z),λ_=>⟨e,rfl,by rw[<-Bh h.1];exact b⟩⟩
 | .pt ws,_,a=>⟨.str (ky R.bl1 ws),a,λz=>(nomatch z),λ_=>rfl⟩
 | .nums kd ns,h,a=>by
  rcases pB h.1 with ⟨u,rfl,rfl⟩ | ⟨rfl,rfl⟩ | ⟨rfl,rfl⟩ | ⟨rfl,rfl⟩
  ·rw[cT,if_pos rfl];exact⟨.int u,a,λz=>(nomatch z),λ_=>rfl⟩
  ·rw[cT,if_neg (by trivial),if_pos rfl]
   exact⟨.non,a,λz=>(nomatch z),λ_=>trivial⟩
  ·rw[cT,if_neg (by trivial),if_neg (by trivial),if_pos rfl]
   exact⟨.non,a,λz=>(nomatch z),λ_=>trivial⟩
  ·rw[cT,if_neg (by trivial),if_neg (by trivial),if_neg (by trivial)]
   exact⟨.non,a,λz=>(nomatch z),λ_=>trivial⟩
def JA (A:Adr)(K:bo):Sp:=λvs H Q E=>FE A vs H Q E\/CJ A K vs H Q E
def Pw (A:Adr)(i:Nat):Sp:=λvs H Q E=>∃(o t:Addr) (c:Col) (st:Ch) (N:Nat) (d:R.cK),vs=[.ref o,.ref t]/\cV A i c H o st/\Inv N st/\N<=800/\Bn d/\lX i c H d t /\
 (gJ st (cT d)=none->∀H',bc H H'->Q .non H')/\∀x,gJ st (cT d)=some x->∀C e H',bc H H'->x.New A H H' C e->E C e H'
def NW (A:Adr)(i:Nat):Sp:=λvs H Q E=>∃(o t:Addr) (c:Col) (st:Ch) (N:Nat) (d:R.cK),vs=[.ref o,.ref t]/\cV A i c H o st/\Inv N st/\N<=800/\Bn d/\lX i c H d t/\FQ A i c H o (jU st (cT d) (R.lQ d)) Q E
theorem MOk.ed1 {N:Nat}{e:Ed}(h:MOk N (.chg e))(hN:N<=800):m8 e:=EdB.ok h (by omega)
theorem MOk.ed2 {N:Nat}{e:Ed}(h:MOk N (.mnd e)):m8 e:=EdB.ok h.1 (by decide)
section
variable{P:kr}{w:World}{K:bo}{mg:Str->Option Value}{base:Heap}{A:Adr}
theorem mL (T:Txt w.params K mg A){i:Nat}:aX P w K mg base (CXX P w) 6 A.cj A.bZ ["self","told"] (Pw A i):=by
 have jw:aX P w K mg base CX0 1 A.words_of A.fE ["clause"] R.iY:=R.hG T;refine T.g7.okX bY (λvs H Q E h=>?_) (λcdv A' outer s H vs Q E hr h=>?_)
 ·obtain⟨o,t,c,st,N,d,rfl,_⟩:=h;rfl
 ·obtain⟨o,t,c,st,N,d,rfl,hc,I,hN,hd,hdc,q,qx⟩:=h;obtain⟨dx,aM,aP,aA,aD,aF,aE,aR,ms,ds,ws,fs,es,X⟩:=hc.ex;have hu1:=hr.u1;refine⟨_,(a6 (psx (aZ (i:=2) bY.nd rfl (ma rfl) (aH aK (pv 1) ag (λ_ _=>rfl))))
 (a6 (psx (aZ (i:=3) bY.nd rfl (ma rfl) (cA (pv 0) T.aq T.fU (qO (i:=i) T) (hr.mono (by decide)) T.fV .nil aV)))
 (a6 (i5 (rq (pL T) hr rfl T.qE T.jo.kp T.qF (pax (aa (pv 2) (aa (pv 3) (aa (a9 (pv 0) rfl) af))))))
 (bw (eI (aC bf (pv 2) aj (aN _))
 (bw (i5 (rq (jt T) (hr.mono (by decide)) rfl T.j9 T.gP.kp T.kh (pax (aa (a9 (aH a7 (pv 3) ag (λ_ _=>rfl)) rfl) (aa (aH aK (pv 1) ag (λ_ _=>rfl)) af))))))
 (bw (eI (aC bf (pv 2) aj (aN _))
 (bw (i5 (rq (jt T) (hr.mono (by decide)) rfl T.j9 T.gP.kp T.kh (pax (aa (aU jw (hr.mono (by decide)) rfl T.jm T.gD.kp T.jn .nil aV (aa (aH aK (a9 (aH a7 (pv 3) (kM gi ag) (λ_ _=>rfl)) rfl) ag (λ_ _=>rfl)) af)) (aa (aH aK (pv 1) ag (λ_ _=>rfl)) af))))))
 (bw (eI (PW.pt (pw_and (aC bf (pv 2) aj (aN _)) (pw_and1 (aC q5 (aH aK (pv 1) ag (λ_ _=>rfl)) (a9 (pv 0) rfl) (aN _)))))
 (bw (l7 T.oe (yK T) (hr.mono (by decide)) T.A4 rfl rfl T.Em (aa (a9 (pv 0) rfl) af)))
 (rp aJ)))))))))),?_⟩
  try dsimp only[bt]
  refine aL λGq gq=>?_
  obtain⟨v,ht,hv0,hv1⟩:=sx hd hdc;have hmk:=EF (N:=N) hd;refine gq ?_;generalize cT d=m at ht hv0 hv1 hmk q qx;have lp:=I.pil.yL;rw[ba]at lp;refine ixv rfl (SqT.of ht.2) cv ?_;refine mtv rfl X.ob (bV (by trivial)) ⟨o,c,st,rfl,hc,I.bG,by omega,λB os hB hos=>?_⟩
  have sB:=ax (o:=.lst (os.map V.ref)) hB;have hp:qd A K c (upd H B (.lst (os.map V.ref))) B (st.av.map st.mo) os:=⟨SqL.of ae,oB sB hos⟩;generalize upd H B (.lst (os.map V.ref))=H1 at sB hp;refine⟨_,rfl,_,rfl,cU rfl (sB _ _ X.ob) T.aq T.bM jz ⟨m.k,B,st.closed,c,st.av.map st.mo,os,rfl,m.k8,hp,by rw[ba];omega,λho H2 s2=>?_,λx hx C e H2 s2 hat=>?_⟩⟩
  case refine_2=>exact qx x (by unfold gJ;rw[hx]) C e H2 (sB.trans s2) ⟨hat.1,λa z=>same_none sB (hat.2 a z)⟩
  have ec:gJ st m=iz st m:=by unfold gJ;rw[ho]
  rw[ec]at q qx;have s12:=sB.trans s2;have hp2:=hp.same s2;obtain⟨h1,h2⟩:=r9 ho;have X2:=X.same s12;have ht2:H2 t=some (.tup (rowOf m.k v)):=s12 _ _ ht.2;cases m with
  |mat tx=>exact⟨_,rfl,rfl,tsf (bJ 0 (by decide)) ⟨_,rfl,rfl,tsf (bL 0 (by decide)) ⟨_,rfl,rfl,tsf (eh 0 (by decide)) (bK (q rfl H2 s12))⟩⟩⟩
  |pnt z=>exact⟨_,rfl,rfl,tsf (bJ 7 (by decide)) ⟨_,rfl,rfl,tsf (bL 7 (by decide)) ⟨_,rfl,rfl,tsf (eh 7 (by decide)) (bK (q rfl H2 s12))⟩⟩⟩
  |cls=>exact⟨_,rfl,rfl,tsf (bJ 4 (by decide)) ⟨_,rfl,rfl,tsf (bL 4 (by decide)) ⟨_,rfl,rfl,tsf (eh 4 (by decide)) (bK (q rfl H2 s12))⟩⟩⟩
  |lay=>exact⟨_,rfl,rfl,tsf (bJ 5 (by decide)) ⟨_,rfl,rfl,tsf (bL 5 (by decide)) ⟨_,rfl,rfl,tsf (eh 5 (by decide)) (bK (q rfl H2 s12))⟩⟩⟩
  |rst=>exact⟨_,rfl,rfl,tsf (bJ 6 (by decide)) ⟨_,rfl,rfl,tsf (bL 6 (by decide)) ⟨_,rfl,rfl,tsf (eh 6 (by decide)) (bK (q rfl H2 s12))⟩⟩⟩
  |chg e =>
   refine⟨_,rfl,rfl,tst (bJ 1 (by decide)) ?_⟩
   refine aL λGq gq=>?_
   obtain⟨tx,r,e1⟩:=I.pil.EB h2;obtain⟨te,rfl,hte⟩:=hv1 (by simp[Mn.k])
   rw[e1]at hp2;obtain⟨hB2,ho2⟩:=hp2;refine gq ?_;cases ho2 with
   | @cons _ ob _ bs hm RN =>
    refine aL λGq gq=>?_
    obtain⟨_,dm,v,hm2,L,rfl,hL⟩:=hm;refine gq ?_;refine ixv rfl hB2 (cq (j:=0) rfl) ⟨ob,A.C 0,dm,_,.ref L,rfl,hm2,T.cl 0 (by decide),T.na0,rfl,ixv rfl (SqT.of ht2) rfl ?_⟩
    refine⟨L,te,tx.map V.str,e,rfl,SqL.of hL.2,bj s12 hte.sq,hmk.ed1 hN,λhf=>?_,λhf=>?_⟩
    ·rw[ba]at hf;refine q ?_ H2 s12;unfold iz;dsimp only;rw[e1];dsimp only;rw[if_pos hf]
    ·rw[ba]at hf;refine qx .noFit ?_ _ _ H2 s12 ⟨⟨rfl,rfl⟩,λ_ z=>nomatch z⟩
     unfold iz;dsimp only;rw[e1];dsimp only;rw[if_neg (by rw[hf];decide)]
  |mnd f =>
   refine⟨_,rfl,rfl,tsf (bJ 2 (by decide)) ⟨_,rfl,rfl,tst (bL 2 (by decide)) ?_⟩⟩
   refine aL λGq gq=>?_
   have h3:dF (st.av.map st.mo)=true:=h2;unfold dF at h3;obtain⟨e,he,hk1⟩:∃e,(st.av.map st.mo).getLast?=some (.chg e)/\e.k≠1:=by
    split at h3
    ·rename_i e he;exact⟨e,he,λz=>by rw[z]at h3;cases h3⟩
    ·cases h3
   obtain⟨r,e1⟩:=lY he;obtain⟨te,rfl,hte⟩:=hv1 (by simp[Mn.k])
   obtain⟨hB2,ho2⟩:=hp2;obtain⟨pre,ob,eo⟩:∃pre ob,os=pre++[ob]:=by
    have hl:=ho2.len;rw[e1,ka,R5]at hl;rcases R6 os with e | ⟨pre,n,e⟩
    ·rw[e]at hl;simp at hl
    ·exact⟨pre,n,by rw[e,R7]⟩
   subst eo;obtain⟨as',a,e3,_,hm⟩:=ho2.last;rw[e1]at e3;obtain⟨_,e4⟩:=List.append_inj' e3 rfl;cases e4;obtain⟨_,dm,v,hm2,tc,rfl,htc⟩:=hm;have hem:EdB (12+N) e:=by
    have EG:Mn.chg e∈st.av.map st.mo:=by rw[e1];simp
    obtain⟨k,hk,ek⟩:=List.mem_map.mp EG;have:=I.sj (I.bG k hk);rw[ek]at this;exact this
   have heo:m8 e:=hem.ok (by omega)
   refine gq ?_;refine⟨_,rfl,_,rfl,B,_,_,_,rfl,rfl,hB2,xY pre ob,ob,A.C 1,dm,_,.ref tc,rfl,hm2,T.cl 1 (by decide),T.na1,rfl,tc,_,_,_,rfl,rfl,htc.sq,qK hk1,e.th,rfl,?_,λp1 hp1=>?_⟩
   ·have:=heo.th.len;have lim:fe=16777216:=by decide
    omega
   have s3:=ax (o:=.lst ((R.bb e.th).map V.str)) hp1;have s13:=s12.trans s3;refine ixv rfl (SqT.of (s3 _ _ ht2)) rfl ?_;refine⟨p1,te,(R.bb e.th).map V.str,f,rfl,SqL.of ae,bj s13 hte.sq,hmk.ed2,λhf=>?_,λhf=>?_⟩
   ·rw[ba]at hf;refine q ?_ _ s13;unfold iz;dsimp only;rw[he];dsimp only;rw[if_pos hf]
   ·rw[ba]at hf;refine qx .noFit ?_ _ _ _ s13 ⟨⟨rfl,rfl⟩,λ_ z=>nomatch z⟩
    unfold iz;dsimp only;rw[he];dsimp only;rw[if_neg (by rw[hf];decide)]
  |off u =>
   have hv':v=.int u:=hv1 (by simp[Mn.k])
   subst hv';refine⟨_,rfl,rfl,tsf (bJ 3 (by decide)) ⟨_,rfl,rfl,tsf (bL 3 (by decide)) ⟨_,rfl,rfl,tst (eh 3 (by decide)) ?_⟩⟩⟩
   refine ixv rfl (SqT.of ht2) rfl (cU rfl X2.ob T.aq T.bI fF ⟨_,_,rfl,rfl,_,rfl,dc (λz=>?_) (λz=>?_)⟩)
   ·have z':u<=st.aQ:=of_decide_eq_true z;have:=I.sit;refine cU rfl X2.ob T.aq T.bI fF ⟨_,rfl,lU (by omega) (by omega),λd hd=>?_⟩
    refine qx (.lT st.aQ) ?_ _ _ _ (s12.new hd) ⟨⟨rfl,d,rfl,ae⟩,λ_ z=>by cases z;exact same_none s12 hd⟩
    unfold iz;dsimp only;rw[if_pos z']
   ·have z':¬u<=st.aQ:=λy=>z (decide_eq_true y)
    refine q ?_ _ s12;unfold iz;dsimp only;rw[if_neg z']
theorem Lo (T:Txt w.params K mg A):aX P w K mg base CX0 3 A.ll A.fN ["told"] (JA A K):=O1 (Ba T) (yJ T)
theorem JB {i:Nat}{c:Col}{H:Hp}{t:Addr}{m:Mn}{v:V}{Q:VK}{E:XK}(ht:uc i c H t (rowOf m.k v))(hv0:m.k=0->∃L tx,v=.ref L/\m=.mat tx/\GS i c H L (tx.map V.str))(hv1:m.k≠0->m.Val c H v)
  (q:∀mo H',bc H H'->jy A (bz c H) H' m mo->Q (.ref mo) H'):JA A K [.ref t] H Q E:=by
 by_cases h0:m.k=0
 ·obtain⟨L,tx,rfl,rfl,hL⟩:=hv0 h0;refine .inr ⟨t,L,tx.map V.str,rfl,ht.2,SqL.of hL.2,λmo p H' s hm hp hp' hmo=>q mo H' s ?_⟩
  obtain⟨dx,hmo⟩:=hmo;exact⟨bx hm,dx,.ref p,hmo,p,rfl,bx hp,hp'⟩
 ·refine .inl ⟨t,m.k,v,by omega,m.k8,rfl,ht.2,λmo H' s hm hmo=>q mo H' s ?_⟩
  obtain⟨dx,hmo⟩:=hmo;exact⟨bx hm,dx,v,hmo,(hv1 h0).step (Step.cl (W:=λ_=>False) id s)⟩
theorem Lp (T:Txt w.params K mg A){i:Nat}:aX P w K mg base (CXX P w) 7 A.jg A.iq ["self","told"] (NW A i):=by
 have hX:aX P w K mg base CX0 4 A.iV A.eu ["deed"] (R.tY K):=R.mI T;refine T.xy.okX mP (λvs H Q E h=>?_) (λcdv A' outer s H vs Q E hr h=>?_)
 ·obtain⟨o,t,c,st,N,d,rfl,_⟩:=h;rfl
 ·obtain⟨o,t,c,st,N,d,rfl,hc,I,hN,hd,hdc,q⟩:=h;obtain⟨dx,aM,aP,aA,aD,aF,aE,aR,ms,ds,ws,fs,es,X⟩:=hc.ex;have hu1:=hr.u1;have lim:fe=16777216:=by decide
  refine⟨_,(a6 (i5 (rz (px (pv 0)) T.aq T.g0 (mL (i:=i) T) hr T.g8 (pax (aa (pv 1) af))))
 (a6 (psx (aZ (i:=2) mP.nd rfl (ma rfl) (aW cF (bQ zd (by rfl) T.mY ic (aa (a9 (pv 0) rfl) af)) ag)))
 (a6 (psx (eX hu1 (a9 (pv 0) rfl) (pv 2) (aU (Lo T) (hr.mono (by decide)) rfl T.Cg T.nX.kp T.Ci .nil aV (aa (pv 1) af)) rfl))
 (a6 (psx (bh (bW fu ko kq bu (a9 (pv 0) rfl) (aa (pv 2) af))))
 (a6 (psx (a4 (aC bf (aH aK (pv 1) ag (λ_ _=>rfl)) aj (aN _))
 (ah (eX hu1 (a9 (pv 0) rfl) (pv 2) (bD bA (by rfl) T.eQ cW (aa (aH aK (pv 1) ag (λ_ _=>rfl)) af)) rfl)
 (ai (eX hu1 (a9 (pv 0) rfl) (pv 2) (bq af) rfl)))
 aJ))
 (a6 (psx (bh (bW fu ko kq bu (a9 (pv 0) rfl) (aa (aU hX (hr.mono (by decide)) rfl T.nZ T.jP.kp T.n5 .nil aV (aa (pv 1) af)) af))))
 (bw (psx (aI (pv 2)))))))))),?_⟩
  try dsimp only[bt]
  unfold jU at q;refine mtv rfl X.ob (bV (by trivial)) ⟨_,rfl,o,t,c,st,N,d,rfl,hc,I,hN,hd,hdc,λLq H1 s1=>?_,λx hx C e H1 s1 hat=>?_⟩
  case refine_2 =>
   rw[hx]at q;exact q (bz c H) H1 C e (Step.cl aT s1) (X.cl s1).at hat.1 (λa z=>bx (hat.2 a z))
  refine aL λGq gq=>?_
  rw[Lq]at q;have Px:=Jz I hd Lq;have X1:=X.same s1;have st1:Step (cz i) c c H H1:=Step.same aT s1;have NX:=hdc.step st1;obtain⟨v,ht,hv0,hv1⟩:=sx hd NX;obtain⟨m,em⟩:∃m,m=cT d:=⟨_,rfl⟩;rw[<-em]at ht hv0 hv1 q;have lm:=I.lm;have lr:=I.lr;have ml:=X1.mot.len;have lp:=I.pil.yL;rw[ba]at lp;have el:(a5 ((Sk 1 st.made.length).zip (ms.map V.ref))).length=st.made.length:=by
   unfold a5;rw[ba,Tn,SV,ba,<-ml,Nat.min_self]
  have en:(((a5 ((Sk 1 st.made.length).zip (ms.map V.ref))).length:Nat):Int)+1=((st.made.length+1:Nat):Int):=by rw[el];omega
  refine gq ?_;refine cU rfl X1.ob T.aq T.bE eU ⟨aM,_,rfl,X1.made.2,_,_,rfl,rfl,?_⟩;dsimp only[cf];rw[en];refine⟨_,rfl,JB ht hv0 hv1 λmo H2 s2 hmo=>?_⟩
  have X2:=X1.cl s2;have st2:Step (cz i) c (bz c H1) H1 H2:=Step.cl aT s2;refine cU rfl X2.ob T.aq T.bE eU ⟨_,rfl,aM,_,rfl,kQ.k (k:=ki ((st.made.length+1:Nat):Int)) X2.made.2 (by omega),?_⟩
  obtain⟨st3,X3⟩:=X2.Le hmo;have NY:=st2.trans st3.eT;generalize upd H2 aM (.dK (putK (a5 ((Sk 1 st.made.length).zip (ms.map V.ref))) (ki ((st.made.length+1:Nat):Int)) (.ref mo)))=H3 at NY X3 ⊢;clear hmo st2 X2;generalize bz c H1=c3 at NY X3;refine cU rfl X3.ob T.aq T.bg dq ⟨.inl ⟨rfl,_,SqL.of X3.av.2⟩,_,rfl,aP,_,_,rfl,rfl,X3.av.2,by rw[ba];show st.av.length < _;omega,?_⟩
  obtain⟨st4,X4⟩:=X3.push (st.made.length+1);have Py:=NY.trans st4.eT;have X4':ChX A i c3 (upd H3 aP (.lst (st.av.map nV++[V.int ((st.made.length+1:Nat):Int)]))) o { st with made:=st.made++[m],av:=st.av++[st.made.length+1] } dx aM aP aA aD aF aE aR (ms++[mo]) ds ws fs es:=X4
  have zT:Step (cz i) c c3 H1 (upd H3 aP (.lst (st.av.map nV++[V.int ((st.made.length+1:Nat):Int)]))):=Py;clear X4 Py st4;generalize upd H3 aP (.lst (st.av.map nV++[V.int ((st.made.length+1:Nat):Int)]))=H4 at X4' zT ⊢;have nf:st.made.length+1∉st.sf:=λz=>by
   have:=(List.mem_filter.mp z).1;rw[Tg]at this;omega
  have ht4:=ht.step zT
  by_cases h0:m.k=0
  ·obtain⟨L,tx,rfl,rfl,hL⟩:=hv0 h0;have hL4:=hL.step zT;refine ixv rfl (SqT.of ht4.2) rfl ⟨rfl,tst (qR 0 (by decide)) ?_⟩
   refine ixv rfl (SqT.of ht4.2) rfl ⟨L,_,rfl,.inl (SqL.of hL4.2),λp hp=>?_⟩
   have lf:st.firsts.length=fs.length:=X4'.first.len;have lff:st.firsts.length<=st.made.length:=by
    have:=congrArg List.length I.ff;rw[ba]at this;rw[this];exact ku (SM _ _) (by rw[SV];exact gn _)
   have lkk:st.kept.length<=st.made.length:=by
    have:=congrArg List.length I.kk;rw[ba]at this;rw[this];exact ku (SM _ _) (by rw[SV];exact gn _)
   have sp:=ax (o:=.lst (tx.map V.str)) hp;refine cU rfl (sp _ _ X4'.ob) T.aq T.fY ve ⟨_,rfl,aF,_,rfl,kQ.k (k:=ki ((st.made.length+1:Nat):Int)) (sp _ _ X4'.firsts.2) ?_,?_⟩
   ·unfold a5;rw[ba,Tn,ba];show min st.firsts.length _ < _;omega
   obtain⟨st5,X5⟩:=X4'.Jt (tx:=tx) hp (n:=st.made.length+1) (by show _∉st.firsts.map (·.1);rw[I.ff];exact nf)
   have X5':ChX A i (aw c3 p (some (i,.b5 (st.made.length+1)))) (upd (upd H4 p (.lst (tx.map V.str))) aF (.dK (putK (a5 ((st.firsts.map (·.1)).zip fs)) (ki ((st.made.length+1:Nat):Int)) (.ref p)))) o { st with made:=st.made++[.mat tx],av:=st.av++[st.made.length+1],firsts:=st.firsts++[(st.made.length+1,tx)] } dx aM aP aA aD aF aE aR (ms++[mo]) ds ws (fs++[.ref p]) es:=X5
   have NZ:Step (cz i) c (aw c3 p (some (i,.b5 (st.made.length+1)))) H1 (upd (upd H4 p (.lst (tx.map V.str))) aF (.dK (putK (a5 ((st.firsts.map (·.1)).zip fs)) (ki ((st.made.length+1:Nat):Int)) (.ref p)))):=zT.trans st5.eT
   clear X5 st5;generalize aw c3 p (some (i,.b5 (st.made.length+1)))=c5 at X5' NZ;generalize upd (upd H4 p (.lst (tx.map V.str))) aF (.dK (putK (a5 ((st.firsts.map (·.1)).zip fs)) (ki ((st.made.length+1:Nat):Int)) (.ref p)))=H5 at X5' NZ ⊢
   refine⟨(sl 0),λp2 hp2=>?_⟩
   have sp2:=ax (o:=.lst []) hp2;refine cU rfl (sp2 _ _ X5'.ob) T.aq T.dJ ot ⟨_,rfl,aE,_,rfl,kQ.k (k:=ki ((st.made.length+1:Nat):Int)) (sp2 _ _ X5'.hJ.2) ?_,?_⟩
   ·unfold a5;rw[ba,Tn,ba];show min st.kept.length _ < _;omega
   obtain⟨st6,X6⟩:=X5'.Lf hp2 (n:=st.made.length+1) (by show _∉st.kept.map (·.1);rw[I.kk];exact nf)
   have Pz:=NZ.trans st6.eT;have N0:=NX.step Pz;refine cU rfl X6.ob T.aq T.cH ou ⟨.inl ⟨rfl,_,SqL.of X6.rows.2⟩,_,rfl,t,d,rfl,N0.at,Px,λH7 s7=>?_⟩
   have X7:=X6.same s7;obtain⟨st8,X8⟩:=X7.row (R.lQ d);refine⟨aR,_,_,rfl,rfl,X7.rows.2,by rw[ba];show st.rows.length < _;omega,_,rfl,?_⟩
   exact q _ _ (((st1.trans Pz).trans (Step.same aT s7)).trans st8.eT) X8.at
  ·refine ixv rfl (SqT.of ht4.2) cv ⟨rfl,tsf ((qR m.k m.k8).trans (decide_eq_false h0)) ?_⟩;have N0:=NX.step zT;refine cU rfl X4'.ob T.aq T.cH ou ⟨.inl ⟨rfl,_,SqL.of X4'.rows.2⟩,_,rfl,t,d,rfl,N0.at,Px,λH7 s7=>?_⟩
   have X7:=X4'.same s7;obtain⟨st8,X8⟩:=X7.row (R.lQ d);refine⟨aR,_,_,rfl,rfl,X7.rows.2,by rw[ba];show st.rows.length < _;omega,_,rfl,?_⟩
   have e8:st.moved m (R.lQ d)={ st with made:=st.made++[m],av:=st.av++[st.made.length+1],rows:=st.rows++[R.lQ d] }:=by
    unfold Ch.moved;cases m with
    |mat tx=>exact absurd rfl h0
    |_=>rfl
   rw[e8]at q;exact q _ _ (((st1.trans zT).trans (Step.same aT s7)).trans st8.eT) X8.at
end
def hZ (n:Int):Ch:=⟨n,1,false,[],[],[],[],[],[],[]⟩
def PB (A:Adr):Sp:=λvs H Q _=>∃(o dx:Addr) (n:Int),vs=[.ref o,.int n]/\H o=some (.ins A.aB dx []) /\
 ∀H',(∀(i:Nat) (c:Col),∃c',(∀a v,H a=some v->a≠o->H' a=some v/\c' a=c a)/\cV A i c' H' o (hZ n))->Q .non H'
theorem eV {f:Str}{v:V}:∀ {fs:List (Str×V)},f∉fs.map (·.1)->dW f v fs=fs++[(f,v)]
 |[],_=>rfl
 | (g,x)::r,h=>by
  rw[dW,if_neg (λz=>h (by rw[<-z];exact eg)),eV λz=>h (km _ z)]
  rfl
theorem nxt {H:Hp}{o a C dx:Addr}{fs fs':List (Str×V)}{v:HO}(ho:H o=some (.ins C dx fs))(ha:H a=none) :
  (upd (upd H a v) o (.ins C dx fs')) a=some v/\(upd (upd H a v) o (.ins C dx fs')) o=some (.ins C dx fs')/\a≠o/\∀b u,H b=some u->b≠o->(upd (upd H a v) o (.ins C dx fs')) b=some u/\b≠a:=by
 have na:a≠o:=(az ho ha).symm;refine⟨(ao na).trans ae,ae,na,λb u hb hbo=>?_⟩
 have nb:b≠a:=az hb ha;exact⟨(ao hbo).trans ((ao nb).trans hb),nb⟩
section
variable{P:kr}{w:World}{K:bo}{mg:Str->Option Value}{base:Heap}{A:Adr}
theorem JC (T:Txt w.params K mg A):aX P w K mg base CX0 2 A.jf A.ip ["self","seats"] (PB A):=by
 refine T.xw.ok uT (λvs H Q E h=>?_) (λcdv A' outer s H vs Q E hr h=>?_)
 ·obtain⟨o,dx,n,rfl,_⟩:=h;rfl
 ·obtain⟨o,dx,n,rfl,ho,q⟩:=h;refine⟨_,(ah (cZ (pv 0) (pv 1) rfl)
 (ah (cZ (pv 0) ag rfl)
 (ah (cZ (pv 0) gb rfl)
 (ah (cZ (pv 0) kR rfl)
 (ah (cZ (pv 0) (bq af) rfl)
 (ah (cZ (pv 0) kR rfl)
 (ah (cZ (pv 0) (bq af) rfl)
 (ah (cZ (pv 0) kR rfl)
 (ah (cZ (pv 0) kR rfl)
 (ai (cZ (pv 0) (bq af) rfl))))))))))),?_⟩
  try dsimp only[bt]
  refine⟨_,rfl,_,rfl,o,A.aB,dx,_,rfl,ho,T.aq,T.lK,(by show 0 < 1000;decide),?_⟩
  refine⟨_,rfl,o,A.aB,dx,_,rfl,ae,T.aq,T.bI,(by show 1 < 1000;decide),?_⟩
  rw[iK];refine⟨_,rfl,o,A.aB,dx,_,rfl,ae,T.aq,T.bM,(by show 2 < 1000;decide),?_⟩
  rw[iK];have e0:dW (ar "closed") (V.bl false) (dW (ar "sitting") (V.int 1) (dW (ar "seats") (V.int n) []))=[(ar "seats",V.int n),(ar "sitting",V.int 1),(ar "closed",V.bl false)]:=by
   have f1:dW (ar "seats") (V.int n) []=[(ar "seats",V.int n)]:=rfl;have f2:dW (ar "sitting") (V.int 1) [(ar "seats",V.int n)]=[(ar "seats",V.int n),(ar "sitting",V.int 1)]:=eV (by show _∉[ar "seats"];trivial)
   rw[f1,f2];exact eV (by show _∉[ar "seats",ar "sitting"];trivial)
  rw[e0];have o0:(upd H o (.ins A.aB dx [(ar "seats",V.int n),(ar "sitting",V.int 1),(ar "closed",V.bl false)])) o=some (.ins A.aB dx [(ar "seats",V.int n),(ar "sitting",V.int 1),(ar "closed",V.bl false)]):=ae;have k0:∀b u,H b=some u->b≠o->(upd H o (.ins A.aB dx [(ar "seats",V.int n),(ar "sitting",V.int 1),(ar "closed",V.bl false)])) b=some u:=λb u hb hbo=>(ao hbo).trans hb
  generalize upd H o (.ins A.aB dx [(ar "seats",V.int n),(ar "sitting",V.int 1),(ar "closed",V.bl false)])=H0 at o0 k0 ⊢;refineλaM zaM=>?_
  have naM:o≠aM:=az o0 zaM;refine⟨_,rfl,o,A.aB,dx,_,rfl,(ao naM).trans o0,T.aq,T.bE,(by show 3 < 1000;decide),?_⟩
  have e1:dW (ar "made") (V.ref aM) [(ar "seats",V.int n),(ar "sitting",V.int 1),(ar "closed",V.bl false)]=[(ar "seats",V.int n),(ar "sitting",V.int 1),(ar "closed",V.bl false),(ar "made",V.ref aM)]:=eV (by show _∉[ar "seats",ar "sitting",ar "closed"];trivial)
  rw[e1];refine aL λGq gq=>?_
  obtain⟨yaM,o1,_,waM⟩:=nxt (v:=.dK []) (fs':=[(ar "seats",V.int n),(ar "sitting",V.int 1),(ar "closed",V.bl false),(ar "made",V.ref aM)]) o0 zaM;have k1:=λb u (hb:H b=some u) (hbo:b≠o)=>waM b u (k0 b u hb hbo) hbo
  refine gq ?_;generalize upd (upd H0 aM (.dK [])) o (.ins A.aB dx [(ar "seats",V.int n),(ar "sitting",V.int 1),(ar "closed",V.bl false),(ar "made",V.ref aM)])=H1 at o1 k1 waM yaM ⊢;clear waM;refine⟨(sl 0),λaP zaP=>?_⟩
  have naP:o≠aP:=az o1 zaP;refine⟨_,rfl,o,A.aB,dx,_,rfl,(ao naP).trans o1,T.aq,T.bg,(by show 4 < 1000;decide),?_⟩
  have e2:dW (ar "pile") (V.ref aP) [(ar "seats",V.int n),(ar "sitting",V.int 1),(ar "closed",V.bl false),(ar "made",V.ref aM)]=[(ar "seats",V.int n),(ar "sitting",V.int 1),(ar "closed",V.bl false),(ar "made",V.ref aM),(ar "pile",V.ref aP)]:=eV (by show _∉[ar "seats",ar "sitting",ar "closed",ar "made"];trivial)
  rw[e2];refine aL λGq gq=>?_
  obtain⟨yaP,o2,_,waP⟩:=nxt (v:=.lst []) (fs':=[(ar "seats",V.int n),(ar "sitting",V.int 1),(ar "closed",V.bl false),(ar "made",V.ref aM),(ar "pile",V.ref aP)]) o1 zaP;obtain⟨yaM,PD⟩:=waP _ _ yaM (R4 naM);have k2:=λb u (hb:H b=some u) (hbo:b≠o)=>waP b u ((k1 b u hb hbo).1) hbo
  refine gq ?_;generalize upd (upd H1 aP (.lst [])) o (.ins A.aB dx [(ar "seats",V.int n),(ar "sitting",V.int 1),(ar "closed",V.bl false),(ar "made",V.ref aM),(ar "pile",V.ref aP)])=H2 at o2 k2 waP yaM yaP ⊢;clear waP;refineλaA zaA=>?_
  have naA:o≠aA:=az o2 zaA;refine⟨_,rfl,o,A.aB,dx,_,rfl,(ao naA).trans o2,T.aq,T.bT,(by show 5 < 1000;decide),?_⟩
  have e3:dW (ar "aside") (V.ref aA) [(ar "seats",V.int n),(ar "sitting",V.int 1),(ar "closed",V.bl false),(ar "made",V.ref aM),(ar "pile",V.ref aP)]=[(ar "seats",V.int n),(ar "sitting",V.int 1),(ar "closed",V.bl false),(ar "made",V.ref aM),(ar "pile",V.ref aP),(ar "aside",V.ref aA)]:=eV (by show _∉[ar "seats",ar "sitting",ar "closed",ar "made",ar "pile"];trivial)
  rw[e3];refine aL λGq gq=>?_
  obtain⟨yaA,o3,_,waA⟩:=nxt (v:=.dK []) (fs':=[(ar "seats",V.int n),(ar "sitting",V.int 1),(ar "closed",V.bl false),(ar "made",V.ref aM),(ar "pile",V.ref aP),(ar "aside",V.ref aA)]) o2 zaA;obtain⟨yaM,PF⟩:=waA _ _ yaM (R4 naM);obtain⟨yaP,PH⟩:=waA _ _ yaP (R4 naP);have k3:=λb u (hb:H b=some u) (hbo:b≠o)=>waA b u ((k2 b u hb hbo).1) hbo
  refine gq ?_;generalize upd (upd H2 aA (.dK [])) o (.ins A.aB dx [(ar "seats",V.int n),(ar "sitting",V.int 1),(ar "closed",V.bl false),(ar "made",V.ref aM),(ar "pile",V.ref aP),(ar "aside",V.ref aA)])=H3 at o3 k3 waA yaM yaP yaA ⊢;clear waA;refine⟨(sl 0),λaD zaD=>?_⟩
  have naD:o≠aD:=az o3 zaD;refine⟨_,rfl,o,A.aB,dx,_,rfl,(ao naD).trans o3,T.aq,T.fm,(by show 6 < 1000;decide),?_⟩
  have e4:dW (ar "decided") (V.ref aD) [(ar "seats",V.int n),(ar "sitting",V.int 1),(ar "closed",V.bl false),(ar "made",V.ref aM),(ar "pile",V.ref aP),(ar "aside",V.ref aA)]=[(ar "seats",V.int n),(ar "sitting",V.int 1),(ar "closed",V.bl false),(ar "made",V.ref aM),(ar "pile",V.ref aP),(ar "aside",V.ref aA),(ar "decided",V.ref aD)]:=eV (by show _∉[ar "seats",ar "sitting",ar "closed",ar "made",ar "pile",ar "aside"];trivial)
  rw[e4];refine aL λGq gq=>?_
  obtain⟨yaD,o4,_,waD⟩:=nxt (v:=.lst []) (fs':=[(ar "seats",V.int n),(ar "sitting",V.int 1),(ar "closed",V.bl false),(ar "made",V.ref aM),(ar "pile",V.ref aP),(ar "aside",V.ref aA),(ar "decided",V.ref aD)]) o3 zaD;obtain⟨yaM,PK⟩:=waD _ _ yaM (R4 naM);obtain⟨yaP,PL⟩:=waD _ _ yaP (R4 naP);obtain⟨yaA,PM⟩:=waD _ _ yaA (R4 naA);have k4:=λb u (hb:H b=some u) (hbo:b≠o)=>waD b u ((k3 b u hb hbo).1) hbo
  refine gq ?_;generalize upd (upd H3 aD (.lst [])) o (.ins A.aB dx [(ar "seats",V.int n),(ar "sitting",V.int 1),(ar "closed",V.bl false),(ar "made",V.ref aM),(ar "pile",V.ref aP),(ar "aside",V.ref aA),(ar "decided",V.ref aD)])=H4 at o4 k4 waD yaM yaP yaA yaD ⊢;clear waD;refineλaF zaF=>?_
  have naF:o≠aF:=az o4 zaF;refine⟨_,rfl,o,A.aB,dx,_,rfl,(ao naF).trans o4,T.aq,T.fY,(by show 7 < 1000;decide),?_⟩
  have e5:dW (ar "first_texts") (V.ref aF) [(ar "seats",V.int n),(ar "sitting",V.int 1),(ar "closed",V.bl false),(ar "made",V.ref aM),(ar "pile",V.ref aP),(ar "aside",V.ref aA),(ar "decided",V.ref aD)]=[(ar "seats",V.int n),(ar "sitting",V.int 1),(ar "closed",V.bl false),(ar "made",V.ref aM),(ar "pile",V.ref aP),(ar "aside",V.ref aA),(ar "decided",V.ref aD),(ar "first_texts",V.ref aF)]:=eV (by show _∉[ar "seats",ar "sitting",ar "closed",ar "made",ar "pile",ar "aside",ar "decided"];trivial)
  rw[e5];refine aL λGq gq=>?_
  obtain⟨yaF,o5,_,waF⟩:=nxt (v:=.dK []) (fs':=[(ar "seats",V.int n),(ar "sitting",V.int 1),(ar "closed",V.bl false),(ar "made",V.ref aM),(ar "pile",V.ref aP),(ar "aside",V.ref aA),(ar "decided",V.ref aD),(ar "first_texts",V.ref aF)]) o4 zaF;obtain⟨yaM,PN⟩:=waF _ _ yaM (R4 naM);obtain⟨yaP,PQ⟩:=waF _ _ yaP (R4 naP);obtain⟨yaA,PR⟩:=waF _ _ yaA (R4 naA);obtain⟨yaD,PU⟩:=waF _ _ yaD (R4 naD);have k5:=λb u (hb:H b=some u) (hbo:b≠o)=>waF b u ((k4 b u hb hbo).1) hbo
  refine gq ?_;generalize upd (upd H4 aF (.dK [])) o (.ins A.aB dx [(ar "seats",V.int n),(ar "sitting",V.int 1),(ar "closed",V.bl false),(ar "made",V.ref aM),(ar "pile",V.ref aP),(ar "aside",V.ref aA),(ar "decided",V.ref aD),(ar "first_texts",V.ref aF)])=H5 at o5 k5 waF yaM yaP yaA yaD yaF ⊢;clear waF;refineλaE zaE=>?_
  have naE:o≠aE:=az o5 zaE;refine⟨_,rfl,o,A.aB,dx,_,rfl,(ao naE).trans o5,T.aq,T.dJ,(by show 8 < 1000;decide),?_⟩
  have e6:dW (ar "edits_kept") (V.ref aE) [(ar "seats",V.int n),(ar "sitting",V.int 1),(ar "closed",V.bl false),(ar "made",V.ref aM),(ar "pile",V.ref aP),(ar "aside",V.ref aA),(ar "decided",V.ref aD),(ar "first_texts",V.ref aF)]=[(ar "seats",V.int n),(ar "sitting",V.int 1),(ar "closed",V.bl false),(ar "made",V.ref aM),(ar "pile",V.ref aP),(ar "aside",V.ref aA),(ar "decided",V.ref aD),(ar "first_texts",V.ref aF),(ar "edits_kept",V.ref aE)]:=eV (by show _∉[ar "seats",ar "sitting",ar "closed",ar "made",ar "pile",ar "aside",ar "decided",ar "first_texts"];trivial)
  rw[e6];refine aL λGq gq=>?_
  obtain⟨yaE,o6,_,waE⟩:=nxt (v:=.dK []) (fs':=[(ar "seats",V.int n),(ar "sitting",V.int 1),(ar "closed",V.bl false),(ar "made",V.ref aM),(ar "pile",V.ref aP),(ar "aside",V.ref aA),(ar "decided",V.ref aD),(ar "first_texts",V.ref aF),(ar "edits_kept",V.ref aE)]) o5 zaE;obtain⟨yaM,PV⟩:=waE _ _ yaM (R4 naM);obtain⟨yaP,PX⟩:=waE _ _ yaP (R4 naP);obtain⟨yaA,PY⟩:=waE _ _ yaA (R4 naA);obtain⟨yaD,PZ⟩:=waE _ _ yaD (R4 naD);obtain⟨yaF,P0⟩:=waE _ _ yaF (R4 naF);have k6:=λb u (hb:H b=some u) (hbo:b≠o)=>waE b u ((k5 b u hb hbo).1) hbo
  refine gq ?_;generalize upd (upd H5 aE (.dK [])) o (.ins A.aB dx [(ar "seats",V.int n),(ar "sitting",V.int 1),(ar "closed",V.bl false),(ar "made",V.ref aM),(ar "pile",V.ref aP),(ar "aside",V.ref aA),(ar "decided",V.ref aD),(ar "first_texts",V.ref aF),(ar "edits_kept",V.ref aE)])=H6 at o6 k6 waE yaM yaP yaA yaD yaF yaE ⊢;clear waE;refine⟨(sl 0),λaR zaR=>?_⟩
  have naR:o≠aR:=az o6 zaR;refine⟨_,rfl,o,A.aB,dx,_,rfl,(ao naR).trans o6,T.aq,T.cH,(by show 9 < 1000;decide),?_⟩
  have e7:dW (ar "rows") (V.ref aR) [(ar "seats",V.int n),(ar "sitting",V.int 1),(ar "closed",V.bl false),(ar "made",V.ref aM),(ar "pile",V.ref aP),(ar "aside",V.ref aA),(ar "decided",V.ref aD),(ar "first_texts",V.ref aF),(ar "edits_kept",V.ref aE)]=[(ar "seats",V.int n),(ar "sitting",V.int 1),(ar "closed",V.bl false),(ar "made",V.ref aM),(ar "pile",V.ref aP),(ar "aside",V.ref aA),(ar "decided",V.ref aD),(ar "first_texts",V.ref aF),(ar "edits_kept",V.ref aE),(ar "rows",V.ref aR)]:=eV (by show _∉[ar "seats",ar "sitting",ar "closed",ar "made",ar "pile",ar "aside",ar "decided",ar "first_texts",ar "edits_kept"];trivial)
  rw[e7];refine aL λGq gq=>?_
  obtain⟨yaR,o7,_,waR⟩:=nxt (v:=.lst []) (fs':=[(ar "seats",V.int n),(ar "sitting",V.int 1),(ar "closed",V.bl false),(ar "made",V.ref aM),(ar "pile",V.ref aP),(ar "aside",V.ref aA),(ar "decided",V.ref aD),(ar "first_texts",V.ref aF),(ar "edits_kept",V.ref aE),(ar "rows",V.ref aR)]) o6 zaR;obtain⟨yaM,P1⟩:=waR _ _ yaM (R4 naM);obtain⟨yaP,P2⟩:=waR _ _ yaP (R4 naP);obtain⟨yaA,P4⟩:=waR _ _ yaA (R4 naA);obtain⟨yaD,P5⟩:=waR _ _ yaD (R4 naD);obtain⟨yaF,P6⟩:=waR _ _ yaF (R4 naF);obtain⟨yaE,P7⟩:=waR _ _ yaE (R4 naE);have k7:=λb u (hb:H b=some u) (hbo:b≠o)=>waR b u ((k6 b u hb hbo).1) hbo
  refine gq ?_;generalize upd (upd H6 aR (.lst [])) o (.ins A.aB dx [(ar "seats",V.int n),(ar "sitting",V.int 1),(ar "closed",V.bl false),(ar "made",V.ref aM),(ar "pile",V.ref aP),(ar "aside",V.ref aA),(ar "decided",V.ref aD),(ar "first_texts",V.ref aF),(ar "edits_kept",V.ref aE),(ar "rows",V.ref aR)])=H7 at o7 k7 waR yaM yaP yaA yaD yaF yaE yaR ⊢;clear waR;refine q H7 λi c=>⟨aw (aw (aw (aw (aw (aw (aw (aw c o (some (i,Rl.ob))) aM (some (i,Rl.made))) aP (some (i,Rl.av))) aA (some (i,Rl.aG))) aD (some (i,Rl.decided))) aF (some (i,Rl.firsts))) aE (some (i,Rl.kept))) aR (some (i,Rl.rows)),λb u hb hbo=>⟨(k7 b u hb hbo).1,?_⟩,⟨dx,aM,aP,aA,aD,aF,aE,aR,[],[],[],[],[],?_⟩⟩
  ·rw[au (k7 b u hb hbo).2,au (k6 b u hb hbo).2,au (k5 b u hb hbo).2,au (k4 b u hb hbo).2,au (k3 b u hb hbo).2,au (k2 b u hb hbo).2,au (k1 b u hb hbo).2,au hbo]
  ·exact⟨by rw[au naR,au naE,au naF,au naD,au naA,au naP,au naM,aS],o7,⟨by rw[au P1,au PV,au PN,au PK,au PF,au PD,aS],yaM⟩,.nil,⟨by rw[au P2,au PX,au PQ,au PL,au PH,aS],yaP⟩,⟨by rw[au P4,au PY,au PR,au PM,aS],yaA⟩,.nil,⟨by rw[au P5,au PZ,au PU,aS],yaD⟩,.nil,⟨by rw[au P6,au P0,aS],yaF⟩,.nil,⟨by rw[au P7,aS],yaE⟩,.nil,⟨by rw[aS],yaR⟩⟩
end
def Rx (A:Adr)(i:Nat):Sp:=λvs H Q _=>∃(o:Addr) (n:Nat) (c:Col) (st:Ch) (x:Nat×Int×List Nat),vs=[.ref o,nV n]/\cV A i c H o st/\at1 n st.aG=some x /\
 ∀l u H',H l=none->H u=none->bc H H'->H' l=some (.lst (x.2.2.map nV))->H' u=some (.tup [nV n,.int x.2.1,.ref l])->Q (.ref u) H'
def dA (ns:List Nat):PyData:=.list (ns.map λn:Nat=>.int (n:Int))
def asD (x:Nat×Int×List Nat):PyData:=.tuple [.int (x.1:Int),.int x.2.1,dA x.2.2]
def dcD (x:Nat×Str):PyData:=.tuple [.int (x.1:Int),.str x.2]
def iT (st:Ch)(n:Int):Nat×Int×List Nat:=(at1 n.toNat st.aG).getD (0,0,[])
def stD (st:Ch)(ns:List Int):PyData:=.tuple [.int st.aQ,.bool st.closed,dA st.av,.list (ns.map λn=>asD (iT st n)),.list (st.decided.map dcD)]
def mnD:Mn->PyData
 | .mat tx=>.tuple [.str (nm 0),.list (tx.map SU)]
 | .chg e=>.tuple [.str (nm 1),edD e]
 | .mnd e=>.tuple [.str (nm 2),edD e]
 | .off u=>.tuple [.str (nm 3),.int u]
 | .cls=>.tuple [.str (nm 4)]
 | .lay=>.tuple [.str (nm 5)]
 | .rst=>.tuple [.str (nm 6)]
 | .pnt z=>.tuple [.str (nm 7),.str z]
theorem FT {α:Type}{K:bo}{H:Hp}{f:α->PyData}{g:α->V}:∀ {xs:List α},(∀x∈xs,DV K H (f x) (g x))->DVs K H (xs.map f) (xs.map g)
 |[],_=>by unfold DVs;rfl
 |x::xs,h=>by
  rw[gr,gr];unfold DVs;exact⟨g x,xs.map g,rfl,h x eg,FT λy hy=>h y (km _ hy)⟩
theorem fb {K:bo}{H:Hp}{a:Addr}{ns:List Nat}(h:SqL K H a (ns.map nV)):DV K H (dA ns) (.ref a):=by
 unfold dA DV;exact⟨a,_,rfl,h,FT (f:=λn:Nat=>PyData.int (n:Int)) (g:=nV) λn _=>by unfold DV;rfl⟩
theorem br.dvs {α:Type}{K:bo}{H:Hp}{f:α->PyData}{R:α->V->Prop}(g:∀x v,R x v->DV K H (f x) v):∀ {xs:List α} {vs:List V},br R xs vs->DVs K H (xs.map f) vs
 |_,_,.nil=>by unfold DVs;rfl
 |_,_,.cons h t=>by
  rw[gr];unfold DVs;exact⟨_,_,rfl,g _ _ h,t.dvs g⟩
theorem br.mapR {α β γ:Type}{R:α->γ->Prop}{f:β->γ}:∀ {xs:List α} {ys:List β},br (λa b=>R a (f b)) xs ys->br R xs (ys.map f)
 |_,_,.nil=>.nil
 |_,_,.cons h t=>.cons h t.mapR
def yN (H:Hp)(R:Addr)(x:Nat×Int×List Nat)(v:V):Prop:=∃u l,v=.ref u/\u≠R/\l≠R/\H u=some (.tup [nV x.1,.int x.2.1,.ref l])/\H l=some (.lst (x.2.2.map nV))
theorem yN.same {H H':Hp}{R:Addr}{x:Nat×Int×List Nat}{v:V}(s:bc H H'):yN H R x v->yN H' R x v
 |⟨u,l,e,h1,h2,h3,h4⟩=>⟨u,l,e,h1,h2,s _ _ h3,s _ _ h4⟩
theorem yN.upd {H:Hp}{R:Addr}{o:HO}{x:Nat×Int×List Nat}{v:V}:yN H R x v->yN (L2.upd H R o) R x v
 |⟨u,l,e,h1,h2,h3,h4⟩=>⟨u,l,e,h1,h2,(ao h1).trans h3,(ao h2).trans h4⟩
theorem yN.dv {K:bo}{H:Hp}{R:Addr}{x:Nat×Int×List Nat}{v:V}:yN H R x v->DV K H (asD x) v
 |⟨u,l,e,h1,h2,h3,h4⟩=>by
  unfold asD DV;refine⟨u,_,e,SqT.of h3,?_⟩;unfold DVs;refine⟨_,_,rfl,by unfold DV;rfl,?_⟩
  unfold DVs;refine⟨_,_,rfl,by unfold DV;rfl,?_⟩
  unfold DVs;exact⟨_,_,rfl,fb (SqL.of h4),by unfold DVs;rfl⟩
section
variable{P:kr}{w:World}{K:bo}{mg:Str->Option Value}{base:Heap}{A:Adr}
theorem yO (T:Txt w.params K mg A){i:Nat}:aX P w K mg base CX0 1 A.d4 A.dI ["self","number"] (Rx A i):=by
 refine T.n9.ok gg (λvs H Q E h=>?_) (λcdv A' outer s H vs Q E hr h=>?_)
 ·obtain⟨o,n,c,st,x,rfl,_⟩:=h;rfl
 ·obtain⟨o,n,c,st,x,rfl,hc,hx,q⟩:=h;obtain⟨dx,aM,aP,aA,aD,aF,aE,aR,ms,ds,ws,fs,es,X⟩:=hc.ex;have hu1:=hr.u1;refine⟨_,(ah (aZ (i:=2) gg.nd rfl (ma rfl) (aY hu1 (a9 (pv 0) rfl) (pv 1) (λ_ _=>rfl)))
 (ai (aI (a8 (aa (pv 1) (aa (aH aK (pv 2) ag (λ_ _=>rfl)) (aa (bD bA (by rfl) T.eQ cW (aa (aH aK (pv 2) ag (λ_ _=>rfl)) af)) af))))))),?_⟩
  try dsimp only[bt]
  refine aL λGq gq=>?_
  obtain⟨t,p,hv,ht,hl⟩:=X.waitOf hx;refine gq ?_;refine⟨_,rfl,o,A.aB,dx,_,.ref aA,rfl,X.ob,T.aq,T.bT,gH,_,rfl,aA,_,rfl,.inl ⟨_,ki (n:Int),.inl X.aG.2,rfl,hv.symm⟩,?_⟩;refine⟨_,rfl,_,rfl,t,_,_,_,rfl,rfl,ht.sq,rfl,_,rfl,t,_,_,_,rfl,rfl,ht.sq,rfl,p,_,rfl,.inl (SqL.of hl.2),λl hl0=>⟨(sl 3),λu hu=>?_⟩⟩
  have nul:u≠l:=λz=>by rw[z,ae]at hu;cases hu
  have hu0:H u=none:=by rw[ao nul]at hu;exact hu
  exact q l u _ hl0 hu0 ((ax hl0).new hu) ((ao (R4 nul)).trans ae) ae
theorem N1 {c:Col}{H:Hp}{v:V}{t:Addr}:∀ {m:Mn},1<=m.k->m.Val c H v->SqT K H t (rowOf m.k v)->DV K H (mnD m) (.ref t)
 | .mat _,h,_,_=>absurd h (by simp[Mn.k])
 | .chg e,_,⟨te,ev,hte⟩,ht=>by
  subst ev;unfold mnD DV;refine⟨t,_,rfl,ht,?_⟩;unfold DVs;refine⟨_,_,rfl,by unfold DV;rfl,?_⟩
  unfold DVs;exact⟨_,_,rfl,Ew e hte.sq,by unfold DVs;rfl⟩
 | .mnd e,_,⟨te,ev,hte⟩,ht=>by
  subst ev;unfold mnD DV;refine⟨t,_,rfl,ht,?_⟩;unfold DVs;refine⟨_,_,rfl,by unfold DV;rfl,?_⟩
  unfold DVs;exact⟨_,_,rfl,Ew e hte.sq,by unfold DVs;rfl⟩
 | .off u,_,ev,ht=>by
  have ev':v=.int u:=ev;subst ev';unfold mnD DV;refine⟨t,_,rfl,ht,?_⟩;unfold DVs;refine⟨_,_,rfl,by unfold DV;rfl,?_⟩
  unfold DVs;exact⟨_,_,rfl,by unfold DV;rfl,by unfold DVs;rfl⟩
 | .pnt z,_,ev,ht=>by
  have ev':v=.str z:=ev;subst ev';unfold mnD DV;refine⟨t,_,rfl,ht,?_⟩;unfold DVs;refine⟨_,_,rfl,by unfold DV;rfl,?_⟩
  unfold DVs;exact⟨_,_,rfl,by unfold DV;rfl,by unfold DVs;rfl⟩
 | .cls,_,_,ht=>by
  unfold mnD DV;refine⟨t,_,rfl,ht,?_⟩;unfold DVs;exact⟨_,_,rfl,by unfold DV;rfl,by unfold DVs;rfl⟩
 | .lay,_,_,ht=>by
  unfold mnD DV;refine⟨t,_,rfl,ht,?_⟩;unfold DVs;exact⟨_,_,rfl,by unfold DV;rfl,by unfold DVs;rfl⟩
 | .rst,_,_,ht=>by
  unfold mnD DV;refine⟨t,_,rfl,ht,?_⟩;unfold DVs;exact⟨_,_,rfl,by unfold DV;rfl,by unfold DVs;rfl⟩
end
def bO (st:Ch):R.cK->Rs×Ch
 | .nums kd ns=>if kd=ar "vote" then jE st (ns.getD 0 0) (ns.getD 1 0) else if kd=ar "drop" then jT st else if kd=ar "take" then stepT st (ns.getD 0 0).toNat else jU st (cT (.nums kd ns)) (R.lQ (.nums kd ns))
 |d=>jU st (cT d) (R.lQ d)
inductive oE:R.cK->Prop
 |Bo {a b:Int}:(0<=a/\a < 10 ^ 10)->(0<=b/\b < 10 ^ 10)->oE (.nums (ar "vote") [a,b])
 |drop:oE (.nums (ar "drop") [])
 |take {z:Int}:-1<=z->z < 10 ^ 10->oE (.nums (ar "take") [z])
 |move {d:R.cK}:Bn d->oE d
theorem gK {st:Ch}{a b:Int}:bO st (.nums (ar "vote") [a,b])=jE st a b:=by rw[bO,if_pos rfl];rfl
theorem gL {st:Ch}:bO st (.nums (ar "drop") [])=jT st:=by rw[bO,if_neg (by trivial),if_pos rfl]
theorem gM {st:Ch}{z:Int}:bO st (.nums (ar "take") [z])=stepT st z.toNat:=by
 rw[bO,if_neg (by trivial),if_neg (by trivial),if_pos rfl]
 rfl
theorem gN {st:Ch}{d:R.cK}(h:Bn d):bO st d=jU st (cT d) (R.lQ d):=by
 cases d with
 |nums kd ns =>
  rcases pB h.1 with ⟨u,rfl,rfl⟩ | ⟨rfl,rfl⟩ | ⟨rfl,rfl⟩ | ⟨rfl,rfl⟩ <;> rw[bO,if_neg (by trivial),if_neg (by trivial),if_neg (by trivial)]
 |_=>rfl
theorem Inv.bO {N:Nat}{st:Ch}(I:Inv N st)(hN:N<=800){d:R.cK}(h:oE d):Inv (N+3) (bO st d).2:=by
 cases h with
 |Bo=>rw[gK];exact I.jE hN _ _
 |drop=>rw[gL];exact I.jT
 |take=>rw[gM];exact I.stepT _
 |move h=>rw[gN h];exact I.jU (EF h) _
theorem bp {W:Option (Nat×Rl)->Prop}{c c':Col}{H H':Hp}(s:Step W c c' H H'){a:Addr}{v:HO}(h:c a=none)(hv:H a=some v):c' a=none/\H' a=some v:=by
 have hn:¬W (c a):=by rw[h];exact s.nn
 exact⟨by rw[s.col a _ hv hn];exact h,s.keep _ _ hv hn⟩
def mdF (v0 v1 v2 v3 v4 v5:V):List (Key×V):=[(sr (ar "sitting"),v0),(sr (ar "closed"),v1),(sr (ar "pile"),v2),(sr (ar "aside"),v3),(sr (ar "decided"),v4),(sr (ar "motions"),v5)]
theorem key_ne {a b:Str}(h:a≠b){v:V}:¬((sr a,v):Key×V).1=(sr b:Key):=λz=>h (Sum.inr.inj z)
theorem yb {kvs:List (Key×V)}{k:Key}{v y:V}(h:et kvs k=some v):putK kvs k y=kvs.map (λkv=>if kv.1=k then (kv.1,y) else kv):=by
 unfold putK;rw[nv,h];exact if_pos rfl
section
variable{v0 v1 v2 v3 v4 v5 y:V}
theorem jW:et (mdF v0 v1 v2 v3 v4 v5) (sr (ar "sitting"))=some v0:=df rfl
theorem yc:et (mdF v0 v1 v2 v3 v4 v5) (sr (ar "closed"))=some v1:=(bF (key_ne (by trivial))).trans (df rfl)
theorem oF:et (mdF v0 v1 v2 v3 v4 v5) (sr (ar "pile"))=some v2:=(bF (key_ne (by trivial))).trans ((bF (key_ne (by trivial))).trans (df rfl))
theorem ug:et (mdF v0 v1 v2 v3 v4 v5) (sr (ar "aside"))=some v3:=(bF (key_ne (by trivial))).trans ((bF (key_ne (by trivial))).trans ((bF (key_ne (by trivial))).trans (df rfl)))
theorem uN:et (mdF v0 v1 v2 v3 v4 v5) (sr (ar "decided"))=some v4:=(bF (key_ne (by trivial))).trans ((bF (key_ne (by trivial))).trans ((bF (key_ne (by trivial))).trans ((bF (key_ne (by trivial))).trans (df rfl))))
theorem uO:et (mdF v0 v1 v2 v3 v4 v5) (sr (ar "motions"))=some v5:=(bF (key_ne (by trivial))).trans ((bF (key_ne (by trivial))).trans ((bF (key_ne (by trivial))).trans ((bF (key_ne (by trivial))).trans ((bF (key_ne (by trivial))).trans (df rfl)))))
theorem CV:putK (mdF v0 v1 v2 v3 v4 v5) (sr (ar "sitting")) y=mdF y v1 v2 v3 v4 v5:=by
 rw[yb jW];unfold mdF;simp only[gr,Sq,if_neg (show ¬(sr (ar "closed"):Key)=sr (ar "sitting") by trivial),if_neg (show ¬(sr (ar "pile"):Key)=sr (ar "sitting") by trivial),if_neg (show ¬(sr (ar "aside"):Key)=sr (ar "sitting") by trivial),if_neg (show ¬(sr (ar "decided"):Key)=sr (ar "sitting") by trivial),if_neg (show ¬(sr (ar "motions"):Key)=sr (ar "sitting") by trivial),if_true]
theorem yd:putK (mdF v0 v1 v2 v3 v4 v5) (sr (ar "closed")) y=mdF v0 y v2 v3 v4 v5:=by
 rw[yb yc];unfold mdF;simp only[gr,Sq,if_neg (show ¬(sr (ar "sitting"):Key)=sr (ar "closed") by trivial),if_neg (show ¬(sr (ar "pile"):Key)=sr (ar "closed") by trivial),if_neg (show ¬(sr (ar "aside"):Key)=sr (ar "closed") by trivial),if_neg (show ¬(sr (ar "decided"):Key)=sr (ar "closed") by trivial),if_neg (show ¬(sr (ar "motions"):Key)=sr (ar "closed") by trivial),if_true]
theorem ye:putK (mdF v0 v1 v2 v3 v4 v5) (sr (ar "pile")) y=mdF v0 v1 y v3 v4 v5:=by
 rw[yb oF];unfold mdF;simp only[gr,Sq,if_neg (show ¬(sr (ar "sitting"):Key)=sr (ar "pile") by trivial),if_neg (show ¬(sr (ar "closed"):Key)=sr (ar "pile") by trivial),if_neg (show ¬(sr (ar "aside"):Key)=sr (ar "pile") by trivial),if_neg (show ¬(sr (ar "decided"):Key)=sr (ar "pile") by trivial),if_neg (show ¬(sr (ar "motions"):Key)=sr (ar "pile") by trivial),if_true]
end
def MnT (c:Col)(H:Hp)(m:Mn)(t:Addr):Prop:=c t=none/\∃v,H t=some (.tup (rowOf m.k v))/\m.Val c H v
theorem MnT.step {W:Option (Nat×Rl)->Prop}{c c':Col}{H H':Hp}{m:Mn}{t:Addr}(s:Step W c c' H H')(h:MnT c H m t):MnT c' H' m t:=by
 obtain⟨n,v,h,hv⟩:=h;have hn:¬W (c t):=by rw[n];exact s.nn
 exact⟨by rw[s.col t _ h hn];exact n,v,s.keep _ _ h hn,hv.step s⟩
def dN (st:Ch)(n:Nat):List Ed:=((at1 n st.kept).map (·.2)).getD []
def yf (st:Ch)(n:Nat):Option (List Str):=(at1 n st.firsts).map (·.2)
abbrev Ent:=Nat×Mn×List Ed×Option (List Str)
def eG (st:Ch)(n:Nat):Ent:=(n,st.mo n,dN st n,yf st n)
def fq (st:Ch):List Ent:=(Sk 1 st.made.length).map (eG st)
abbrev N3 (i:Nat)(c:Col)(H:Hp)(x:Ent)(v:V):Prop:=∃(p t1 t2 k:Addr) (ts:List Addr),v=.ref p/\LstAt i c H (.b5 x.1) p [.ref t1,.ref t2,.ref k]/\MnT c H x.2.1 t1/\(∀tx,x.2.2.2=some tx->MnT c H (.mat tx) t2)/\LstAt i c H (.d9 x.1) k (ts.map V.ref)/\br (λe t=>TupAt c H t (dS e)) x.2.2.1 ts
structure MdX (i:Nat)(c:Col)(H:Hp)(m:Addr)(st:Ch)(aP aA aD aM:Addr)(ds:List Addr)(ws es:List V):Prop where
 co:c m=some (i,.ob)
 ob:H m=some (.dK (mdF (.int st.aQ) (.bl st.closed) (.ref aP) (.ref aA) (.ref aD) (.ref aM)))
 av:LstAt i c H .av aP (st.av.map nV)
 aG:gh i c H .aG aA ((st.aG.map (·.1)).zip ws)
 wait:br (FH i c H) st.aG ws
 dec:LstAt i c H .decided aD (ds.map V.ref)
 iy:br (λ(x:Nat×Str) t=>TupAt c H t [nV x.1,.str x.2]) st.decided ds
 ia:LstAt i c H .made aM es
 ent:br (N3 i c H) (fq st) es
structure fv (i:Nat)(c:Col)(H:Hp)(m:Addr)(st:Ch):Prop where
 ex:∃(aP aA aD aM:Addr) (ds:List Addr) (ws es:List V),MdX i c H m st aP aA aD aM ds ws es
section
variable{i:Nat}{p:Rl->Bool}{c c':Col}{H H':Hp}{m aP aA aD aM:Addr}{st:Ch}{ds:List Addr}{ws es:List V}
theorem MdX.at (X:MdX i c H m st aP aA aD aM ds ws es):fv i c H m st:=⟨_,_,_,_,_,_,_,X⟩
theorem CW {xs:List Ent}{vs:List V}(h1:∀x∈xs,p (.b5 x.1)=false)(h2:∀x∈xs,p (.d9 x.1)=false)(s:Step (Wr i p) c c' H H')(z:br (N3 i c H) xs vs):br (N3 i c' H') xs vs :=
 z.imp_mem λx m v ⟨q,t1,t2,k,ts,e,z1,z2,z3,z4,z5⟩=>⟨q,t1,t2,k,ts,e,z1.kp (h1 x m) s,z2.step s,λtx ht=>(z3 tx ht).step s,z4.kp (h2 x m) s,z5.imp λ_ _ y=>y.step s⟩
theorem MdX.free {W:Option (Nat×Rl)->Prop}(h:∀r,¬W (some (i,r)))(s:Step W c c' H H')(X:MdX i c H m st aP aA aD aM ds ws es):MdX i c' H' m st aP aA aD aM ds ws es:=by
 have hn:¬W (c m):=by rw[X.co];exact h _
 refine⟨by rw[s.col m _ X.ob hn];exact X.co,s.keep _ _ X.ob hn,X.av.keep (h _) s,X.aG.keep (h _) s,X.wait.imp ?_,X.dec.keep (h _) s,f7 s X.iy,X.ia.keep (h _) s,X.ent.imp ?_⟩
 ·rintro x v ⟨t,p,e,z1,z2⟩;exact⟨t,p,e,z1.step s,z2.keep (h _) s⟩
 ·rintro x v ⟨q,t1,t2,k,ts,e,z1,z2,z3,z4,z5⟩;exact⟨q,t1,t2,k,ts,e,z1.keep (h _) s,z2.step s,λtx ht=>(z3 tx ht).step s,z4.keep (h _) s,z5.imp λ_ _ y=>y.step s⟩
theorem MdX.same (s:bc H H')(X:MdX i c H m st aP aA aD aM ds ws es):MdX i c H' m st aP aA aD aM ds ws es:=X.free (W:=λ_=>False) (λ_=>id) (Step.same id s)
theorem MdX.cl (s:bc H H')(X:MdX i c H m st aP aA aD aM ds ws es):MdX i (bz c H) H' m st aP aA aD aM ds ws es:=X.free (W:=λ_=>False) (λ_=>id) (Step.cl id s)
theorem fv.free {W:Option (Nat×Rl)->Prop}(h:∀r,¬W (some (i,r)))(s:Step W c c' H H')(X:fv i c H m st):fv i c' H' m st:=by
 obtain⟨aP,aA,aD,aM,ds,ws,es,X⟩:=X.ex;exact(X.free h s).at
theorem MdX.attr (X:MdX i c H m st aP aA aD aM ds ws es)(n:Int)(b:Bool) :
  Step (Wr i pOb) c c H (upd H m (.dK (mdF (.int n) (.bl b) (.ref aP) (.ref aA) (.ref aD) (.ref aM))))/\MdX i c (upd H m (.dK (mdF (.int n) (.bl b) (.ref aP) (.ref aA) (.ref aD) (.ref aM)))) m { st with aQ:=n,closed:=b } aP aA aD aM ds ws es:=by
 have s:Step (Wr i pOb) c c H (upd H m (.dK (mdF (.int n) (.bl b) (.ref aP) (.ref aA) (.ref aD) (.ref aM)))):=Step.upd Wr.nn (Wr.yes X.co rfl);exact⟨s,X.co,ae,X.av.kp rfl s,X.aG.kp rfl s,hU (λ_ _=>rfl) s X.wait,X.dec.kp rfl s,f7 s X.iy,X.ia.kp rfl s,CW (λ_ _=>rfl) (λ_ _=>rfl) s X.ent⟩
def P8:Rl->Bool | .av=>true | .decided=>true | _=>false
theorem MdX.pop (X:MdX i c H m st aP aA aD aM ds ws es){pre:List Nat}{n:Nat}{t:Addr}{wd:Str}(ht:(upd H aP (.lst (pre.map nV))) t=none) :
  Step (Wr i P8) c (aw c t none) H (upd (upd (upd H aP (.lst (pre.map nV))) t (.tup [nV n,.str wd])) aD (.lst (ds.map V.ref++[.ref t]))) /\
  MdX i (aw c t none) (upd (upd (upd H aP (.lst (pre.map nV))) t (.tup [nV n,.str wd])) aD (.lst (ds.map V.ref++[.ref t]))) m (st.popped pre n wd) aP aA aD aM (ds++[t]) ws es:=by
 have nt:∀ {a:Addr} {v:HO},H a=some v->a≠t:=by
  intro a v e z;subst z
  by_cases y:a=aP
  ·subst y;rw[ae]at ht;cases ht
  ·rw[ao y,e]at ht;cases ht
 have nPD:aD≠aP:=cE X.dec.1 X.av.1 (λz=>nomatch z)
 have s:Step (Wr i P8) c (aw c t none) H (upd (upd (upd H aP (.lst (pre.map nV))) t (.tup [nV n,.str wd])) aD (.lst (ds.map V.ref++[.ref t]))) :=
  ((Step.upd Wr.nn (Wr.yes X.av.1 rfl)).trans (Step.new Wr.nn ht)).trans (Step.upd Wr.nn ⟨.decided,by rw[au (nt X.dec.2)];exact X.dec.1,rfl⟩)
 have htt:TupAt (aw c t none) (upd (upd (upd H aP (.lst (pre.map nV))) t (.tup [nV n,.str wd])) aD (.lst (ds.map V.ref++[.ref t]))) t [nV n,.str wd]:=⟨aS,.inl ((ao (nt X.dec.2).symm).trans ae)⟩;have kp:LstAt i (aw c t none) (upd (upd (upd H aP (.lst (pre.map nV))) t (.tup [nV n,.str wd])) aD (.lst (ds.map V.ref++[.ref t]))) .av aP (pre.map nV) :=
  ⟨by rw[au (nt X.av.2)];exact X.av.1,by rw[ao nPD.symm,ao (nt X.av.2),ae]⟩
 have kd:LstAt i (aw c t none) (upd (upd (upd H aP (.lst (pre.map nV))) t (.tup [nV n,.str wd])) aD (.lst (ds.map V.ref++[.ref t]))) .decided aD ((ds++[t]).map V.ref) :=
  ⟨by rw[au (nt X.dec.2)];exact X.dec.1,by rw[ae,kg];rfl⟩
 have k:=jx rfl s X.co X.ob;exact⟨s,k.1,k.2,kp,X.aG.kp rfl s,hU (λ_ _=>rfl) s X.wait,kd,(f7 s X.iy).snoc htt,X.ia.kp rfl s,CW (λ_ _=>rfl) (λ_ _=>rfl) s X.ent⟩
theorem MdX.gs (X:MdX i c H m st aP aA aD aM ds ws es):qj H m (V.str (ar "sitting")) (some (.int st.aQ)):=.inl ⟨_,sr (ar "sitting"),.inl X.ob,rfl,jW.symm⟩
theorem MdX.gc (X:MdX i c H m st aP aA aD aM ds ws es):qj H m (V.str (ar "closed")) (some (.bl st.closed)):=.inl ⟨_,sr (ar "closed"),.inl X.ob,rfl,yc.symm⟩
theorem MdX.gp (X:MdX i c H m st aP aA aD aM ds ws es):qj H m (V.str (ar "pile")) (some (.ref aP)):=.inl ⟨_,sr (ar "pile"),.inl X.ob,rfl,oF.symm⟩
theorem MdX.ga (X:MdX i c H m st aP aA aD aM ds ws es):qj H m (V.str (ar "aside")) (some (.ref aA)):=.inl ⟨_,sr (ar "aside"),.inl X.ob,rfl,ug.symm⟩
theorem MdX.gd (X:MdX i c H m st aP aA aD aM ds ws es):qj H m (V.str (ar "decided")) (some (.ref aD)):=.inl ⟨_,sr (ar "decided"),.inl X.ob,rfl,uN.symm⟩
theorem MdX.gm (X:MdX i c H m st aP aA aD aM ds ws es):qj H m (V.str (ar "motions")) (some (.ref aM)):=.inl ⟨_,sr (ar "motions"),.inl X.ob,rfl,uO.symm⟩
end
theorem JD (xs:List V)(k:Nat):dX xs none (some (k:Int))=xs.take k:=by
 unfold dX;rw[HT.oQ,HT.BD,List.drop_zero,Nat.sub_zero,<-List.take_eq_take_min]
theorem Lr {xs:List V}{lo hi:Option Int}{x:V}(h:x∈dX xs lo hi):x∈xs:=by
 unfold dX at h;exact List.mem_of_mem_drop (List.mem_of_mem_take h)
abbrev qU:Str:=ar "abcdefghijklmnopqrstuvwxyzAZ09-#./"
theorem JE:qU.length=34:=by trivial
theorem zU:qU.cps.toList.length=34:=by trivial
theorem zV:∀c∈qU.cps.toList,R.Sign c:=by trivial
theorem Ls:∀c∈qU.cps.toList.take 33,c≠47:=by trivial
theorem Ry {i:Int}(h0:0<=i)(h1:i < 34):∃c,atI qU.cps.toList i=some c/\R.Sign c:=by
 obtain⟨c,hc,hm⟩:=L0 (xs:=qU.cps.toList) (i:=i) (n:=34) zU h0 (by omega)
 exact⟨c,hc,zV c hm⟩
theorem Rz {i:Int}(h0:0<=i)(h1:i < 33):∃c,atI qU.cps.toList i=some c/\R.Sign c/\c≠47:=by
 obtain⟨n,rfl⟩:∃n:Nat,i=(n:Int):=⟨i.toNat,by omega⟩
 have hn:n < 33:=by omega
 have hl:=zU;have e:qU.cps.toList[n]?=some qU.cps.toList[n]:=tu (by omega)
 refine⟨_,cq e,zV _ (List.getElem_mem _),Ls _ ?_⟩;have e2:(qU.cps.toList.take 33)[n]?=some qU.cps.toList[n]:=by rw[List.getElem?_take,if_pos hn];exact e
 exact RV e2
structure Wd (n:Nat)(x:Str):Prop where
 len:x.length<=n
 hd:∃d r,x.cps.toList=d::r/\d≠47
 sgn:∀c∈x.cps.toList,R.Sign c
theorem N4 {c:Nat}(h:R.Sign c)(n:c≠47):Wd 1 ⟨#[c]⟩:=⟨gn 1,⟨c,[],rfl,n⟩,λd hd=>by
 have:d=c:=by simpa using hd
 rw[this];exact h⟩
theorem N5 {x:Str}{n c:Nat}(w:Wd n x)(h:R.Sign c):Wd (n+1) (x++⟨#[c]⟩):=by
 obtain⟨d,r,e,hd⟩:=w.hd;refine⟨?_,⟨d,r++[c],?_,hd⟩,λy hy=>?_⟩
 ·have:=w.len;rw[len_app];show _+1<=_;omega
 ·rw[dB,e];rfl
 ·rw[dB,List.mem_append]at hy;rcases hy with hy | hy
  ·exact w.sgn y hy
  ·have:y=c:=by simpa using hy
   rw[this];exact h
theorem Wd.word {n:Nat}{x:Str}(w:Wd n x)(h:n<=20):R.kH x:=by
 obtain⟨d,r,e,hd⟩:=w.hd;have hl:x.cps.toList.length=x.length:=by rw[TL];rfl
 refine⟨?_,ku w.len h,w.sgn,λz=>?_⟩
 ·rw[<-hl,e];simp
 ·rw[z]at e;have:(ar "/").cps.toList=[47]:=by trivial
  rw[this]at e;cases e;exact hd rfl
def JF:Sp:=λvs H Q _=>∃c:Int,vs=[.int c]/\∀x,R.kH x->Q (.str x) H
def yg:Sp:=λvs H Q _=>∃c:Int,vs=[.int c]/\∀(ws:List Str) (H':Hp),R.xT 12 ws->bc H H'->Q (.str (ky R.bl1 ws)) H'
def N6 (K:bo):Sp:=λvs H Q _=>∃(a:Addr) (ns:List Int) (k:Int),vs=[.ref a,.int k]/\SqL K H a (ns.map V.int)/\0<=k/\∀z:Int,Q (.int z) H
def JG:Sp:=λvs H Q _=>∃(c n:Int) (z:Str),vs=[.int c,.int n,.str z]/\0<=n/\n<=900/\∀(k:Nat) (j:Int) (t:Addr) (H':Hp),(k=0\/k=1\/k=2)->-1<=j->j<=1000->bc H H'->H t=none->H' t=some (.tup (R.edR k j z))->Q (.ref t) H'
def JH:Sp:=λvs H Q _=>∃k:Nat,k < 8/\vs=[.str (nm k)]/\∀H',bc H H'->Q (.int (k:Int)) H'
def qV:List Str:=[ar "matter",ar "change",ar "mend",ar "put off",ar "close",ar "lay",ar "rest",ar "point"]
theorem CY:∀k,k < 8->qV[k]?=some (nm k)/\∀m,m < k->qV[m]?≠some (nm k):=by trivial
section
variable{P:kr}{w:World}{K:bo}{mg:Str->Option Value}{base:Heap}{A:Adr}
theorem Bp (T:Txt w.params K mg A):aX P w K mg base CX0 1 A.tq A.mi ["_law_script","_law_k"] (N6 K):=by
 refine T.uJ.ok AK (λvs H Q E h=>?_) (λcdv A' outer s H vs Q E hr h=>?_)
 ·obtain⟨a,ns,k,rfl,_⟩:=h;rfl
 ·obtain⟨a,ns,k,rfl,hS,h0,q⟩:=h;refine⟨_,(ah (a4 (aC nh (pv 1) (bQ b9 (by rfl) T.mY ic (aa (pv 0) af)) (aN _))
 (ai (aI (aH a7 (pv 0) (pv 1) (λ_ _=>rfl))))
 aJ)
 (ai (aI ag))),?_⟩
  try dsimp only[bt]
  refine⟨_,rfl,_,rfl,a,_,rfl,.inl hS,_,_,rfl,rfl,_,rfl,dc (λe=>?_) (λ_=>q 0)⟩
  refine aL λGq gq=>?_
  have e':k < ((ns.map V.int).length:Int):=of_decide_eq_true e;rw[ba]at e';obtain⟨c,hc,hm⟩:=L0 (xs:=ns.map V.int) (i:=k) (n:=ns.length) (ba _) h0 e';obtain⟨z,_,rfl⟩:=List.mem_map.mp hm;refine gq ?_;exact⟨_,rfl,_,rfl,a,_,_,_,rfl,rfl,hS,hc,q z⟩
theorem zW (T:Txt w.params K mg A):aX P w K mg base CX0 1 A.D6 A.tw ["_law_cell"] JF:=by
 refine T.xb.ok k9 (λvs H Q E h=>?_) (λcdv A' outer s H vs Q E hr h=>?_)
 ·obtain⟨c,rfl,_⟩:=h;rfl
 ·obtain⟨c,rfl,k⟩:=h;refine⟨_,(ah (aZ (i:=1) k9.nd rfl (ma rfl) aj)
 (ah (aZ (i:=2) k9.nd rfl (ma rfl) (aH DE (pv 1) (aW bH (pv 0) ag) (λ_ _=>rfl)))
 (ah (ng Tj rfl (oN rfl T.vx (aa (aW bH (aW bU (pv 0) ag) ag) af)) (ck (i:=3) k9.nd rfl (ma rfl))
 (ai (aZ (i:=2) k9.nd rfl (ma rfl) (aW Dw (pv 2) (aH DE (pv 1) (aW bH (aW bU (pv 0) (aW sJ ag (aW cF ag (aW sJ ag (pv 3))))) ag) (λ_ _=>rfl))))))
 (ai (aI (pv 2)))))),?_⟩
  try dsimp only[bt]
  refine aL λGq gq=>?_
  have s34:qU.length<=fe:=by rw[JE];decide
  obtain⟨d,hd,hd',RA⟩:=Rz (i:=c % 33) (by omega) (by omega)
  refine gq ?_;refine⟨_,rfl,_,rfl,_,_,rfl,rfl,(by show (0:Int) < 33;decide),qU,_,d,rfl,rfl,s34,hd,?_⟩
  refine⟨_,rfl,_,_,rfl,rfl,⟨by decide,by decide⟩,_,_,rfl,rfl,(by show (0:Int) < 3;decide),_,rfl,by omega,by omega,?_⟩
  refine yQ (lo:=0) (n:=(c / 33 % 3).toNat) (λi σ H'=>H'=H/\∃x kv,σ=[some (.int c),some (.str qU),some (.str x),kv]/\Wd (1+i) x) ⟨rfl,_,_,rfl,N4 hd' RA⟩ ?_ ?_
  ·rintro i σ H' hi ⟨rfl,x,kv,rfl,wx⟩;refine aL λGq gq=>?_
   obtain⟨d2,hd2,RB⟩:=Ry (i:=c / (99 * (1+33 * (0+(i:Int)))) % 34) (by omega) (by omega)
   refine gq ?_;refine⟨_,rfl,_,rfl,_,rfl,_,rfl,_,_,rfl,rfl,.inl ⟨by decide,by decide⟩,_,_,rfl,rfl,_,_,rfl,rfl,.inl ⟨by decide,by decide⟩,_,_,rfl,rfl,⟨by omega,by omega⟩,_,_,rfl,rfl,(by show (0:Int) < 34;decide),qU,_,d2,rfl,rfl,s34,hd2,_,_,rfl,rfl,?_,rfl,_,_,rfl,?_⟩
   ·have:=wx.len;rw[show (⟨#[d2]⟩:Str).length=1 from rfl]
    have:i < 3:=by omega
    exact ku (by omega:x.length+1<=10) (by decide)
   ·exact N5 wx RB
  ·rintro σ H' ⟨rfl,x,kv,rfl,wx⟩;exact⟨_,rfl,k x (wx.word (by omega))⟩
theorem CZ (T:Txt w.params K mg A):aX P w K mg base CX0 2 A.rN A.jO ["_law_cell"] yg:=by
 refine T.mz.ok gZ (λvs H Q E h=>?_) (λcdv A' outer s H vs Q E hr h=>?_)
 ·obtain⟨c,rfl,_⟩:=h;rfl
 ·obtain⟨c,rfl,k⟩:=h;refine⟨_,(ah (aZ (i:=1) gZ.nd rfl (ma rfl) (bq af))
 (ah (aZ (i:=2) gZ.nd rfl (ma rfl) (aW cF (aW bH (pv 0) ag) ag))
 (ah (ng Tj rfl (oN rfl T.vx (aa (aW bH (pv 0) ag) af)) (ck (i:=3) gZ.nd rfl (ma rfl))
 (ah (aZ (i:=2) gZ.nd rfl (ma rfl) (aW bH (aW sJ (pv 2) ag) ag))
 (ai (bh (bW fu ko kq bu (pv 1) (aa (aU (zW T) hr rfl T.Cm T.xb.kp T.Cn .nil aV (aa (aW bU (pv 2) ag) af)) af))))))
 (ai (aI (bW So SN SO l6 aj (aa (pv 1) af))))))),?_⟩
  try dsimp only[bt]
  have sz:fe=16777216:=by decide
  refine⟨Sl _,λW hW=>?_⟩
  refine⟨_,rfl,_,_,rfl,rfl,(by show (0:Int) < 4294967311;decide),_,_,rfl,rfl,?_⟩
  refine⟨_,rfl,_,_,rfl,rfl,(by show (0:Int) < 4;decide),_,rfl,by omega,by omega,?_⟩
  refine yQ (lo:=0) (n:=(c % 4).toNat) (λi σ H2=>∃(ws:List Str) (m:Int) (kv:Option V),σ=[some (.int c),some (.ref W),some (.int m),kv]/\0<=m/\m<=4294967311/\H2 W=some (.lst (ws.map V.str))/\ws.length=i/\(∀w∈ws,R.kH w)/\bc H H2)
   ⟨[],_,_,rfl,by omega,by omega,ae,rfl,(λz hz=>nomatch hz),ax hW⟩ ?_ ?_
  ·rintro i σ H2 hi ⟨ws,m,kv,rfl,m0,m1,h2,hl,hg,s2⟩;refine⟨_,rfl,_,_,rfl,rfl,.inl ⟨by omega,by omega⟩,_,_,rfl,rfl,(by show (0:Int) < 4294967311;decide),?_⟩
   refine⟨_,rfl,.inl ⟨rfl,_,SqL.of h2⟩,_,rfl,_,_,rfl,rfl,⟨by decide,by decide⟩,_,rfl,λx hx=>?_⟩
   refine⟨W,_,_,rfl,rfl,h2,(by rw[ba];omega),?_⟩
   refine⟨ws++[x],_,_,rfl,by omega,by omega,?_,?_,λz h=>?_,s2.own hW⟩
   ·rw[ae,kg];rfl
   ·rw[ka,hl];rfl
   ·rcases List.mem_append.mp h with h | h
    ·exact hg z h
    ·rw[List.mem_singleton.mp h];exact hx
  ·rintro σ H2 ⟨ws,m,kv,rfl,m0,m1,h2,hl,hg,s2⟩;have hs:=R.zL hg;refine⟨rfl,_,rfl,R.bl1,W,ws,rfl,rfl,SqL.of h2,(by rw[R.kG];show _+_ * 1<=_;omega),?_⟩
   exact k ws _ ⟨by omega,hg⟩ s2
theorem zX (T:Txt w.params K mg A):aX P w K mg base CX0 1 A.D7 A.tD ["_law_cell","_law_size","_law_thing"] JG:=by
 refine T.xf.ok zg (λvs H Q E h=>?_) (λcdv A' outer s H vs Q E hr h=>?_)
 ·obtain⟨c,n,z,rfl,_⟩:=h;rfl
 ·obtain⟨c,n,z,rfl,n0,n1,q⟩:=h;refine⟨_,(ah (aZ (i:=3) zg.nd rfl (ma rfl) (aW i3 (aW bH (aW bU (pv 0) ag) (aW cF (pv 1) ag)) ag))
 (ah (a4 (aC bf (aW bH (pv 0) ag) ag (aN _))
 (ai (aI (a8 (aa aj (aa (pv 3) af)))))
 aJ)
 (ai (aI (a8 (aa (aH a7 (bq (aa aj (aa aj (aa aj af)))) (aW bH (pv 0) ag) (λ_ _=>rfl)) (aa (pv 3) (aa (pv 2) af)))))))),?_⟩
  try dsimp only[bt]
  refine⟨_,rfl,_,_,rfl,rfl,⟨by decide,by decide⟩,_,rfl,_,_,rfl,rfl,_,_,rfl,rfl,(by show (0:Int) < n+3;omega),_,_,rfl,rfl,?_⟩
  have j0:0<=c / 3 % (n+3):=SS _ (by omega)
  have j1:c / 3 % (n+3) < n+3:=Sy _ (by omega)
  dsimp only[cf];obtain⟨j,ej⟩:∃j,c / 3 % (n+3) - 1=j:=⟨_,rfl⟩;rw[ej];refine⟨_,rfl,_,_,rfl,rfl,(by show (0:Int) < 3;decide),rfl,_,rfl,dc (λh=>?_) (λh=>?_)⟩
  ·refine⟨_,rfl,(sl 2),λt ht=>?_⟩
   exact q 1 j t _ (.inr (.inl rfl)) (by omega) (by omega) (ax ht) ht ae
  ·have h':¬c % 3=1:=λe=>h (decide_eq_true (by show V.int (c % 3)=V.int 1;rw[e]))
   refine⟨(sl 3),λp hp=>?_⟩
   refine aL λGq gq=>?_
   have s1:=ax (o:=.lst [V.str (ar "put"),.str (ar ""),.str (ar "turn")]) hp;obtain⟨k,hk3,hk1,hk⟩:∃k:Nat,(k=0\/k=1\/k=2)/\k≠1/\atI [V.str (ar "put"),.str (ar ""),.str (ar "turn")] (c % 3)=some (.str (R.kn k)):=by
    have h3:c % 3=0\/c % 3=2:=by omega
    rcases h3 with e | e
    ·exact⟨0,.inl rfl,by decide,by rw[e];rfl⟩
    ·exact⟨2,.inr (.inr rfl),by decide,by rw[e];rfl⟩
   refine gq ?_;refine⟨_,rfl,_,_,rfl,rfl,(by show (0:Int) < 3;decide),p,_,_,_,rfl,rfl,SqL.of ae,hk,_,rfl,_,rfl,(sl 3),λt ht=>?_⟩
   refine q k j t _ hk3 (by omega) (by omega) (s1.new ht) (same_none s1 ht) ?_
   rw[ae,R.edR,if_neg hk1]
theorem mM (T:Txt w.params K mg A):aX P w K mg base CX0 1 A.vq A.mj ["_law_clause_here"] R.iY:=by
 refine T.gF.ok D1 (λvs H Q E h=>?_) (λcdv A' outer s H vs Q E hr h=>?_)
 ·obtain⟨z,rfl,_⟩:=h;rfl
 ·obtain⟨z,rfl,hz,k⟩:=h;refine⟨_,(ah (a4 (aC bf (pv 0) aj (aN _))
 (ai (aI (bq af)))
 aJ)
 (ai (aI (bW So PySem.F.slot_str_split PySem.F.type_str_split BI (pv 0) (aa aj af))))),?_⟩
  try dsimp only[bt]
  refine⟨_,rfl,rfl,_,rfl,dc (λe=>?_) (λe=>?_)⟩
  ·have e':z=R.em:=by injection of_decide_eq_true e
   refine⟨Sl _,λp hp=>?_⟩
   have:=k p hp;rw[R.bb,if_pos e']at this;exact this
  ·have e':¬z=R.em:=λq=>e (decide_eq_true (by rw[q]))
   refine⟨_,rfl,rfl,z,R.bl1,rfl,rfl,by rw[R.kG];rfl,hz,λp hp=>?_⟩
   have:=k p hp;rw[R.bb,if_neg e']at this;exact this
theorem zY (T:Txt w.params K mg A):aX P w K mg base CX0 1 A.Ea A.tG ["_law_kind"] JH:=by
 refine T.xj.ok Gr (λvs H Q E h=>?_) (λcdv A' outer s H vs Q E hr h=>?_)
 ·obtain⟨k,_,rfl,_⟩:=h;rfl
 ·obtain⟨k,k8,rfl,q⟩:=h;refine⟨_,(ai (aI (bW fu PySem.F.slot_list_index PySem.F.type_list_index HP (bq (aa aj (aa aj (aa aj (aa aj (aa aj (aa aj (aa aj (aa aj af))))))))) (aa (pv 0) af)))),?_⟩
  try dsimp only[bt]
  obtain⟨h1,h2⟩:=CY k k8;refine⟨(sl 8),λp hp=>?_⟩
  refine⟨.inl ⟨rfl,_,SqL.of ae⟩,_,rfl,p,qV,nm k,k,rfl,rfl,SqL.of ae,h1,h2,?_⟩;exact q _ (ax hp)
theorem zZ (T:Txt w.params K mg A):aX P w K mg base CX0 1 A.D8 A.tE ["_law_things","_law_edit_here"] (Jj K):=by
 refine T.xg.ok Gp (λvs H Q E h=>?_) (λcdv A' outer s H vs Q E hr h=>?_)
 ·obtain⟨a,t,xs,e,rfl,_⟩:=h;rfl
 ·obtain⟨a,t,xs,e,rfl,ha,ht,o,q⟩:=h;refine⟨_,(ah (a4 (aC bf (aH aK (pv 1) ag (λ_ _=>rfl)) aj (aN _))
 (ai (aI (vE q5 q5 ag (aH aK (pv 1) ag (λ_ _=>rfl)) (bQ b9 (by rfl) T.mY ic (aa (pv 0) af)))))
 aJ)
 (ai (aI (vE q5 nh ag (aH aK (pv 1) ag (λ_ _=>rfl)) (bQ b9 (by rfl) T.mY ic (aa (pv 0) af)))))),?_⟩
  try dsimp only[bt]
  unfold d7 at q;refine ixv rfl ht (kF e) ⟨rfl,_,rfl,dc (λz=>?_) (λz=>?_)⟩
  ·have hk:e.k=0:=(tW o).mp (of_decide_eq_true z);rw[if_pos hk]at q;refine ixv rfl ht (qJ e) ⟨_,_,rfl,rfl,_,rfl,dc (λz1=>?_) (λz1=>?_)⟩
   ·have h1:0<=e.at_:=of_decide_eq_true z1;rw[decide_eq_true h1,Bool.true_and]at q;refine⟨_,rfl,a,_,rfl,.inl ha,_,_,rfl,rfl,?_⟩;dsimp only;rw[show decide (e.at_<=(xs.length:Int))=decide (e.at_ < (xs.length:Int)+1) by simp only[decide_eq_decide];omega]
    exact q
   ·have h1:¬0<=e.at_:=λy=>z1 (decide_eq_true y)
    rw[decide_eq_false h1,Bool.false_and]at q;exact q
  ·have hk:¬e.k=0:=λy=>z (decide_eq_true ((tW o).mpr y))
   rw[if_neg hk,Int.add_zero]at q;refine ixv rfl ht (qJ e) ⟨_,_,rfl,rfl,_,rfl,dc (λz1=>?_) (λz1=>?_)⟩
   ·have h1:0<=e.at_:=of_decide_eq_true z1;rw[decide_eq_true h1,Bool.true_and]at q;exact⟨_,rfl,a,_,rfl,.inl ha,_,_,rfl,rfl,q⟩
   ·have h1:¬0<=e.at_:=λy=>z1 (decide_eq_true y)
    rw[decide_eq_false h1,Bool.false_and]at q;exact q
end
def JI (K:bo):Sp:=λvs H Q _=>∃(a t:Addr) (xs:List Str) (e:Ed),vs=[.ref a,.ref t]/\SqL K H a (xs.map V.str)/\xs.length<=1000/\SqT K H t (dS e)/\m8 e/\d7 xs.length e=true /\
 ∀p H',bc H H'->H p=none->H' p=some (.lst ((bC xs e).map V.str))->Q (.ref p) H'
def Lu:Sp:=λvs H Q _=>vs=[]/\∀m H',(∀(i:Nat) (c:Col) (n:Int),∃c',Step (λ_=>False) c c' H H'/\fv i c' H' m (hZ n))->Q (.ref m) H'
def Bq (i:Nat):Sp:=λvs H Q _=>∃(m:Addr) (n:Nat) (c:Col) (st:Ch),vs=[.ref m,nV n]/\fv i c H m st/\cy st n/\∀t,MnT c H (st.mo n) t->Q (.ref t) H
def Lv (i:Nat):Sp:=λvs H Q _=>∃(m:Addr) (c:Col) (st:Ch),vs=[.ref m]/\fv i c H m st/\(∀n∈st.av,cy st n)/\∀H',bc H H'->Q (.int (iR st.closed (st.av.map st.mo))) H'
theorem jX (ns:List Nat):Tv (dA ns) (.list [])=ns.isEmpty:=by
 cases ns with
 |nil=>simp[dA,Tv,PyData.eqvAll]
 |cons n ns=>simp[dA,Tv,PyData.eqvAll]
theorem yh:∀ns:List Nat,Se (ns.map λn:Nat=>PyData.int (n:Int))<=1
 |[]=>by simp only[Sq,Se];omega
 |n::ns=>by
  have:=yh ns;simp only[gr,Se,Sr];omega
theorem jY (ns:List Nat):SeqAt.shaped (dA ns)=true:=by
 have h1:(dA ns).canLay0=true:=by
  unfold dA;simp only[R8]
  induction ns with
  |nil=>simp only[Sq,tm]
  |cons n ns ih=>simp only[gr,tm,R8,ih,Ss]
 have h2:(dA ns).depth<=64:=by
  have:=yh ns;unfold dA;simp only[Sr];omega
 show ((dA ns).canLay0 && decide ((dA ns).depth<=64))=true;rw[h1,decide_eq_true h2];rfl
theorem oG:SeqAt.shaped (.list [])=true:=by rfl
theorem oH {K:bo}{H:Hp}{p:Addr}(h:SqL K H p []):DV K H (.list []) (.ref p):=by
 unfold DV;exact⟨p,[],rfl,h,by unfold DVs;rfl⟩
theorem jZ {st:Ch}{n:Nat}(hn:cy st n):(fq st)[n - 1]?=some (eG st n):=by
 unfold fq;rw[R0,CQ hn.1 hn.2];rfl
theorem MnT.kind {c:Col}{H:Hp}{m:Mn}{t:Addr}(h:MnT c H m t):∃v,H t=some (.tup (rowOf m.k v)):=⟨_,h.2.choose_spec.1⟩
theorem N7 {v0 v1 v2 v3 v4 v5:V}:sW [] (mdF v0 v1 v2 v3 v4 v5)=mdF v0 v1 v2 v3 v4 v5:=by kernel_rfl
section
variable{P:kr}{w:World}{K:bo}{mg:Str->Option Value}{base:Heap}{A:Adr}
theorem z6 (T:Txt w.params K mg A):aX P w K mg base CX0 1 A.D9 A.tF ["_law_things","_law_edit_here"] (JI K):=by
 refine T.xh.ok zh (λvs H Q E h=>?_) (λcdv A' outer s H vs Q E hr h=>?_)
 ·obtain⟨a,t,xs,e,rfl,_⟩:=h;rfl
 ·obtain⟨a,t,xs,e,rfl,ha,hl,ht,o,hf,q⟩:=h;refine⟨_,(ah (aZ (i:=2) zh.nd rfl (ma rfl) (aH aK (pv 1) ag (λ_ _=>rfl)))
 (ah (a4 (aC bf (aH aK (pv 1) ag (λ_ _=>rfl)) aj (aN _))
 (ai (aI (aW iM (i4 q9 (pv 0) oR (jJ (pv 2))) (i4 q9 (pv 0) (jJ (aW cF (pv 2) ag)) oR))))
 aJ)
 (ai (aI (aW iM (aW iM (i4 q9 (pv 0) oR (jJ (pv 2))) (bq (aa (aH aK (pv 1) ag (λ_ _=>rfl)) af))) (i4 q9 (pv 0) (jJ (aW cF (pv 2) (bD yS (by rfl) T.Ma Hw (aa (gO bf (aH aK (pv 1) ag (λ_ _=>rfl)) aj (aN _)) af)))) oR)))))),?_⟩
  try dsimp only[bt]
  refine aL λGq gq=>?_
  have sz:fe=16777216:=by decide
  obtain⟨f0,f1⟩:=xM.mp hf;obtain⟨n,hn⟩:∃n:Nat,e.at_=(n:Int):=⟨e.at_.toNat,by omega⟩
  refine gq ?_;refine ixv rfl ht (qJ e) ?_;rw[hn];rw[hn]at f1;have en:e.at_.toNat=n:=by rw[hn];rfl
  refine ixv rfl ht (kF e) ⟨rfl,_,rfl,dc (λz=>?_) (λz=>?_)⟩
  ·have hk:e.k=1:=(qL o).mp (of_decide_eq_true z);refine⟨_,rfl,_,rfl,_,rfl,a,_,rfl,ha,λp1 hp1=>?_⟩
   have s1:=ax (o:=.lst (dX (xs.map V.str) none (some (n:Int)))) hp1;refine⟨_,rfl,_,rfl,_,_,rfl,rfl,_,rfl,a,_,rfl,s1.seq ha,λp2 hp2=>?_⟩
   have n12:p1≠p2:=az ae hp2;have s2:=s1.new (o:=.lst (dX (xs.map V.str) (some ((n:Int)+1)) none)) hp2;have e1:dX (xs.map V.str) none (some (n:Int))=(xs.take n).map V.str:=by rw[JD,List.map_take]
   have e2:dX (xs.map V.str) (some ((n:Int)+1)) none=(xs.drop (n+1)).map V.str:=by rw[show (n:Int)+1=((n+1:Nat):Int) by omega,rj,List.map_drop]
   refine⟨p1,p2,_,_,rfl,rfl,(ao n12).trans ae,ae,?_,λp3 hp3=>?_⟩
   ·have h1:=fw (xs.map V.str) none (some (n:Int));have h2:=fw (xs.map V.str) (some ((n:Int)+1)) none;rw[ba]at h1 h2;show (dX (xs.map V.str) none (some (n:Int))).length+(dX (xs.map V.str) (some ((n:Int)+1)) none).length<=_;omega
   ·refine q p3 _ (s2.new hp3) (same_none s2 hp3) ?_;have el:(bC xs e).map V.str=dX (xs.map V.str) none (some (n:Int))++dX (xs.map V.str) (some ((n:Int)+1)) none:=by
     rw[e1,e2,<-kg];unfold bC;rw[hk,en];show (xs.eraseIdx n).map V.str=_;rw[List.eraseIdx_eq_take_drop_succ]
    rw[el];exact ae
  ·have hk:¬e.k=1:=λy=>z (decide_eq_true ((qL o).mpr y))
   refine⟨_,rfl,_,rfl,_,rfl,a,_,rfl,ha,λp1 hp1=>?_⟩
   have s1:=ax (o:=.lst (dX (xs.map V.str) none (some (n:Int)))) hp1;refine ixv rfl (bj s1 ht) (qK hk) ⟨(sl 1),λp2 hp2=>?_⟩
   have n12:p1≠p2:=az ae hp2;have s2:=s1.new (o:=.lst [V.str e.th]) hp2;have h1:=fw (xs.map V.str) none (some (n:Int));rw[ba]at h1;refine⟨p1,p2,_,_,rfl,rfl,(ao n12).trans ae,ae,by show (dX (xs.map V.str) none (some (n:Int))).length+1<=_;omega,λp3 hp3=>?_⟩
   refine aL λGq gq=>?_
   have s3:=s2.new (o:=.lst (dX (xs.map V.str) none (some (n:Int))++[V.str e.th])) hp3;obtain⟨b,hb,hb2⟩:∃b:Nat,(if decide (V.str (kn e.k)=V.str (ar "turn"))=true then (1:Int) else 0)=(b:Int)/\b=if e.k=2 then 1 else 0:=by
    by_cases h2:e.k=2
    ·exact⟨1,by rw[decide_eq_true ((Fx o).mpr h2)];rfl,by rw[if_pos h2]⟩
    ·exact⟨0,by rw[decide_eq_false (λy=>h2 ((Fx o).mp y))];rfl,by rw[if_neg h2]⟩
   refine gq ?_;refine⟨_,rfl,_,rfl,ixv rfl (bj s3 ht) (kF e) ⟨rfl,.inr ⟨_,rfl,_,_,rfl,rfl,_,rfl,?_⟩⟩⟩;dsimp only;rw[hb,show (n:Int)+(b:Int)=((n+b:Nat):Int) by omega]
   refine⟨a,_,rfl,s3.seq ha,λp4 hp4=>?_⟩
   have n34:p3≠p4:=az ae hp4;have s4:=s3.new (o:=.lst (dX (xs.map V.str) (some ((n+b:Nat):Int)) none)) hp4;have h2:=fw (xs.map V.str) (some ((n+b:Nat):Int)) none;rw[ba]at h2;refine⟨p3,p4,_,_,rfl,rfl,(ao n34).trans ae,ae,?_,λp5 hp5=>?_⟩
   ·show (dX (xs.map V.str) none (some (n:Int))++[V.str e.th]).length+(dX (xs.map V.str) (some ((n+b:Nat):Int)) none).length<=_;rw[ka,R5];omega
   ·refine q p5 _ (s4.new hp5) (same_none s4 hp5) ?_;have el:(bC xs e).map V.str=dX (xs.map V.str) none (some (n:Int))++[V.str e.th]++dX (xs.map V.str) (some ((n+b:Nat):Int)) none:=by
     rw[JD,rj,<-List.map_take,<-List.map_drop];unfold bC;rcases o.k3 with h | h | h
     ·rw[h]at hb2 ⊢;rw[hb2,en];simp
     ·exact absurd h hk
     ·rw[h,if_neg (by decide)]at f1
      rw[h]at hb2 ⊢;rw[hb2,en];show (xs.set n e.th).map V.str=_;rw[List.set_eq_take_append_cons_drop,if_pos (by omega)]
      simp
    rw[el];exact ae
theorem ib (T:Txt w.params K mg A){i:Nat}:aX P w K mg base CX0 1 A.Ce A.nK ["_law_m","_law_number"] (Bq i):=by
 refine T.fS.ok Ie (λvs H Q E h=>?_) (λcdv A' outer s H vs Q E hr h=>?_)
 ·obtain⟨m,n,c,st,rfl,_⟩:=h;rfl
 ·obtain⟨m,n,c,st,rfl,hm,hn,q⟩:=h;obtain⟨aP,aA,aD,aM,ds,ws,es,X⟩:=hm.ex;have hu1:=hr.u1;refine⟨_,(ai (aI (aH a7 (aH a7 (aY hu1 (pv 0) aj (λ_ _=>rfl)) (aW i3 (pv 1) ag) (λ_ _=>rfl)) ag (λ_ _=>rfl)))),?_⟩
  try dsimp only[bt]
  refine aL λGq gq=>?_
  obtain⟨v,ev,p,t1,t2,k,ts,rfl,z1,z2,z3,z4,z5⟩:=X.ent.get (jZ hn);have h1:=hn.1;have ea:atI es ((n:Int) - 1)=some (.ref p):=by
   rw[show (n:Int) - 1=((n - 1:Nat):Int) by omega]
   exact cq ev
  refine gq ?_;refine dgv rfl X.gm ⟨_,rfl,_,_,rfl,rfl,aM,_,_,_,rfl,rfl,SqL.of X.ia.2,ea,p,_,_,_,rfl,rfl,SqL.of z1.2,rfl,?_⟩;exact q t1 z2
theorem yi (T:Txt w.params K mg A){i:Nat}:aX P w K mg base CX0 2 A.Ij A.wO ["_law_m"] (Lv i):=by
 refine T.vw.ok wG (λvs H Q E h=>?_) (λcdv A' outer s H vs Q E hr h=>?_)
 ·obtain⟨m,c,st,rfl,_⟩:=h;rfl
 ·obtain⟨m,c,st,rfl,hm,hp,q⟩:=h;obtain⟨aP,aA,aD,aM,ds,ws,es,X⟩:=hm.ex;have hu1:=hr.u1;have iO:=hr.units;refine⟨_,(ah (aZ (i:=1) wG.nd rfl (ma rfl) (kM gi ag))
 (ah (a4 (aC (sO iO) (aY hu1 (pv 0) aj (λ_ _=>rfl)) (bq af) (aN _))
 (ai (aZ (i:=1) wG.nd rfl (ma rfl) (aU (zY T) hr rfl T.Cu T.xj.kp T.Cv .nil aV (aa (aH aK (aU (ib (i:=i) T) hr rfl T.gQ T.fS.kp T.gR .nil aV (aa (pv 0) (aa (aH a7 (aY hu1 (pv 0) aj (λ_ _=>rfl)) (kM gi ag) (λ_ _=>rfl)) af))) ag (λ_ _=>rfl)) af))))
 aJ)
 (ah (a4 (j3 (aY hu1 (pv 0) aj (λ_ _=>rfl)))
 (ai (aI (bQ (oO rfl) (by rfl) T.Fs An (aa (pv 1) (aa ag af)))))
 aJ)
 (ai (aI (pv 1)))))),?_⟩
  try dsimp only[bt]
  refine⟨_,rfl,?_⟩;dsimp only[cf];refine dG (λσ' H'=>σ'=[some (.ref m),some (.int (m9 (st.av.map st.mo)))]/\bc H H') ?r (λN nN=>?f)
  case f =>
   refine dgv rfl X.gp ⟨(sl 0),λp hp0=>?_⟩
   have s1:=ax (o:=.lst []) hp0;refine⟨dA st.av,.list [],fb (SqL.of (s1 _ _ X.av.2)),oH (SqL.of ae),jY _,oG,_,rfl,?_⟩;rw[jX];rcases R6 st.av with e | ⟨pre,n,e⟩
   ·rw[e];exact bK (nN _ _ ⟨by rw[e];rfl,s1⟩)
   ·rw[R7]at e;have X1:=X.same s1;have hn:=hp n (by rw[e];simp)
    have h0:atI (st.av.map nV) (-1)=some (nV n):=by rw[e,kg];exact fJ _ _
    refine pM (by rw[e];simp) ?_
    refine⟨_,rfl,_,rfl,m,_,rfl,X1.gp,_,rfl,aP,_,_,_,rfl,rfl,SqL.of X1.av.2,h0,m,n,c,st,rfl,X1.at,hn,λt ht=>?_⟩
    obtain⟨v,hv⟩:=ht.kind;refine⟨t,_,_,_,rfl,rfl,SqT.of hv,cv,(st.mo n).k,(st.mo n).k8,rfl,λH2 s2=>nN _ _ ⟨?_,s1.trans s2⟩⟩
    rw[e,kg,gr,Sq,lV];rfl
  case r =>
   rintro σ' H1 ⟨rfl,s1⟩;have X1:=X.same s1;refine dgv rfl X1.gc ⟨_,rfl,?_⟩;have q:=q H1 s1;unfold iR at q;cases hcl:st.closed with
   |true =>
    rw[hcl]at q;exact cC ⟨_,rfl,_,_,rfl,q⟩
   |false =>
    rw[hcl]at q;exact bK ⟨_,rfl,q⟩
end
def xcC:Xc->Str×Int
 | .qP b=>(ar "bar",b)
 | .jB=>(ar "no matter",0)
 | .noChange=>(ar "no change",0)
 | .noFit=>(ar "no fit",0)
 | .lT n=>(ar "not later",n)
 | .nothing=>(ar "nothing",0)
 | .tooMany=>(ar "too many",0)
 | .pw=>(ar "no aside",0)
 | .Bc n=>(ar "not yet",n)
 | .xX=>(ar "no number",0)
def Lw (i:Nat):Sp:=λvs H Q _=>∃(m t:Addr) (c:Col) (st:Ch) (N:Nat) (d:R.cK),vs=[.ref m,.ref t]/\fv i c H m st/\Inv N st/\N<=800/\Bn d/\lX i c H d t /\
 (gJ st (cT d)=none->∀H',bc H H'->Q .non H')/\∀x,gJ st (cT d)=some x->∀u H',bc H H'->H u=none->H' u=some (.tup [.str (xcC x).1,.int (xcC x).2])->Q (.ref u) H'
theorem EH {m:Mn}{r:List Mn}(h:PMs (m::r)):pK (m::r)=decide (m.k=0):=by
 cases hm:pK (m::r) with
 |true =>
  obtain⟨tx,r',e⟩:=h.EB hm;cases e;rfl
 |false =>
  unfold pK at hm;rw[List.any_cons,Bool.or_eq_false_iff]at hm;exact hm.1.symm
theorem JJ {ms:List Mn}(h:PMs ms)(hm:dF ms=true):pK ms=true:=by
 unfold dF at hm;split at hm
 ·rename_i e he;obtain⟨r,e1⟩:=lY he;subst e1;obtain⟨tx,e2,_⟩:=h.pop.2;subst e2;rfl
 ·cases hm
section
variable{P:kr}{w:World}{K:bo}{mg:Str->Option Value}{base:Heap}{A:Adr}
theorem EI (T:Txt w.params K mg A){i:Nat}:aX P w K mg base CX0 3 A.AQ A.qw ["_law_m","_law_motion"] (Lw i):=by
 have sy:aX P w K mg base CX0 1 A.Ce A.nK ["_law_m","_law_number"] (Bq i):=ib T;refine T.zA.ok qo (λvs H Q E h=>?_) (λcdv A' outer s H vs Q E hr h=>?_)
 ·obtain⟨m,t,c,st,N,d,rfl,_⟩:=h;rfl
 ·obtain⟨m,t,c,st,N,d,rfl,hm,I,hN,hd,hdc,q,qx⟩:=h;obtain⟨aP,aA,aD,aM,ds,ws,es,X⟩:=hm.ex;have hu1:=hr.u1;have iO:=hr.units;have yj:Room 1 _:=hr.mono (by decide)
  refine⟨_,(ah (aZ (i:=2) qo.nd rfl (ma rfl) (aH aK (pv 1) ag (λ_ _=>rfl)))
 (ah (a4 (aC q5 (aU (zY T) (hr.mono (by decide)) rfl T.Cu T.xj.kp T.Cv .nil aV (aa (pv 2) af)) (aU (yi (i:=i) T) hr rfl T.A0 T.vw.kp T.A1 .nil aV (aa (pv 0) af)) (aN _))
 (ai (aI (a8 (aa aj (aa (aU (yi (i:=i) T) hr rfl T.A0 T.vw.kp T.A1 .nil aV (aa (pv 0) af)) af)))))
 aJ)
 (ah (a4 (aC oS (pv 2) (a8 (aa aj (aa aj (aa aj af)))) rfl)
 (ai (aI vC))
 aJ)
 (ah (a4 (PW.pt (pw_or (aC (sN iO) (aY hu1 (pv 0) aj (λ_ _=>rfl)) (bq af) (aN _)) (pw_or1 (aC um (aH aK (aU sy yj rfl T.gQ T.fS.kp T.gR .nil aV (aa (pv 0) (aa (aH a7 (aY hu1 (pv 0) aj (λ_ _=>rfl)) ag (λ_ _=>rfl)) af))) ag (λ_ _=>rfl)) aj (aN _)))))
 (ai (aI (a8 (aa aj (aa ag af)))))
 aJ)
 (ah (aZ (i:=3) qo.nd rfl (ma rfl) (aU sy yj rfl T.gQ T.fS.kp T.gR .nil aV (aa (pv 0) (aa (aH a7 (aY hu1 (pv 0) aj (λ_ _=>rfl)) (kM gi ag) (λ_ _=>rfl)) af))))
 (ah (a4 (PW.pt (pw_and (aC bf (pv 2) aj (aN _)) (pw_and1 (PW.pt (pw_or (aC um (aH aK (pv 3) ag (λ_ _=>rfl)) aj (aN _)) (pw_or1 (aC bf (aH aK (aH aK (pv 3) ag (λ_ _=>rfl)) ag (λ_ _=>rfl)) aj (aN _))))))))
 (ai (aI (a8 (aa aj (aa ag af)))))
 aJ)
 (ah (a4 (PW.pt (pw_and (aC bf (pv 2) aj (aN _)) (pw_and1 (qh (j3 (aU (zZ T) (hr.mono (by decide)) rfl T.Cq T.xg.kp T.Cr .nil aV (aa (aU (mM T) (hr.mono (by decide)) rfl T.iW T.gF.kp T.iX .nil aV (aa (aH aK (aH aK (pv 3) ag (λ_ _=>rfl)) ag (λ_ _=>rfl)) af)) (aa (aH aK (pv 1) ag (λ_ _=>rfl)) af))))))))
 (ai (aI (a8 (aa aj (aa ag af)))))
 aJ)
 (ah (a4 (PW.pt (pw_and (aC bf (pv 2) aj (aN _)) (pw_and1 (qh (j3 (aU (zZ T) (hr.mono (by decide)) rfl T.Cq T.xg.kp T.Cr .nil aV (aa (aH aK (aU sy yj rfl T.gQ T.fS.kp T.gR .nil aV (aa (pv 0) (aa (aH a7 (aY hu1 (pv 0) aj (λ_ _=>rfl)) ag (λ_ _=>rfl)) af))) ag (λ_ _=>rfl)) (aa (aH aK (pv 1) ag (λ_ _=>rfl)) af))))))))
 (ai (aI (a8 (aa aj (aa ag af)))))
 aJ)
 (ah (a4 (PW.pt (pw_and (aC bf (pv 2) aj (aN _)) (pw_and1 (aC q5 (aH aK (pv 1) ag (λ_ _=>rfl)) (aY hu1 (pv 0) aj (λ_ _=>rfl)) (aN _)))))
 (ai (aI (a8 (aa aj (aa (aY hu1 (pv 0) aj (λ_ _=>rfl)) af)))))
 aJ)
 (ai (aI vC))))))))))),?_⟩
  try dsimp only[bt]
  refine aL λGq gq=>?_
  obtain⟨v,ht,hv0,hv1⟩:=sx hd hdc;have hmk:=EF (N:=N) hd;refine gq ?_;generalize cT d=mn at ht hv0 hv1 hmk q qx;refine ixv rfl (SqT.of ht.2) cv ?_;refine⟨_,rfl,mn.k,mn.k8,rfl,λH1 s1=>?_⟩
  refine⟨_,rfl,m,c,st,rfl,(X.same s1).at,I.bG,λH2 s2=>?_⟩
  have s12:=s1.trans s2;refine⟨_,_,rfl,rfl,_,rfl,dc (λz=>?_) (λz=>?_)⟩
  ·have z':(mn.k:Int)<=iR st.closed (st.av.map st.mo):=of_decide_eq_true z;refine⟨_,rfl,m,c,st,rfl,(X.same s12).at,I.bG,λH3 s3=>⟨(sl 2),λu hu=>?_⟩⟩
   refine qx (.qP (iR st.closed (st.av.map st.mo))) (by unfold gJ qQ;rw[if_pos z']) u _ ((s12.trans s3).new hu) (same_none (s12.trans s3) hu) ae
  have z':¬(mn.k:Int)<=iR st.closed (st.av.map st.mo):=λy=>z (decide_eq_true y)
  refine⟨_,rfl,(sl 3),λt3 ht3=>?_⟩
  have s3:=s12.new (o:=.tup [V.str (ar "matter"),V.str (ar "rest"),V.str (ar "point")]) ht3;refine⟨t3,_,rfl,.inr (SqT.of ae),rfl,rfl,_,rfl,?_⟩;have ein:(if false=true then !inV (V.str (nm mn.k)) [V.str (ar "matter"),V.str (ar "rest"),V.str (ar "point")] else inV (V.str (nm mn.k)) [V.str (ar "matter"),V.str (ar "rest"),V.str (ar "point")])=decide (mn.k=0\/mn.k=6\/mn.k=7):=by
   have:∀k,k < 8->inV (V.str (nm k)) [V.str (ar "matter"),V.str (ar "rest"),V.str (ar "point")]=decide (k=0\/k=6\/k=7):=by trivial
   exact this _ mn.k8
  rw[ein];generalize upd H2 t3 (.tup [V.str (ar "matter"),V.str (ar "rest"),V.str (ar "point")])=H3 at s3 ⊢;clear ht3 ein s12 s2 s1 z
  by_cases GW:mn.k=0\/mn.k=6\/mn.k=7
  ·refine pM (decide_eq_true GW) (q ?_ H3 s3);have hn:jS (st.av.map st.mo) mn.k=true:=by
    unfold jS;rw[if_neg (by omega),if_neg (by omega)]
   unfold gJ qQ;rw[if_neg z',if_pos hn];cases mn <;> first | rfl | (simp[Mn.k]at GW)
  refine pN (decide_eq_false GW) ?_;have X3:=X.same s3;refine dgv rfl X3.gp ⟨(sl 0),λp4 hp4=>?_⟩
  have s4:=s3.new (o:=.lst []) hp4;have X4:=X.same s4;refine⟨dA st.av,.list [],fb (SqL.of X4.av.2),oH (SqL.of ae),jY _,oG,_,rfl,?_⟩;rw[jX];generalize upd H3 p4 (.lst [])=H4 at s4 X4 ⊢;clear hp4 X3 s3;have ht4:SqT K H4 t (rowOf mn.k v):=SqT.of (s4 _ _ ht.2);have nomat:pK (st.av.map st.mo)=false->gJ st mn=some .jB:=λhh=>by
   have hn:jS (st.av.map st.mo) mn.k=false:=by
    unfold jS
    by_cases h2:mn.k=2
    ·rw[if_pos h2];cases hmm:dF (st.av.map st.mo) with
     |false=>rfl
     |true=>rw[JJ I.pil hmm]at hh;cases hh
    ·have:=mn.k8;rw[if_neg h2,if_pos (by omega),hh]
   unfold gJ qQ;rw[if_neg z',if_neg (by rw[hn];decide),if_neg (by rw[hh];decide)]
  have say:∀(x:Xc) (z:Str),gJ st mn=some x->(xcC x).1=z->(xcC x).2=0->∀(Hn:Hp),bc H Hn->∀u,Hn u=none->Q (.ref u) (upd Hn u (.tup [.str z,.int 0])):=λx z hx hz h0 Hn sn u hu=>by
   subst hz;have:=qx x hx u _ (sn.new hu) (same_none sn hu) (ae (o:=.tup [.str (xcC x).1,.int (xcC x).2]));rw[h0]at this;exact this
  cases yk:st.av with
  |nil =>
   refine cC (cC ⟨(sl 2),λu hu=>?_⟩)
   exact say .jB _ (nomat (by rw[yk];rfl)) rfl rfl H4 s4 u hu
  |cons b r =>
   refine bK ?_;have hb:cy st b:=I.bG b (by rw[yk];exact eg)
   have h0:atI (st.av.map nV) 0=some (nV b):=by rw[yk];exact cq (j:=0) rfl
   refine⟨_,rfl,dgv rfl X4.gp ⟨aP,_,_,_,rfl,rfl,SqL.of X4.av.2,h0,m,b,c,st,rfl,X4.at,hb,λtb htb=>?_⟩⟩
   obtain⟨vb,hvb⟩:=htb.kind;have hbm:pK (st.av.map st.mo)=decide ((st.mo b).k=0):=by
    have hp:=I.pil;rw[yk,gr]at hp ⊢;exact EH hp
   refine⟨tb,_,_,_,rfl,rfl,SqT.of hvb,cv,rfl,_,rfl,?_⟩;rw[qR _ (st.mo b).k8]
   by_cases hk0:(st.mo b).k=0
   case neg =>
    rw[decide_eq_false hk0]at hbm ⊢;refine cC ⟨(sl 2),λu hu=>?_⟩
    exact say .jB _ (nomat hbm) rfl rfl H4 s4 u hu
   rw[decide_eq_true hk0]at hbm ⊢;refine bK ?_;refine aL λGq gq=>?_
   obtain⟨tx,etx⟩:∃tx,st.mo b=.mat tx:=by
    cases hmo:st.mo b with
    |mat tx=>exact⟨tx,rfl⟩
    |_=>rw[hmo]at hk0;simp[Mn.k]at hk0
   obtain⟨pre,n,JK⟩:∃pre n,st.av=pre++[n]:=by
    rcases R6 st.av with e | ⟨pre,n,e⟩
    ·rw[e]at yk;cases yk
    ·exact⟨pre,n,by rw[e,R7]⟩
   have hn:cy st n:=I.bG n (by rw[JK];simp)
   have P9:atI (st.av.map nV) (-1)=some (nV n):=by rw[JK,kg];exact fJ _ _
   have etop:(st.av.map st.mo).getLast?=some (st.mo n):=by rw[JK,kg];exact Sw
   have RC:∃r',st.av.map st.mo=.mat tx::r':=⟨r.map st.mo,by rw[yk,gr,etx]⟩
   refine gq ?_;refine⟨_,rfl,_,rfl,m,_,rfl,X4.gp,_,rfl,aP,_,_,_,rfl,rfl,SqL.of X4.av.2,P9,m,n,c,st,rfl,X4.at,hn,λtt htt=>?_⟩
   refine aL λGq gq=>?_
   obtain⟨_,vt,hvt,hvv⟩:=htt;have okn:jS (st.av.map st.mo) mn.k=true->gJ st mn=iz st mn:=λhh=>by
    unfold gJ qQ;rw[if_neg z',if_pos hh]
   refine gq ?_;cases mn with
   |mat _=>exact absurd (.inl rfl) GW
   |rst=>exact absurd (.inr (.inl rfl)) GW
   |pnt _=>exact absurd (.inr (.inr rfl)) GW
   |cls =>
    have hx:gJ st .cls=none:=okn (by show pK _=true;exact hbm)
    exact⟨_,rfl,rfl,tsf (bL 4 (by decide)) (bK ⟨_,rfl,rfl,tsf (bL 4 (by decide)) (bK ⟨_,rfl,rfl,tsf (bJ 4 (by decide)) (bK ⟨_,rfl,rfl,tsf (eh 4 (by decide)) (bK (q hx H4 s4))⟩)⟩)⟩)⟩
   |lay =>
    have hx:gJ st .lay=none:=okn (by show pK _=true;exact hbm)
    exact⟨_,rfl,rfl,tsf (bL 5 (by decide)) (bK ⟨_,rfl,rfl,tsf (bL 5 (by decide)) (bK ⟨_,rfl,rfl,tsf (bJ 5 (by decide)) (bK ⟨_,rfl,rfl,tsf (eh 5 (by decide)) (bK (q hx H4 s4))⟩)⟩)⟩)⟩
   |off u =>
    have hx:gJ st (.off u)=iz st (.off u):=okn (by show pK _=true;exact hbm)
    have hv':v=.int u:=hv1 (by simp[Mn.k])
    subst hv';refine⟨_,rfl,rfl,tsf (bL 3 (by decide)) (bK ⟨_,rfl,rfl,tsf (bL 3 (by decide)) (bK ⟨_,rfl,rfl,tsf (bJ 3 (by decide)) (bK ⟨_,rfl,rfl,tst (eh 3 (by decide)) ?_⟩)⟩)⟩)⟩
    refine ixv rfl ht4 rfl (dgv rfl X4.gs ⟨_,_,rfl,rfl,_,rfl,dc (λy=>?_) (λy=>?_)⟩)
    ·have y':u<=st.aQ:=of_decide_eq_true y;refine dgv rfl X4.gs ⟨(sl 2),λu2 hu=>?_⟩
     exact qx (.lT st.aQ) (by rw[hx];unfold iz;dsimp only;rw[if_pos y']) u2 _ (s4.new hu) (same_none s4 hu) ae
    ·have y':¬u<=st.aQ:=λz=>y (decide_eq_true z)
     exact q (by rw[hx];unfold iz;dsimp only;rw[if_neg y']) H4 s4
   |chg e =>
    refine aL λGq gq=>?_
    have hx:gJ st (.chg e)=iz st (.chg e):=okn (by show pK _=true;exact hbm)
    obtain⟨te,rfl,hte⟩:=hv1 (by simp[Mn.k])
    obtain⟨r',er'⟩:=RC;refine gq ?_;refine⟨_,rfl,rfl,tsf (bL 1 (by decide)) (bK ⟨_,rfl,rfl,tsf (bL 1 (by decide)) (bK ⟨_,rfl,rfl,tst (bJ 1 (by decide)) ?_⟩)⟩)⟩
    refine⟨_,rfl,dgv rfl X4.gp ⟨aP,_,_,_,rfl,rfl,SqL.of X4.av.2,h0,m,b,c,st,rfl,X4.at,hb,λtb2 Qa=>?_⟩⟩
    refine aL λGq gq=>?_
    rw[etx]at Qa;obtain⟨_,v2,hv2,L,rfl,hL⟩:=Qa;refine gq ?_;refine⟨tb2,_,_,_,rfl,rfl,SqT.of hv2,rfl,ixv rfl ht4 rfl ⟨L,te,_,e,rfl,SqL.of hL.2,bj s4 hte.sq,hmk.ed1 hN,_,rfl,?_⟩⟩;rw[ba];cases hf:d7 tx.length e with
    |true=>exact bK ⟨_,rfl,rfl,tsf (eh 1 (by decide)) (bK (q (by rw[hx];unfold iz;dsimp only;rw[er'];dsimp only;rw[if_pos hf]) H4 s4))⟩
    |false =>
     refine cC ⟨(sl 2),λu hu=>?_⟩
     exact say .noFit _ (by rw[hx];unfold iz;dsimp only;rw[er'];dsimp only;rw[if_neg (by rw[hf];decide)]) rfl rfl H4 s4 u hu
   |mnd f =>
    refine aL λGq gq=>?_
    obtain⟨te,rfl,hte⟩:=hv1 (by simp[Mn.k])
    refine gq ?_;refine⟨_,rfl,rfl,tst (bL 2 (by decide)) (ixv rfl (SqT.of hvt) cv ⟨rfl,_,rfl,?_⟩)⟩
    rw[bJ _ (st.mo n).k8];have C0:dF (st.av.map st.mo)=false->gJ st (.mnd f)=some .noChange:=λhh=>by
     have hn:jS (st.av.map st.mo) (Mn.mnd f).k=false:=(show dF (st.av.map st.mo)=false from hh)
     unfold gJ qQ;rw[if_neg z',if_neg (by rw[hn];decide),if_pos (by rw[hbm])]
    by_cases h1:(st.mo n).k=1
    case neg =>
     rw[decide_eq_false h1];refine cC (cC ⟨(sl 2),λu hu=>?_⟩)
     refine say .noChange _ (C0 ?_) rfl rfl H4 s4 u hu;unfold dF;rw[etop];cases hmo:st.mo n with
     |chg e=>rw[hmo]at h1;exact absurd rfl h1
     |_=>rfl
    rw[decide_eq_true h1];refine aL λGq gq=>?_
    obtain⟨e,emo⟩:∃e,st.mo n=.chg e:=by
     cases hmo:st.mo n with
     |chg e=>exact⟨e,rfl⟩
     |_=>rw[hmo]at h1;simp[Mn.k]at h1
    rw[emo]at hvt hvv etop;obtain⟨tc,rfl,htc⟩:=hvv;refine gq ?_;refine bK (ixv rfl (SqT.of hvt) rfl ⟨tc,_,_,_,rfl,rfl,htc.sq,kF e,rfl,_,rfl,?_⟩);rw[Bf]
    by_cases hk1:e.k=1
    ·rw[decide_eq_true hk1];refine cC ⟨(sl 2),λu hu=>?_⟩
     refine say .noChange _ (C0 ?_) rfl rfl H4 s4 u hu;unfold dF;rw[etop];dsimp only;rw[decide_eq_true hk1];rfl
    ·rw[decide_eq_false hk1];have hmo:dF (st.av.map st.mo)=true:=by
      unfold dF;rw[etop];dsimp only;rw[decide_eq_false hk1];rfl
     have hx:gJ st (.mnd f)=iz st (.mnd f):=okn (show dF (st.av.map st.mo)=true from hmo)
     have hem:EdB (12+N) e:=by
      have:=I.sj hn;rw[emo]at this;exact this
     have heo:m8 e:=hem.ok (by omega)
     refine bK ⟨_,rfl,rfl,tst (bL 2 (by decide)) (ixv rfl (SqT.of hvt) rfl ⟨tc,_,_,_,rfl,rfl,htc.sq,qK hk1,e.th,rfl,?_,λp1 hp1=>?_⟩)⟩
     ·have:=heo.th.len;have lim:fe=16777216:=by decide
      omega
     have s5:=s4.new (o:=.lst ((R.bb e.th).map V.str)) hp1;have s45:=ax (o:=.lst ((R.bb e.th).map V.str)) hp1;refine ixv rfl (bj s45 ht4) rfl ⟨p1,te,_,f,rfl,SqL.of ae,bj s5 hte.sq,hmk.ed2,_,rfl,?_⟩;rw[ba];cases hf:d7 (R.bb e.th).length f with
     |true=>exact bK ⟨_,rfl,rfl,tsf (bJ 2 (by decide)) (bK ⟨_,rfl,rfl,tsf (eh 2 (by decide)) (bK (q (by rw[hx];unfold iz;dsimp only;rw[etop];dsimp only;rw[if_pos hf]) _ s5))⟩)⟩
     |false =>
      refine cC ⟨(sl 2),λu hu=>?_⟩
      exact say .noFit _ (by rw[hx];unfold iz;dsimp only;rw[etop];dsimp only;rw[if_neg (by rw[hf];decide)]) rfl rfl _ s5 u hu
end
theorem br.JL {α β:Type}{R R':α->β->Prop}:∀ {as:List α} {bs:List β} {j:Nat} {a':α} {b:β},br R as bs->bs[j]?=some b->(∀k a b',k≠j->as[k]?=some a->R a b'->R' a b')->R' a' b->br R' (as.set j a') bs
 |_,_,_,_,_,.nil,h,_,_=>by simp at h
 |a::as,b0::bs,0,a',b,.cons h t,hb,hk,hn=>by
  rw[Sa]at hb;cases hb;refine .cons hn ?_;have:∀ {as:List α} {bs:List β} (s:Nat),(∀(k:Nat) a b',as[k]?=some a->R a b'->R' a b')->br R as bs->br R' as bs:=by
   intro as bs s f z
   induction z with
   |nil=>exact .nil
   |cons h1 t1 ih=>exact .cons (f 0 _ _ Sa h1) (ih λk a b' e=>f (k+1) a b' (by rw[Sf];exact e))
  exact this 0 (λk x y e=>hk (k+1) x y (by omega) (by rw[Sf];exact e)) t
 |a::as,b0::bs,j+1,a',b,.cons h t,hb,hk,hn=>by
  rw[Sf]at hb;exact .cons (hk 0 _ _ (by omega) Sa h) (t.JL hb (λk x y ne e=>hk (k+1) x y (by omega) (by rw[Sf];exact e)) hn)
theorem jF (st:Ch):(fq st).length=st.made.length:=by unfold fq;rw[ba,SV]
theorem C2 {st:Ch}{j:Nat}{x:Ent}(h:(fq st)[j]?=some x):x=eG st (j+1)/\j < st.made.length:=by
 have hj:j < st.made.length:=by rw[<-jF];exact(List.getElem?_eq_some_iff.mp h).1
 have e:=jZ (st:=st) (n:=j+1) ⟨by omega,by omega⟩
 rw[Nat.add_sub_cancel]at e;rw[e]at h;exact⟨(si h).symm,hj⟩
theorem C3 {st st':Ch}{n:Nat}(hl:st'.made.length=st.made.length)(hn:cy st n)(h:∀k,cy st k->k≠n->eG st' k=eG st k):fq st'=(fq st).set (n - 1) (eG st' n):=by
 refine List.ext_getElem? λj=>?_
 have h1:=hn.1;have h2:=hn.2
 by_cases hj:j < st.made.length
 ·have e:=jZ (st:=st') (n:=j+1) ⟨by omega,by omega⟩
  rw[Nat.add_sub_cancel]at e;rw[e]
  by_cases z:j=n - 1
  ·subst z;rw[List.getElem?_set_self (by rw[jF];omega),show n - 1+1=n by omega]
  ·rw[List.getElem?_set_ne (λy=>z y.symm)]
   have e2:=jZ (st:=st) (n:=j+1) ⟨by omega,by omega⟩
   rw[Nat.add_sub_cancel]at e2;rw[e2,h (j+1) ⟨by omega,by omega⟩ (by omega)]
 ·rw[List.getElem?_eq_none (by rw[jF];omega),List.getElem?_eq_none (by rw[S8,jF];omega)]
theorem JM {st st':Ch}(hl:st'.made.length=st.made.length+1)(h:∀k,cy st k->eG st' k=eG st k):fq st'=fq st++[eG st' (st.made.length+1)]:=by
 unfold fq;rw[hl,List.range'_concat,kg,Nat.one_mul,Nat.add_comm 1]
 congr 1
 refine S5 λk hk=>?_
 rw[Tg]at hk;exact h k ⟨hk.1,by omega⟩
theorem ym {n k:Nat}{e:Ed}:∀ {xs:List (Nat×List Ed)},at1 k (nc n e xs)=(at1 k xs).map λx=>if x.1=n then (x.1,x.2++[e]) else x
 |[]=>rfl
 |y::xs=>by
  have ih:=ym (n:=n) (k:=k) (e:=e) (xs:=xs);unfold at1 nc at ih ⊢;rw[gr,Sn,Sn];have ek:(if y.1=n then (y.1,y.2++[e]) else y).1=y.1:=by split <;> rfl
  rw[ek]
  by_cases z:y.1=k
  ·rw[decide_eq_true z];rfl
  ·rw[decide_eq_false z];exact ih
theorem JN {st:Ch}{n:Nat}{e:Ed}{x:Nat×List Ed}(h:at1 n st.kept=some x):dN { st with kept:=nc n e st.kept } n=dN st n++[e]:=by
 unfold dN;show ((at1 n (nc n e st.kept)).map (·.2)).getD []=_
 rw[ym,h];have:=(eZ h).1;show (if x.1=n then (x.1,x.2++[e]) else x).2=x.2++[e]
 rw[if_pos this]
theorem C4 {st:Ch}{n k:Nat}{e:Ed}(ne:k≠n):dN { st with kept:=nc n e st.kept } k=dN st k:=by
 unfold dN;show ((at1 k (nc n e st.kept)).map (·.2)).getD []=_
 rw[ym];cases h:at1 k st.kept with
 |none=>rfl
 |some x =>
  have:=(eZ h).1;show (if x.1=n then (x.1,x.2++[e]) else x).2=x.2
  rw[if_neg (by rw[this];exact ne)]
def N8 (n:Nat):Rl->Bool | .b5 m=>decide (m=n) | _=>false
section
variable{i:Nat}{c c':Col}{H H':Hp}{m aP aA aD aM:Addr}{st:Ch}{ds:List Addr}{ws es:List V}
theorem MdX.JO (X:MdX i c H m st aP aA aD aM ds ws es){n:Nat}(hn:cy st n){mn:Mn}{p t1 t2 k t':Addr}(he:es[n - 1]?=some (.ref p))(hp:LstAt i c H (.b5 n) p [.ref t1,.ref t2,.ref k])(ht:MnT c H mn t') :
  Step (Wr i (N8 n)) c c H (upd H p (.lst [.ref t',.ref t2,.ref k]))/\MdX i c (upd H p (.lst [.ref t',.ref t2,.ref k])) m { st with made:=st.made.set (n - 1) mn } aP aA aD aM ds ws es:=by
 have s:Step (Wr i (N8 n)) c c H (upd H p (.lst [.ref t',.ref t2,.ref k])):=Step.upd Wr.nn (Wr.yes hp.1 (decide_eq_true rfl));have kk:=jx rfl s X.co X.ob;have ee:fq { st with made:=st.made.set (n - 1) mn }=(fq st).set (n - 1) (eG { st with made:=st.made.set (n - 1) mn } n) :=
  C3 (by show (st.made.set (n - 1) mn).length=_;rw[S8]) hn λk hk ne=>by
   unfold eG;rw[pz hn hk.1 ne rfl];rfl
 refine⟨s,kk.1,kk.2,X.av.kp rfl s,X.aG.kp rfl s,hU (λ_ _=>rfl) s X.wait,X.dec.kp rfl s,f7 s X.iy,X.ia.kp rfl s,?_⟩
 rw[ee];refine X.ent.JL he (λj x b ne ex z=>?_) ?_
 ·obtain⟨e1,hj⟩:=C2 ex;have hx:x.1≠n:=by rw[e1];show j+1≠n;omega
  obtain⟨q,t1,t2,k,ts,e,z1,z2,z3,z4,z5⟩:=z;exact⟨q,t1,t2,k,ts,e,z1.kp (decide_eq_false hx) s,z2.step s,λtx ht=>(z3 tx ht).step s,z4.kp rfl s,z5.imp λ_ _ y=>y.step s⟩
 ·obtain⟨v,ev,q,t1',t2',k',ts,e,z1,z2,z3,z4,z5⟩:=X.ent.get (jZ hn);rw[he]at ev;cases ev;cases e;have hh:=z1.2;rw[hp.2]at hh;injection hh with hh
  injection hh with hh
  injection hh with h1 hh
  injection hh with h2 hh
  injection hh with h3 hh
  injection h2 with h2
  injection h3 with h3
  subst h2;subst h3;refine⟨p,t',t2,k,ts,rfl,⟨hp.1,ae⟩,?_,λtx ht=>(z3 tx ht).step s,z4.kp rfl s,z5.imp λ_ _ y=>y.step s⟩
  have:(eG { st with made:=st.made.set (n - 1) mn } n).2.1=mn:=Bi hn rfl
  rw[this];exact ht.step s
theorem MdX.Bg (X:MdX i c H m st aP aA aD aM ds ws es){n:Nat}(hn:cy st n){e:Ed}{x:Nat×List Ed}(hx:at1 n st.kept=some x){p t1 t2 k t:Addr}{ts:List Addr}(he:es[n - 1]?=some (.ref p))(hp:LstAt i c H (.b5 n) p [.ref t1,.ref t2,.ref k])(hk:LstAt i c H (.d9 n) k (ts.map V.ref))(ht:TupAt c H t (dS e)) :
  Step (Wr i (FL n)) c c H (upd H k (.lst (ts.map V.ref++[.ref t])))/\MdX i c (upd H k (.lst (ts.map V.ref++[.ref t]))) m { st with kept:=nc n e st.kept } aP aA aD aM ds ws es:=by
 have s:Step (Wr i (FL n)) c c H (upd H k (.lst (ts.map V.ref++[.ref t]))):=Step.upd Wr.nn (Wr.yes hk.1 (decide_eq_true rfl));have kk:=jx rfl s X.co X.ob;have ee:fq { st with kept:=nc n e st.kept }=(fq st).set (n - 1) (eG { st with kept:=nc n e st.kept } n) :=
  C3 rfl hn λj hj ne=>by
   unfold eG;rw[C4 ne];rfl
 refine⟨s,kk.1,kk.2,X.av.kp rfl s,X.aG.kp rfl s,hU (λ_ _=>rfl) s X.wait,X.dec.kp rfl s,f7 s X.iy,X.ia.kp rfl s,?_⟩
 rw[ee];refine X.ent.JL he (λj x b ne ex z=>?_) ?_
 ·obtain⟨e1,hj⟩:=C2 ex;have hx:x.1≠n:=by rw[e1];show j+1≠n;omega
  obtain⟨q,t1,t2,k,ts,e,z1,z2,z3,z4,z5⟩:=z;exact⟨q,t1,t2,k,ts,e,z1.kp rfl s,z2.step s,λtx ht=>(z3 tx ht).step s,z4.kp (decide_eq_false hx) s,z5.imp λ_ _ y=>y.step s⟩
 ·obtain⟨v,ev,q,t1',t2',k',ts',e,z1,z2,z3,z4,z5⟩:=X.ent.get (jZ hn);rw[he]at ev;cases ev;cases e;have hh:=z1.2;rw[hp.2]at hh;injection hh with hh
  injection hh with hh
  injection hh with h1 hh
  injection hh with h2 hh
  injection hh with h3 hh
  injection h1 with h1
  injection h2 with h2
  injection h3 with h3
  subst h1;subst h2;subst h3;have e3:ts'.map V.ref=ts.map V.ref:=by
   have:=z4.2;rw[hk.2]at this;injection this with this
   injection this with this
   exact this.symm
  refine⟨p,t1,t2,k,ts'++[t],rfl,z1.kp rfl s,z2.step s,λtx ht=>(z3 tx ht).step s,⟨z4.1,by rw[ae,<-e3,kg];rfl⟩,?_⟩
  show br _ (dN { st with kept:=nc n e st.kept } n) (ts'++[t])
  rw[JN hx];exact(z5.imp λ_ _ y=>y.step s).snoc (ht.step s)
theorem MdX.jI (X:MdX i c H m st aP aA aD aM ds ws es){n:Nat}{u:Int}{t p:Addr}(ht:H t=none)(hp:H p=none)(ntp:p≠t)(hn:n∉st.aG.map (·.1)) :
  ∃c',Step (Wr i Ld) c c' H (upd (upd (upd (upd H t (.tup [.int u,.ref aP])) aA (.dK (putK (a5 ((st.aG.map (·.1)).zip ws)) (ki (n:Int)) (.ref t)))) p (.lst [])) m (.dK (mdF (.int st.aQ) (.bl st.closed) (.ref p) (.ref aA) (.ref aD) (.ref aM)))) /\
  MdX i c' (upd (upd (upd (upd H t (.tup [.int u,.ref aP])) aA (.dK (putK (a5 ((st.aG.map (·.1)).zip ws)) (ki (n:Int)) (.ref t)))) p (.lst [])) m (.dK (mdF (.int st.aQ) (.bl st.closed) (.ref p) (.ref aA) (.ref aD) (.ref aM)))) m (st.jI n u) p aA aD aM ds (ws++[.ref t]) es:=by
 have nt:∀ {a:Addr} {v:HO},H a=some v->a≠t:=λe=>az e ht
 have np:∀ {a:Addr} {v:HO},H a=some v->a≠p:=λe=>az e hp
 have oA:m≠aA:=cE X.co X.aG.1 (λz=>nomatch z)
 have oP:m≠aP:=cE X.co X.av.1 (λz=>nomatch z)
 have AP:aA≠aP:=cE X.aG.1 X.av.1 (λz=>nomatch z)
 have e:=lW (v:=.ref t) hn (vs:=ws) (by rw[ba];exact X.wait.len)
 have hp2:(upd (upd H t (.tup [.int u,.ref aP])) aA (.dK (putK (a5 ((st.aG.map (·.1)).zip ws)) (ki (n:Int)) (.ref t)))) p=none:=by
  rw[ao (np X.aG.2).symm,ao ntp];exact hp
 have x1:aw (aw c t none) p (some (i,.av)) m=some (i,.ob):=by rw[au (np X.ob),au (nt X.ob)];exact X.co
 have x2:aw (aw c t none) p (some (i,.av)) aP=some (i,.av):=by rw[au (np X.av.2),au (nt X.av.2)];exact X.av.1
 have x3:aw c t none aA=some (i,.aG):=by rw[au (nt X.aG.2)];exact X.aG.1
 refine⟨aw (aw (aw c t none) p (some (i,.av))) aP (some (i,.b7 n)),?_⟩;have s:Step (Wr i Ld) c (aw (aw (aw c t none) p (some (i,.av))) aP (some (i,.b7 n))) H (upd (upd (upd (upd H t (.tup [.int u,.ref aP])) aA (.dK (putK (a5 ((st.aG.map (·.1)).zip ws)) (ki (n:Int)) (.ref t)))) p (.lst [])) m (.dK (mdF (.int st.aQ) (.bl st.closed) (.ref p) (.ref aA) (.ref aD) (.ref aM)))) :=
  ((((Step.new Wr.nn ht).trans (Step.upd Wr.nn ⟨.aG,x3,rfl⟩)).trans (Step.new Wr.nn hp2)).trans (Step.upd Wr.nn ⟨.ob,x1,rfl⟩)).trans (Step.role Wr.nn ⟨.av,x2,rfl⟩)
 have k1:aw (aw (aw c t none) p (some (i,.av))) aP (some (i,.b7 n)) m=some (i,.ob):=by rw[au oP];exact x1
 have y1:aw (aw (aw c t none) p (some (i,.av))) aP (some (i,.b7 n)) aA=some (i,.aG):=by rw[au AP,au (np X.aG.2)];exact x3
 have y2:aw (aw (aw c t none) p (some (i,.av))) aP (some (i,.b7 n)) aP=some (i,.b7 n):=aS;have y3:aw (aw (aw c t none) p (some (i,.av))) aP (some (i,.b7 n)) p=some (i,.av):=by rw[au (np X.av.2).symm,aS]
 have y4:aw (aw (aw c t none) p (some (i,.av))) aP (some (i,.b7 n)) t=none:=by rw[au (nt X.av.2).symm,au ntp.symm,aS]
 generalize aw (aw (aw c t none) p (some (i,.av))) aP (some (i,.b7 n))=c3 at s k1 y1 y2 y3 y4 ⊢;have z1:(upd (upd (upd (upd H t (.tup [.int u,.ref aP])) aA (.dK (putK (a5 ((st.aG.map (·.1)).zip ws)) (ki (n:Int)) (.ref t)))) p (.lst [])) m (.dK (mdF (.int st.aQ) (.bl st.closed) (.ref p) (.ref aA) (.ref aD) (.ref aM)))) aA=some (.dK (a5 (((st.aG++[(n,u,st.av)]).map (·.1)).zip (ws++[.ref t])))):=by rw[ao oA.symm,ao (np X.aG.2),ae,e,kg];rfl
 have z2:(upd (upd (upd (upd H t (.tup [.int u,.ref aP])) aA (.dK (putK (a5 ((st.aG.map (·.1)).zip ws)) (ki (n:Int)) (.ref t)))) p (.lst [])) m (.dK (mdF (.int st.aQ) (.bl st.closed) (.ref p) (.ref aA) (.ref aD) (.ref aM)))) aP=some (.lst (st.av.map nV)):=by rw[ao oP.symm,ao (np X.av.2),ao AP.symm,ao (nt X.av.2)];exact X.av.2
 have z3:(upd (upd (upd (upd H t (.tup [.int u,.ref aP])) aA (.dK (putK (a5 ((st.aG.map (·.1)).zip ws)) (ki (n:Int)) (.ref t)))) p (.lst [])) m (.dK (mdF (.int st.aQ) (.bl st.closed) (.ref p) (.ref aA) (.ref aD) (.ref aM)))) p=some (.lst []):=by rw[ao (np X.ob).symm,ae]
 have z4:(upd (upd (upd (upd H t (.tup [.int u,.ref aP])) aA (.dK (putK (a5 ((st.aG.map (·.1)).zip ws)) (ki (n:Int)) (.ref t)))) p (.lst [])) m (.dK (mdF (.int st.aQ) (.bl st.closed) (.ref p) (.ref aA) (.ref aD) (.ref aM)))) t=some (.tup [.int u,.ref aP]):=by rw[ao (nt X.ob).symm,ao ntp.symm,ao (nt X.aG.2).symm,ae]
 have z5:(upd (upd (upd (upd H t (.tup [.int u,.ref aP])) aA (.dK (putK (a5 ((st.aG.map (·.1)).zip ws)) (ki (n:Int)) (.ref t)))) p (.lst [])) m (.dK (mdF (.int st.aQ) (.bl st.closed) (.ref p) (.ref aA) (.ref aD) (.ref aM)))) m=some (.dK (mdF (.int st.aQ) (.bl st.closed) (.ref p) (.ref aA) (.ref aD) (.ref aM))):=ae
 generalize upd (upd (upd (upd H t (.tup [.int u,.ref aP])) aA (.dK (putK (a5 ((st.aG.map (·.1)).zip ws)) (ki (n:Int)) (.ref t)))) p (.lst [])) m (.dK (mdF (.int st.aQ) (.bl st.closed) (.ref p) (.ref aA) (.ref aD) (.ref aM)))=H5 at s z1 z2 z3 z4 z5 ⊢
 exact⟨s,k1,z5,⟨y3,z3⟩,⟨y1,z1⟩,(hU (λ_ _=>rfl) s X.wait).snoc ⟨t,aP,rfl,⟨y4,.inl z4⟩,y2,z2⟩,X.dec.kp rfl s,f7 s X.iy,X.ia.kp rfl s,CW (λ_ _=>rfl) (λ_ _=>rfl) s X.ent⟩
end
theorem Br {β:Type}{k:Nat}{y:Nat×β}:∀ {xs:List (Nat×β)},at1 k (xs++[y])=(match at1 k xs with | some x=>some x | none=>if y.1=k then some y else none)
 |[]=>by
  unfold at1;rw[List.nil_append,Sn,List.find?_nil]
  by_cases z:y.1=k
  ·rw[decide_eq_true z,if_pos z]
  ·rw[decide_eq_false z,if_neg z]
 |x::xs=>by
  have ih:=Br (k:=k) (y:=y) (xs:=xs);unfold at1 at ih ⊢;rw[List.cons_append,Sn,Sn]
  by_cases z:x.1=k
  ·rw[decide_eq_true z]
  ·rw[decide_eq_false z];exact ih
theorem EJ {β:Type}{k:Nat}{xs:List (Nat×β)}(h:k∉xs.map (·.1)):at1 k xs=none:=by
 cases e:at1 k xs with
 |none=>rfl
 |some x =>
  obtain⟨h1,h2⟩:=eZ e;exact absurd (List.mem_map.mpr ⟨x,h2,h1⟩) h
theorem yn {β:Type}{k:Nat}{y:Nat×β}{xs:List (Nat×β)}(h:y.1≠k):at1 k (xs++[y])=at1 k xs:=by
 rw[Br];cases at1 k xs with
 |some x=>rfl
 |none=>exact if_neg h
theorem uP {β:Type}{k:Nat}{z:β}{xs:List (Nat×β)}(h:k∉xs.map (·.1)):at1 k (xs++[(k,z)])=some (k,z):=by
 rw[Br,EJ h];exact if_pos rfl
def Qb:Rl->Bool | .made=>true | .av=>true | _=>false
section
variable{i:Nat}{c c':Col}{H H':Hp}{m aP aA aD aM:Addr}{st:Ch}{ds:List Addr}{ws es:List V}
theorem Lx {mn:Mn}{row:Str}{k:Nat}(hk:cy st k):eG (st.moved mn row) k=eG st k:=by
 have h2:=hk.2;have e1:(st.moved mn row).mo k=st.mo k:=EC rfl hk;have e2:dN (st.moved mn row) k=dN st k:=by
  unfold dN;cases mn with
  |mat tx =>
   show ((at1 k (st.kept++[(st.made.length+1,([]:List Ed))])).map (·.2)).getD []=_
   rw[yn (by show st.made.length+1≠k;omega)]
  |_=>rfl
 have e3:yf (st.moved mn row) k=yf st k:=by
  unfold yf;cases mn with
  |mat tx =>
   show (at1 k (st.firsts++[(st.made.length+1,tx)])).map (·.2)=_
   rw[yn (by show st.made.length+1≠k;omega)]
  |_=>rfl
 unfold eG;rw[e1,e2,e3]
theorem Ly {mn:Mn}{row:Str}(hk:st.made.length+1∉st.kept.map (·.1))(hf:st.made.length+1∉st.firsts.map (·.1)):eG (st.moved mn row) (st.made.length+1)=(st.made.length+1,mn,[],(match mn with | .mat tx=>some tx | _=>none)):=by
 have e1:(st.moved mn row).mo (st.made.length+1)=mn:=ED rfl;unfold eG;rw[e1];cases mn with
 |mat tx =>
  have e2:dN (st.moved (.mat tx) row) (st.made.length+1)=[]:=by
   unfold dN;show ((at1 (st.made.length+1) (st.kept++[(st.made.length+1,([]:List Ed))])).map (·.2)).getD []=_
   rw[uP hk];rfl
  have e3:yf (st.moved (.mat tx) row) (st.made.length+1)=some tx:=by
   unfold yf;show (at1 (st.made.length+1) (st.firsts++[(st.made.length+1,tx)])).map (·.2)=_
   rw[uP hf];rfl
  rw[e2,e3]
 |_ =>
  unfold dN yf;show (_,_,((at1 (st.made.length+1) st.kept).map (·.2)).getD [],(at1 (st.made.length+1) st.firsts).map (·.2))=_
  rw[EJ hk,EJ hf];rfl
theorem MdX.moved (X:MdX i c H m st aP aA aD aM ds ws es){mn:Mn}{row:Str}{t k p:Addr}(hk:st.made.length+1∉st.kept.map (·.1))(hf:st.made.length+1∉st.firsts.map (·.1))(ht:MnT c H mn t)(nk:H k=none)(np:H p=none)(nkp:p≠k) :
  ∃c',Step (Wr i Qb) c c' H (upd (upd (upd (upd H k (.lst [])) p (.lst [.ref t,.ref t,.ref k])) aM (.lst (es++[.ref p]))) aP (.lst (st.av.map nV++[nV (st.made.length+1)]))) /\
  MdX i c' (upd (upd (upd (upd H k (.lst [])) p (.lst [.ref t,.ref t,.ref k])) aM (.lst (es++[.ref p]))) aP (.lst (st.av.map nV++[nV (st.made.length+1)]))) m (st.moved mn row) aP aA aD aM ds ws (es++[.ref p]):=by
 have ak:∀ {a:Addr} {v:HO},H a=some v->a≠k:=λe=>az e nk
 have ap:∀ {a:Addr} {v:HO},H a=some v->a≠p:=λe=>az e np
 have MP:aM≠aP:=cE X.ia.1 X.av.1 (λz=>nomatch z)
 have hp2:(upd H k (.lst [])) p=none:=(ao nkp).trans np;have x1:aw (aw c k (some (i,.d9 (st.made.length+1)))) p (some (i,.b5 (st.made.length+1))) aM=some (i,.made):=by rw[au (ap X.ia.2),au (ak X.ia.2)];exact X.ia.1
 have x2:aw (aw c k (some (i,.d9 (st.made.length+1)))) p (some (i,.b5 (st.made.length+1))) aP=some (i,.av):=by rw[au (ap X.av.2),au (ak X.av.2)];exact X.av.1
 have x3:aw (aw c k (some (i,.d9 (st.made.length+1)))) p (some (i,.b5 (st.made.length+1))) p=some (i,.b5 (st.made.length+1)):=aS;have x4:aw (aw c k (some (i,.d9 (st.made.length+1)))) p (some (i,.b5 (st.made.length+1))) k=some (i,.d9 (st.made.length+1)):=by rw[au nkp.symm,aS]
 refine⟨aw (aw c k (some (i,.d9 (st.made.length+1)))) p (some (i,.b5 (st.made.length+1))),?_⟩;have s:Step (Wr i Qb) c (aw (aw c k (some (i,.d9 (st.made.length+1)))) p (some (i,.b5 (st.made.length+1)))) H (upd (upd (upd (upd H k (.lst [])) p (.lst [.ref t,.ref t,.ref k])) aM (.lst (es++[.ref p]))) aP (.lst (st.av.map nV++[nV (st.made.length+1)]))) :=
  (((Step.new Wr.nn nk).trans (Step.new Wr.nn hp2)).trans (Step.upd Wr.nn ⟨.made,x1,rfl⟩)).trans (Step.upd Wr.nn ⟨.av,x2,rfl⟩)
 generalize aw (aw c k (some (i,.d9 (st.made.length+1)))) p (some (i,.b5 (st.made.length+1)))=c3 at s x1 x2 x3 x4 ⊢;have z1:(upd (upd (upd (upd H k (.lst [])) p (.lst [.ref t,.ref t,.ref k])) aM (.lst (es++[.ref p]))) aP (.lst (st.av.map nV++[nV (st.made.length+1)]))) aM=some (.lst (es++[.ref p])):=by rw[ao MP,ae]
 have z2:(upd (upd (upd (upd H k (.lst [])) p (.lst [.ref t,.ref t,.ref k])) aM (.lst (es++[.ref p]))) aP (.lst (st.av.map nV++[nV (st.made.length+1)]))) aP=some (.lst ((st.av++[st.made.length+1]).map nV)):=by rw[ae,kg];rfl
 have z3:(upd (upd (upd (upd H k (.lst [])) p (.lst [.ref t,.ref t,.ref k])) aM (.lst (es++[.ref p]))) aP (.lst (st.av.map nV++[nV (st.made.length+1)]))) p=some (.lst [.ref t,.ref t,.ref k]):=by rw[ao (ap X.av.2).symm,ao (ap X.ia.2).symm,ae]
 have z4:(upd (upd (upd (upd H k (.lst [])) p (.lst [.ref t,.ref t,.ref k])) aM (.lst (es++[.ref p]))) aP (.lst (st.av.map nV++[nV (st.made.length+1)]))) k=some (.lst []):=by rw[ao (ak X.av.2).symm,ao (ak X.ia.2).symm,ao nkp.symm,ae]
 generalize upd (upd (upd (upd H k (.lst [])) p (.lst [.ref t,.ref t,.ref k])) aM (.lst (es++[.ref p]))) aP (.lst (st.av.map nV++[nV (st.made.length+1)]))=H5 at s z1 z2 z3 z4 ⊢;have kk:=jx rfl s X.co X.ob;refine⟨s,kk.1,kk.2,⟨x2,z2⟩,X.aG.kp rfl s,hU (λ_ _=>rfl) s X.wait,X.dec.kp rfl s,f7 s X.iy,⟨x1,z1⟩,?_⟩
 rw[JM (st:=st) (st':=st.moved mn row) (by show (st.made++[mn]).length=_;rw[ka];rfl) λj hj=>Lx hj,Ly hk hf]
 refine(CW (λ_ _=>rfl) (λ_ _=>rfl) s X.ent).snoc ⟨p,t,t,k,[],rfl,⟨x3,z3⟩,ht.step s,λtx e=>?_,⟨x4,z4⟩,.nil⟩
 cases mn with
 |mat ty =>
  have e':some ty=some tx:=e;cases e';exact ht.step s
 |_=>cases e
theorem MdX.waitOf (X:MdX i c H m st aP aA aD aM ds ws es){n:Nat}{x:Nat×Int×List Nat}(hx:at1 n st.aG=some x):∃t p,et (a5 ((st.aG.map (·.1)).zip ws)) (ki (n:Int))=some (.ref t)/\TupAt c H t [.int x.2.1,.ref p]/\LstAt i c H (.b7 n) p (x.2.2.map nV):=by
 obtain⟨v,h1,t,p,rfl,h2,h3⟩:=X.wait.val hx;rw[(eZ hx).1]at h3;exact⟨t,p,h1,h2,h3⟩
theorem MdX.mZ (X:MdX i c H m st aP aA aD aM ds ws es){n:Nat}{p:Addr}{pl:List Nat}(hl:LstAt i c H (.b7 n) p (pl.map nV)) :
  ∃c' ws',Step (Wr i (FN n)) c c' H (upd (upd H aA (.dK (fA (a5 ((st.aG.map (·.1)).zip ws)) (ki (n:Int))))) m (.dK (mdF (.int st.aQ) (.bl st.closed) (.ref p) (.ref aA) (.ref aD) (.ref aM)))) /\
  MdX i c' (upd (upd H aA (.dK (fA (a5 ((st.aG.map (·.1)).zip ws)) (ki (n:Int))))) m (.dK (mdF (.int st.aQ) (.bl st.closed) (.ref p) (.ref aA) (.ref aD) (.ref aM)))) m (st.mZ n pl) p aA aD aM ds ws' es:=by
 have oA:m≠aA:=cE X.co X.aG.1 (λz=>nomatch z)
 have op:m≠p:=cE X.co hl.1 (λz=>nomatch z)
 have Ap:aA≠p:=cE X.aG.1 hl.1 (λz=>nomatch z)
 obtain⟨ws',e1,e2⟩:=X.wait.drop (n:=n);refine⟨aw c p (some (i,.av)),ws',?_⟩;have s:Step (Wr i (FN n)) c (aw c p (some (i,.av))) H (upd (upd H aA (.dK (fA (a5 ((st.aG.map (·.1)).zip ws)) (ki (n:Int))))) m (.dK (mdF (.int st.aQ) (.bl st.closed) (.ref p) (.ref aA) (.ref aD) (.ref aM)))) :=
  ((Step.upd Wr.nn ⟨.aG,X.aG.1,rfl⟩).trans (Step.upd Wr.nn ⟨.ob,X.co,rfl⟩)).trans (Step.role Wr.nn ⟨.b7 n,hl.1,decide_eq_true rfl⟩)
 refine⟨s,by rw[au op];exact X.co,ae,⟨aS,by rw[ao op.symm,ao Ap.symm];exact hl.2⟩,⟨by rw[au Ap];exact X.aG.1,by rw[ao oA.symm,ae,e1];rfl⟩,hU (λx hx=>decide_eq_false (of_decide_eq_true (List.mem_filter.mp hx).2)) s e2,X.dec.kp rfl s,f7 s X.iy,X.ia.kp rfl s,CW (λ_ _=>rfl) (λ_ _=>rfl) s X.ent⟩
end
def N9 (i:Nat):Sp:=λvs H Q _=>∃(m t:Addr) (c:Col) (st:Ch) (mn:Mn) (N:Nat),vs=[.ref m,.ref t]/\fv i c H m st/\MnT c H mn t/\Inv N st/\N<=900/\uM (st.av.map st.mo) mn/\MOk N mn /\
 ∀c' H',Step (cz i) c c' H H'->fv i c' H' m (st.carry mn)->Q .non H'
theorem in2:∀k,k < 8->(if false=true then !inV (V.str (nm k)) [V.str (ar "put off"),V.str (ar "lay")] else inV (V.str (nm k)) [V.str (ar "put off"),V.str (ar "lay")])=decide (k=3\/k=5):=by trivial
section
variable{P:kr}{w:World}{K:bo}{mg:Str->Option Value}{base:Heap}{A:Adr}
set_option maxHeartbeats 4000000 in
theorem GX (T:Txt w.params K mg A){i:Nat}:aX P w K mg base CX0 2 A.Eb A.tH ["_law_m","_law_motion"] (N9 i):=by
 refine T.Cw.ok gx (λvs H Q E h=>?_) (λcdv A' outer s H vs Q E hr h=>?_)
 ·obtain⟨m,t,c,st,mn,N,rfl,_⟩:=h;rfl
 ·obtain⟨m,t,c,st,mn,N,rfl,hm,hmt,I,hN,sv,yM,q⟩:=h;obtain⟨aP,aA,aD,aM,ds,ws,es,X⟩:=hm.ex;have hu1:=hr.u1;have iO:=hr.units;have sz:fe=16777216:=by decide
  refine⟨_,(ah (a4 (aC bf (aH aK (pv 1) ag (λ_ _=>rfl)) aj (aN _))
 (ah (aZ (i:=2) gx.nd rfl (ma rfl) (aH a7 (aY hu1 (pv 0) aj (λ_ _=>rfl)) (aW i3 (aH a7 (aY hu1 (pv 0) aj (λ_ _=>rfl)) ag (λ_ _=>rfl)) ag) (λ_ _=>rfl)))
 (ah (vD (a8 (aa aj (aa (aU (z6 T) hr rfl T.Cs T.xh.kp T.Ct .nil aV (aa (aH aK (aH a7 (pv 2) ag (λ_ _=>rfl)) ag (λ_ _=>rfl)) (aa (aH aK (pv 1) ag (λ_ _=>rfl)) af))) af))) (Ds (pv 2) ag set_list))
 (ai (bh (bW fu ko kq bu (aH a7 (pv 2) ag (λ_ _=>rfl)) (aa (aH aK (pv 1) ag (λ_ _=>rfl)) af))))))
 aJ)
 (ah (a4 (aC bf (aH aK (pv 1) ag (λ_ _=>rfl)) aj (aN _))
 (ah (aZ (i:=3) gx.nd rfl (ma rfl) (aH a7 (aY hu1 (pv 0) aj (λ_ _=>rfl)) (aW i3 (aH a7 (aY hu1 (pv 0) aj (λ_ _=>rfl)) (kM gi ag) (λ_ _=>rfl)) ag) (λ_ _=>rfl)))
 (ah (vD (aH aK (aH a7 (pv 3) ag (λ_ _=>rfl)) ag (λ_ _=>rfl)) (Ae rfl (cY (ck (i:=4) gx.nd rfl (ma rfl)) (cY (ck (i:=5) gx.nd rfl (ma rfl)) (cY (ck (i:=6) gx.nd rfl (ma rfl)) q0)))))
 (ai (vD (a8 (aa aj (aa (a8 (aa (pv 4) (aa (pv 5) (aa (bW So SN SO l6 aj (aa (aU (z6 T) hr rfl T.Cs T.xh.kp T.Ct .nil aV (aa (aU (mM T) hr rfl T.iW T.gF.kp T.iX .nil aV (aa (pv 6) af)) (aa (aH aK (pv 1) ag (λ_ _=>rfl)) af))) af)) af)))) af))) (Ds (pv 3) ag set_list)))))
 aJ)
 (ah (a4 (aC bf (aH aK (pv 1) ag (λ_ _=>rfl)) aj (aN _))
 (ai (eX hu1 (pv 0) aj gb rfl))
 aJ)
 (ah (a4 (aC bf (aH aK (pv 1) ag (λ_ _=>rfl)) aj (aN _))
 (ai (eX hu1 (pv 0) aj (aW cF (aY hu1 (pv 0) aj (λ_ _=>rfl)) ag) rfl))
 aJ)
 (ai (a4 (aC oS (aH aK (pv 1) ag (λ_ _=>rfl)) (a8 (aa aj (aa aj af))) rfl)
 (ah (aZ (i:=7) gx.nd rfl (ma rfl) (aH aK (aW Kj (pv 1) (a8 (aa (aY hu1 (pv 0) aj (λ_ _=>rfl)) af))) ag (λ_ _=>rfl)))
 (ah (eX hu1 (aY hu1 (pv 0) aj (λ_ _=>rfl)) (aH a7 (aY hu1 (pv 0) aj (λ_ _=>rfl)) ag (λ_ _=>rfl)) (a8 (aa (pv 7) (aa (aY hu1 (pv 0) aj (λ_ _=>rfl)) af))) rfl)
 (ai (eX hu1 (pv 0) aj (bq af) rfl))))
 aJ)))))),?_⟩
  try dsimp only[bt]
  refine aL λGq gq=>?_
  have Oa:=hmt;obtain⟨ct,v,hvt,hvv⟩:=hmt;have ht:SqT K H t (rowOf mn.k v):=SqT.of hvt;have lM:=I.lm;have kc:∀ {v0 v1 v2 v3 v4 v5:V},(mdF v0 v1 v2 v3 v4 v5).length < fe:=by intros;show 6 < fe;decide
  refine gq ?_;cases mn with
  |mat tx =>
   refine ixv rfl ht rfl ⟨rfl,tsf (bJ 0 (by decide)) (ixv rfl ht rfl ⟨rfl,tsf (bL 0 (by decide)) (ixv rfl ht rfl ⟨rfl,tsf (f9 0 (by decide)) (ixv rfl ht rfl ⟨rfl,tsf (jC 0 (by decide)) (ixv rfl ht rfl ⟨(sl 2),λu hu=>⟨u,_,rfl,.inr (SqT.of ae),rfl,rfl,tsf (in2 0 (by decide)) ?_⟩⟩)⟩)⟩)⟩)⟩
   exact q c _ (Step.same aT (ax hu)) (X.same (ax hu)).at
  |pnt z =>
   refine ixv rfl ht rfl ⟨rfl,tsf (bJ 7 (by decide)) (ixv rfl ht rfl ⟨rfl,tsf (bL 7 (by decide)) (ixv rfl ht rfl ⟨rfl,tsf (f9 7 (by decide)) (ixv rfl ht rfl ⟨rfl,tsf (jC 7 (by decide)) (ixv rfl ht rfl ⟨(sl 2),λu hu=>⟨u,_,rfl,.inr (SqT.of ae),rfl,rfl,tsf (in2 7 (by decide)) ?_⟩⟩)⟩)⟩)⟩)⟩
   exact q c _ (Step.same aT (ax hu)) (X.same (ax hu)).at
  |cls =>
   refine ixv rfl ht rfl ⟨rfl,tsf (bJ 4 (by decide)) (ixv rfl ht rfl ⟨rfl,tsf (bL 4 (by decide)) (ixv rfl ht rfl ⟨rfl,tst (f9 4 (by decide)) ⟨_,rfl,m,_,rfl,kQ.k (k:=sr (ar "closed")) X.ob kc,?_⟩⟩)⟩)⟩
   rw[yd];refine aL λGq gq=>?_
   obtain⟨s1,X1⟩:=X.attr st.aQ true;have ht1:=SqT.of (K:=K) (Oa.step s1.eT).2.choose_spec.1;have RD:=Oa.step s1.eT;obtain⟨_,v1,hv1,_⟩:=RD;have ht1:SqT K (upd H m (.dK (mdF (.int st.aQ) (.bl true) (.ref aP) (.ref aA) (.ref aD) (.ref aM)))) t (rowOf 4 v1):=SqT.of hv1;refine gq ?_;generalize upd H m (.dK (mdF (.int st.aQ) (.bl true) (.ref aP) (.ref aA) (.ref aD) (.ref aM)))=H1 at s1 X1 ht1 ⊢;refine ixv rfl ht1 rfl ⟨rfl,tsf (jC 4 (by decide)) (ixv rfl ht1 rfl ⟨(sl 2),λu hu=>⟨u,_,rfl,.inr (SqT.of ae),rfl,rfl,tsf (in2 4 (by decide)) ?_⟩⟩)⟩
   exact q c _ (s1.eT.trans (Step.same aT (ax hu))) (X1.same (ax hu)).at
  |rst =>
   refine ixv rfl ht rfl ⟨rfl,tsf (bJ 6 (by decide)) (ixv rfl ht rfl ⟨rfl,tsf (bL 6 (by decide)) (ixv rfl ht rfl ⟨rfl,tsf (f9 6 (by decide)) (ixv rfl ht rfl ⟨rfl,tst (jC 6 (by decide)) (dgv rfl X.gs ⟨_,_,rfl,rfl,_,rfl,m,_,rfl,kQ.k (k:=sr (ar "sitting")) X.ob kc,?_⟩)⟩)⟩)⟩)⟩
   rw[CV];refine aL λGq gq=>?_
   obtain⟨s1,X1⟩:=X.attr (st.aQ+1) st.closed;obtain⟨_,v1,hv1,_⟩:=Oa.step s1.eT;have ht1:SqT K (upd H m (.dK (mdF (.int (st.aQ+1)) (.bl st.closed) (.ref aP) (.ref aA) (.ref aD) (.ref aM)))) t (rowOf 6 v1):=SqT.of hv1;refine gq ?_;dsimp only;generalize upd H m (.dK (mdF (.int (st.aQ+1)) (.bl st.closed) (.ref aP) (.ref aA) (.ref aD) (.ref aM)))=H1 at s1 X1 ht1 ⊢;refine ixv rfl ht1 rfl ⟨(sl 2),λu hu=>⟨u,_,rfl,.inr (SqT.of ae),rfl,rfl,tsf (in2 6 (by decide)) ?_⟩⟩
   exact q c _ (s1.eT.trans (Step.same aT (ax hu))) (X1.same (ax hu)).at
  |chg e =>
   refine aL λGq gq=>?_
   obtain⟨tx,h1,hf⟩:=sv;obtain⟨k,e1,e2⟩:=Li h1;have hn:k∈st.av:=by rw[e1];exact eg
   have hno:=I.bG k hn;have htx:=I.sj hno;rw[e2]at htx;have Rw:tx.length<=12+N:=htx.1;obtain⟨x,hx,hxl⟩:=I.keptAt hno (by rw[e2];rfl)
   have e3:st.carry (.chg e)=st.Ju k tx e:=by unfold Ch.carry;rw[e1];dsimp only;rw[e2]
   rw[e3]at q;have Jy:EdB (12+N) e:=yM;obtain⟨te,rfl,hte⟩:=hvv;have h0:atI (st.av.map nV) 0=some (nV k):=by rw[e1];rfl
   have h11:=hno.1;obtain⟨w,ev,p,t1,t2,kk,ts,rfl,z1,z2,z3,z4,z5⟩:=X.ent.get (jZ hno);have ea:atI es ((k:Int) - 1)=some (.ref p):=by
    rw[show (k:Int) - 1=((k - 1:Nat):Int) by omega]
    exact cq ev
   have z1':LstAt i c H (.b5 k) p [.ref t1,.ref t2,.ref kk]:=z1;have z4':LstAt i c H (.d9 k) kk (ts.map V.ref):=z4;have z2':MnT c H (.mat tx) t1:=by
    have:(eG st k).2.1=.mat tx:=e2;rw[this]at z2;exact z2
   obtain⟨_,v1,hv1,L,rfl,hL⟩:=z2';refine gq ?_;refine ixv rfl ht rfl ⟨rfl,tst (bJ 1 (by decide)) ?_⟩
   refine dgv rfl X.gm (dgv rfl X.gp ⟨aP,_,_,_,rfl,rfl,SqL.of X.av.2,h0,_,_,rfl,rfl,aM,_,_,_,rfl,rfl,SqL.of X.ia.2,ea,?_⟩);refine ixv rfl (SqL.of z1'.2) rfl ⟨t1,_,_,_,rfl,rfl,SqT.of hv1,rfl,ixv rfl ht rfl ⟨L,te,tx,e,rfl,SqL.of hL.2,by omega,hte.sq,Jy.ok (by omega),hf,λpl H1 s1 npl hpl=>⟨(sl 2),λtn htn=>?_⟩⟩⟩
   have s2:=s1.new (o:=.tup [V.str (ar "matter"),.ref pl]) htn;have ntn:H tn=none:=same_none s1 htn;have ntp:pl≠tn:=az hpl htn;have X2:=X.cl s2;have st2:Step (cz i) c (bz c H) H (upd H1 tn (.tup [V.str (ar "matter"),.ref pl])):=Step.cl aT s2;have hmn:MnT (bz c H) (upd H1 tn (.tup [V.str (ar "matter"),.ref pl])) (.mat (bC tx e)) tn:=⟨bx ntn,.ref pl,ae,pl,rfl,bx npl,(ao ntp).trans hpl⟩;have w1:=z1'.keep (W:=λ_=>False) id (Step.cl id s2)
   have w4:=z4'.keep (W:=λ_=>False) id (Step.cl id s2)
   have Ob:=hte.step st2;have hv2:=bp st2 ct hvt;generalize bz c H=c2 at X2 st2 hmn w1 w4 Ob hv2;generalize upd H1 tn (.tup [V.str (ar "matter"),.ref pl])=H2 at X2 st2 hmn w1 w4 Ob hv2 ⊢;refine⟨_,rfl,p,_,0,0,rfl,rfl,w1.2,rfl,?_⟩;rw[show [V.ref t1,V.ref t2,V.ref kk].set 0 (V.ref tn)=[V.ref tn,V.ref t2,V.ref kk] from rfl]
   obtain⟨s3,X3⟩:=X2.JO hno ev w1 hmn;have w1b:LstAt i c2 (upd H2 p (.lst [.ref tn,.ref t2,.ref kk])) (.b5 k) p [.ref tn,.ref t2,.ref kk]:=⟨w1.1,ae⟩;have w4b:=w4.kp (p:=N8 k) rfl s3;have Qc:=Ob.step s3.eT;have hv3:=bp s3 hv2.1 hv2.2;have hkl:ts.length<=1000:=by
    have h1:=z5.len;have h2:(eG st k).2.2.1=x.2:=by show dN st k=x.2;unfold dN;rw[hx];rfl
    rw[h2]at h1;omega
   have ev3:es[k - 1]?=some (.ref p):=ev;generalize upd H2 p (.lst [.ref tn,.ref t2,.ref kk])=H3 at s3 X3 w1b w4b Qc hv3 ⊢;refine ixv rfl (SqL.of w1b.2) rfl ⟨.inl ⟨rfl,_,SqL.of w4b.2⟩,ixv rfl (SqT.of hv3.2) rfl ⟨kk,_,_,rfl,rfl,w4b.2,by rw[ba];omega,?_⟩⟩
   obtain⟨s4,X4⟩:=X3.Bg (n:=k) (e:=e) (x:=x) ⟨hno.1,by show k<=(st.made.set _ _).length;rw[S8];exact hno.2⟩ hx ev3 w1b w4b Qc
   have hv4:=bp s4 hv3.1 hv3.2;have fin:=((st2.trans s3.eT).trans s4.eT);generalize upd H3 kk (.lst (ts.map V.ref++[.ref te]))=H4 at s4 X4 hv4 fin ⊢;have ht4:SqT K H4 t (rowOf 1 (.ref te)):=SqT.of hv4.2;refine ixv rfl ht4 rfl ⟨rfl,tsf (bL 1 (by decide)) (ixv rfl ht4 rfl ⟨rfl,tsf (f9 1 (by decide)) (ixv rfl ht4 rfl ⟨rfl,tsf (jC 1 (by decide)) (ixv rfl ht4 rfl ⟨(sl 2),λu hu=>⟨u,_,rfl,.inr (SqT.of ae),rfl,rfl,tsf (in2 1 (by decide)) ?_⟩⟩)⟩)⟩)⟩
   exact q c2 _ (fin.trans (Step.same aT (ax hu))) (X4.same (ax hu)).at
  |mnd f =>
   refine aL λGq gq=>?_
   obtain⟨tx,e,h1,hk,hf⟩:=sv;obtain⟨a,b,e1,e2,e3⟩:=NR h1;have hb:b∈st.av:=by rw[e1];exact km _ eg
   have hno:=I.bG b hb;have he:=I.sj hno;rw[e3]at he;have he':EdB (12+N) e:=he;obtain⟨w1,w2⟩:=he'.words;have e4:st.carry (.mnd f)=st.Jv b e (bC (R.bb e.th) f):=by unfold Ch.carry;rw[e1];show (match st.mo b with | .chg e=>_ | _=>st)=_;rw[e3];rfl
   rw[e4]at q;obtain⟨hf1,w0,hw0,hw1⟩:=yM;have l1:=pA (R.bb e.th) f;have l2:=R.zL (qT w1 (by rw[hw0];exact hw1):∀w∈bC (R.bb e.th) f,R.kH w)
   have heo:m8 e:=he'.ok (by omega)
   obtain⟨te,rfl,hte⟩:=hvv;have h0:atI (st.av.map nV) (-1)=some (nV b):=by rw[e1];exact fJ [nV a] (nV b)
   have h11:=hno.1;obtain⟨w,ev,p,t1,t2,kk,ts,rfl,z1,z2,z3,z4,z5⟩:=X.ent.get (jZ hno);have ea:atI es ((b:Int) - 1)=some (.ref p):=by
    rw[show (b:Int) - 1=((b - 1:Nat):Int) by omega]
    exact cq ev
   have z1':LstAt i c H (.b5 b) p [.ref t1,.ref t2,.ref kk]:=z1;have z2':MnT c H (.chg e) t1:=by
    have:(eG st b).2.1=.chg e:=e3;rw[this]at z2;exact z2
   obtain⟨_,v1,hv1,tc,rfl,htc⟩:=z2';have er:dS e=[V.str (kn e.k),.int e.at_,.str e.th]:=by
    obtain⟨k,a,th⟩:=e;have h3:=heo.k3;dsimp only at h3 hk ⊢;rcases h3 with rfl | rfl | rfl
    ·rfl
    ·exact absurd rfl hk
    ·rfl
   have RE:SqT K H tc [V.str (kn e.k),.int e.at_,.str e.th]:=by rw[<-er];exact htc.sq
   refine gq ?_;refine ixv rfl ht rfl ⟨rfl,tsf (bJ 2 (by decide)) (ixv rfl ht rfl ⟨rfl,tst (bL 2 (by decide)) ?_⟩)⟩
   refine⟨_,rfl,m,_,rfl,X.gm,_,rfl,m,_,rfl,X.gp,_,rfl,aP,_,_,_,rfl,rfl,SqL.of X.av.2,h0,_,_,rfl,rfl,aM,_,_,_,rfl,rfl,SqL.of X.ia.2,ea,?_⟩;refine⟨_,rfl,p,_,_,_,rfl,rfl,SqL.of z1'.2,rfl,t1,_,_,_,rfl,rfl,SqT.of hv1,rfl,tc,[V.str (kn e.k),.int e.at_,.str e.th],rfl,RE,rfl,?_⟩;refine⟨_,_,rfl,_,_,rfl,_,_,rfl,rfl,?_⟩;refine⟨_,rfl,_,rfl,rfl,_,rfl,e.th,rfl,?_,λp1 hp1=>?_⟩
   ·have:=heo.th.len;omega
   have s1:=ax (o:=.lst ((R.bb e.th).map V.str)) hp1;have hb1:(R.bl1:Str).length=1:=by trivial
   refine ixv rfl (bj s1 ht) rfl ⟨p1,te,R.bb e.th,f,rfl,SqL.of ae,by omega,bj s1 hte.sq,hf1.ok (by omega),hf,λpl H1 s2 npl hpl=>?_⟩
   have s12:=s1.trans s2;refine⟨R.bl1,pl,bC (R.bb e.th) f,rfl,rfl,SqL.of hpl,by rw[hb1];omega,(sl 3),λt3 ht3=>⟨(sl 2),λtn htn=>?_⟩⟩
   have s3:=s12.new (o:=.tup [V.str (kn e.k),.int e.at_,.str (ky R.bl1 (bC (R.bb e.th) f))]) ht3;have s4:=s3.new (o:=.tup [V.str (ar "change"),.ref t3]) htn;have nt3:H t3=none:=same_none s12 ht3;have ntn:H tn=none:=same_none s3 htn;have n3n:t3≠tn:=az ae htn;have er2:dS ⟨e.k,e.at_,ky R.bl1 (bC (R.bb e.th) f)⟩=[V.str (kn e.k),.int e.at_,.str (ky R.bl1 (bC (R.bb e.th) f))]:=by
    obtain⟨k,a,th⟩:=e;have h3:=heo.k3;dsimp only at h3 hk ⊢;rcases h3 with rfl | rfl | rfl
    ·rfl
    ·exact absurd rfl hk
    ·rfl
   have X2:=X.cl s4;have st2:Step (cz i) c (bz c H) H _:=Step.cl aT s4;have hmn:MnT (bz c H) (upd (upd H1 t3 (.tup [V.str (kn e.k),.int e.at_,.str (ky R.bl1 (bC (R.bb e.th) f))])) tn (.tup [V.str (ar "change"),.ref t3])) (.chg ⟨e.k,e.at_,ky R.bl1 (bC (R.bb e.th) f)⟩) tn :=
    ⟨bx ntn,.ref t3,ae,t3,rfl,bx nt3,.inl (by rw[ao n3n,ae,er2])⟩
   have w1:=z1'.keep (W:=λ_=>False) id (Step.cl id s4)
   have hv2:=bp st2 ct hvt;generalize bz c H=c2 at X2 st2 hmn w1 hv2;generalize upd (upd H1 t3 (.tup [V.str (kn e.k),.int e.at_,.str (ky R.bl1 (bC (R.bb e.th) f))])) tn (.tup [V.str (ar "change"),.ref t3])=H2 at X2 st2 hmn w1 hv2 ⊢;refine⟨_,rfl,p,_,0,0,rfl,rfl,w1.2,rfl,?_⟩;rw[show [V.ref t1,V.ref t2,V.ref kk].set 0 (V.ref tn)=[V.ref tn,V.ref t2,V.ref kk] from rfl]
   obtain⟨s5,X3⟩:=X2.JO hno ev w1 hmn;have hv3:=bp s5 hv2.1 hv2.2;have fin:=st2.trans s5.eT;generalize upd H2 p (.lst [.ref tn,.ref t2,.ref kk])=H3 at s5 X3 hv3 fin ⊢;have ht3:SqT K H3 t (rowOf 2 (.ref te)):=SqT.of hv3.2;refine ixv rfl ht3 rfl ⟨rfl,tsf (f9 2 (by decide)) (ixv rfl ht3 rfl ⟨rfl,tsf (jC 2 (by decide)) (ixv rfl ht3 rfl ⟨(sl 2),λu hu=>⟨u,_,rfl,.inr (SqT.of ae),rfl,rfl,tsf (in2 2 (by decide)) ?_⟩⟩)⟩)⟩
   exact q c2 _ (fin.trans (Step.same aT (ax hu))) (X3.same (ax hu)).at
  |off u =>
   refine aL λGq gq=>?_
   obtain⟨⟨tx,r,h1⟩,_⟩:=sv;obtain⟨k,r',e1,_⟩:=GU h1;have e3:st.carry (.off u)=st.jI k u:=by unfold Ch.carry;rw[e1]
   rw[e3]at q;have hv':v=.int u:=hvv;subst hv';have hla:=I.la;have hkn:=I.Bj (n:=k) (by rw[e1];exact eg)
   have h0:atI (st.av.map nV) 0=some (nV k):=by rw[e1];exact cq (j:=0) rfl
   refine gq ?_;refine ixv rfl ht rfl ⟨rfl,tsf (bJ 3 (by decide)) (ixv rfl ht rfl ⟨rfl,tsf (bL 3 (by decide)) (ixv rfl ht rfl ⟨rfl,tsf (f9 3 (by decide)) (ixv rfl ht rfl ⟨rfl,tsf (jC 3 (by decide)) (ixv rfl ht rfl ⟨(sl 2),λu1 hu1=>⟨u1,_,rfl,.inr (SqT.of ae),rfl,rfl,tst (in2 3 (by decide)) ?_⟩⟩)⟩)⟩)⟩)⟩
   have s1:=ax (o:=.tup [V.str (ar "put off"),V.str (ar "lay")]) hu1;refine⟨_,rfl,dgv rfl (.inl ⟨_,sr (ar "sitting"),.inl (s1 _ _ X.ob),rfl,jW.symm⟩) ⟨(sl 1),λt2 ht2=>?_⟩⟩
   have s2:=s1.new (o:=.tup [V.int st.aQ]) ht2;refine⟨t,t2,_,_,rfl,rfl,bj s2 ht,SqT.of ae,Sd _ _,(sl 3),λz=>absurd z (Sd _ _),λ_ t3 ht3=>?_⟩
   have s3:=s2.new (o:=.tup (rowOf 3 (.int u)++[V.int st.aQ])) ht3;refine⟨t3,_,_,_,rfl,rfl,SqT.of ae,rfl,?_⟩;have X3:=X.same s3;refine⟨_,rfl,dgv rfl X3.gp ⟨(sl 2),λt4 ht4=>?_⟩⟩
   have oA:m≠aA:=cE X.co X.aG.1 (λz=>nomatch z)
   have s4:=ax (o:=.tup [V.int u,.ref aP]) ht4;refine dgv rfl (.inl ⟨_,sr (ar "aside"),.inl (s4 _ _ X3.ob),rfl,ug.symm⟩) (dgv rfl (.inl ⟨_,sr (ar "pile"),.inl (s4 _ _ X3.ob),rfl,oF.symm⟩) ⟨aP,_,_,_,rfl,rfl,SqL.of (s4 _ _ X3.av.2),h0,aA,_,rfl,kQ.k (k:=ki (k:Int)) (s4 _ _ X3.aG.2) ?_,?_⟩)
   ·unfold a5;rw[ba,Tn,ba];omega
   refine⟨(sl 0),λp5 hp5=>?_⟩
   refine aL λGq gq=>?_
   have npA:p5≠aA:=λz=>by rw[z,ae]at hp5;cases hp5
   have npt:p5≠t4:=λz=>by rw[ao npA,z,ae]at hp5;cases hp5
   have hp1:=hp5;rw[ao npA,ao npt]at hp1;obtain⟨c',s6,X6⟩:=X3.jI (u:=u) ht4 hp1 npt hkn;refine gq ?_;refine⟨_,rfl,m,_,rfl,kQ.k (k:=sr (ar "pile")) ((ao (az X3.ob hp1)).trans ((ao oA).trans (s4 _ _ X3.ob))) kc,?_⟩;rw[ye];exact q c' _ ((Step.same aT s3).trans s6.eT) X6.at
  |lay =>
   refine aL λGq gq=>?_
   obtain⟨⟨tx,r,h1⟩,_⟩:=sv;obtain⟨k,r',e1,_⟩:=GU h1;have e3:st.carry .lay=st.jI k st.aQ:=by unfold Ch.carry;rw[e1]
   rw[e3]at q;have hla:=I.la;have hkn:=I.Bj (n:=k) (by rw[e1];exact eg)
   have h0:atI (st.av.map nV) 0=some (nV k):=by rw[e1];exact cq (j:=0) rfl
   refine gq ?_;refine ixv rfl ht rfl ⟨rfl,tsf (bJ 5 (by decide)) (ixv rfl ht rfl ⟨rfl,tsf (bL 5 (by decide)) (ixv rfl ht rfl ⟨rfl,tsf (f9 5 (by decide)) (ixv rfl ht rfl ⟨rfl,tsf (jC 5 (by decide)) (ixv rfl ht rfl ⟨(sl 2),λu1 hu1=>⟨u1,_,rfl,.inr (SqT.of ae),rfl,rfl,tst (in2 5 (by decide)) ?_⟩⟩)⟩)⟩)⟩)⟩
   have s1:=ax (o:=.tup [V.str (ar "put off"),V.str (ar "lay")]) hu1;refine⟨_,rfl,dgv rfl (.inl ⟨_,sr (ar "sitting"),.inl (s1 _ _ X.ob),rfl,jW.symm⟩) ⟨(sl 1),λt2 ht2=>?_⟩⟩
   have s2:=s1.new (o:=.tup [V.int st.aQ]) ht2;refine⟨t,t2,_,_,rfl,rfl,bj s2 ht,SqT.of ae,Sd _ _,(sl 2),λz=>absurd z (Sd _ _),λ_ t3 ht3=>?_⟩
   have s3:=s2.new (o:=.tup (rowOf 5 v++[V.int st.aQ])) ht3;refine⟨t3,_,_,_,rfl,rfl,SqT.of ae,rfl,?_⟩;have X3:=X.same s3;refine⟨_,rfl,dgv rfl X3.gp ⟨(sl 2),λt4 ht4=>?_⟩⟩
   have oA:m≠aA:=cE X.co X.aG.1 (λz=>nomatch z)
   have s4:=ax (o:=.tup [V.int st.aQ,.ref aP]) ht4;refine dgv rfl (.inl ⟨_,sr (ar "aside"),.inl (s4 _ _ X3.ob),rfl,ug.symm⟩) (dgv rfl (.inl ⟨_,sr (ar "pile"),.inl (s4 _ _ X3.ob),rfl,oF.symm⟩) ⟨aP,_,_,_,rfl,rfl,SqL.of (s4 _ _ X3.av.2),h0,aA,_,rfl,kQ.k (k:=ki (k:Int)) (s4 _ _ X3.aG.2) ?_,?_⟩)
   ·unfold a5;rw[ba,Tn,ba];omega
   refine⟨(sl 0),λp5 hp5=>?_⟩
   refine aL λGq gq=>?_
   have npA:p5≠aA:=λz=>by rw[z,ae]at hp5;cases hp5
   have npt:p5≠t4:=λz=>by rw[ao npA,z,ae]at hp5;cases hp5
   have hp1:=hp5;rw[ao npA,ao npt]at hp1;obtain⟨c',s6,X6⟩:=X3.jI (u:=st.aQ) ht4 hp1 npt hkn;refine gq ?_;refine⟨_,rfl,m,_,rfl,kQ.k (k:=sr (ar "pile")) ((ao (az X3.ob hp1)).trans ((ao oA).trans (s4 _ _ X3.ob))) kc,?_⟩;rw[ye];exact q c' _ ((Step.same aT s3).trans s6.eT) X6.at
end
def uh (c:Col)(H:Hp)(t:Addr)(xs:List V):Prop:=c t=none/\H t=some (.tup xs)
def jG (c:Col)(H:Hp):R.cK->Addr->Prop
 | .mat cs,t=>∃L,uh c H t [.str (ar "matter"),.ref L]/\c L=none/\H L=some (.lst ((cs.map (ky R.bl1)).map V.str))
 | .ed m k j ws,t=>∃e,uh c H t [.str (R.kEd m),.ref e]/\TupAt c H e (R.edR k j (ky R.bl1 ws))
 | .pt ws,t=>uh c H t [.str (ar "point"),.str (ky R.bl1 ws)]
 | .nums kd ns,t=>uh c H t (.str kd::ns.map V.int)
theorem uh.c {i:Nat}{c:Col}{H:Hp}{t:Addr}{xs:List V}(h:uh c H t xs):uc i c H t xs:=⟨by rw[h.1];exact aT,h.2⟩
theorem uh.step {W:Option (Nat×Rl)->Prop}{c c':Col}{H H':Hp}{t:Addr}{xs:List V}(s:Step W c c' H H')(h:uh c H t xs):uh c' H' t xs:=bp s h.1 h.2
theorem jG.step {W:Option (Nat×Rl)->Prop}{c c':Col}{H H':Hp}{t:Addr}(s:Step W c c' H H'):∀ {d:R.cK},jG c H d t->jG c' H' d t
 | .mat _,⟨L,a,b1,b2⟩=>⟨L,a.step s,bp s b1 b2⟩
 | .ed _ _ _ _,⟨e,a,b⟩=>⟨e,a.step s,b.step s⟩
 | .pt _,h=>uh.step s h
 | .nums _ _,h=>uh.step s h
theorem jG.c {i:Nat}{c:Col}{H:Hp}{t:Addr}:∀ {d:R.cK},jG c H d t->lX i c H d t
 | .mat _,⟨L,a,b1,b2⟩=>⟨L,a.c,by rw[b1];exact aT,b2⟩
 | .ed _ _ _ _,⟨e,a,b⟩=>⟨e,a.c,b⟩
 | .pt _,h=>uh.c h
 | .nums _ _,h=>uh.c h
theorem jG.kind {c:Col}{H:Hp}{t:Addr}:∀ {d:R.cK},jG c H d t->∃xs,H t=some (.tup (.str (R.eF d)::xs))
 | .mat _,⟨_,a,_⟩=>⟨_,a.2⟩
 | .ed _ _ _ _,⟨_,a,_⟩=>⟨_,a.2⟩
 | .pt _,h=>⟨_,h.2⟩
 | .nums _ _,h=>⟨_,h.2⟩
def Ch.ended (st:Ch)(pre:List Nat)(n:Nat)(wd:Str):Ch:=(if wd=x8 then (st.popped pre n wd).carry (st.mo n) else st.popped pre n wd).opened
def Lz (i:Nat):Sp:=λvs H Q _=>∃(m:Addr) (wd:Str) (c:Col) (st:Ch) (N:Nat) (pre:List Nat) (n:Nat),vs=[.ref m,.str wd]/\fv i c H m st/\Inv N st/\N<=800/\st.av=pre++[n]/\Sg wd=true /\
 ∀c' H' u,Step (cz i) c c' H H'->fv i c' H' m (st.ended pre n wd)->c' u=none->H' u=some (.tup [.str (ar "told"),.str wd])->Q (.ref u) H'
theorem fv.rows {i:Nat}{c:Col}{H:Hp}{m:Addr}{st:Ch}{r:List Str}(h:fv i c H m st):fv i c H m { st with rows:=r }:=by
 obtain⟨aP,aA,aD,aM,ds,ws,es,X⟩:=h.ex;exact⟨aP,aA,aD,aM,ds,ws,es,⟨X.co,X.ob,X.av,X.aG,X.wait,X.dec,X.iy,X.ia,X.ent⟩⟩
def rsT:Rs->List V
 | .num n=>[.str (ar "told"),nV n]
 | .txt z=>[.str (ar "told"),.str z]
 | .exc x=>[.str (xcC x).1,.int (xcC x).2]
def C5 (i:Nat)(c:Col)(H:Hp)(m:Addr)(r:Rs×Ch)(Q:VK):Prop:=∀c' H' u,Step (cz i) c c' H H'->fv i c' H' m r.2->c' u=none->H' u=some (.tup (rsT r.1))->Q (.ref u) H'
def LA (i:Nat):Sp:=λvs H Q _=>∃(m:Addr) (a b:Int) (c:Col) (st:Ch) (N:Nat),vs=[.ref m,.int a,.int b,.int st.bN]/\fv i c H m st/\Inv N st/\N<=800/\(0<=a/\a < 10 ^ 10)/\(0<=b/\b < 10 ^ 10)/\C5 i c H m (jE st a b) Q
def LB (i:Nat):Sp:=λvs H Q _=>∃(m:Addr) (z:Int) (c:Col) (st:Ch) (N:Nat),vs=[.ref m,.int z]/\fv i c H m st/\Inv N st/\N<=800/\-1<=z/\z < 10 ^ 10/\C5 i c H m (stepT st z.toNat) Q
def Mj (i:Nat):Sp:=λvs H Q _=>∃(m t:Addr) (c:Col) (st:Ch) (N:Nat) (d:R.cK),vs=[.ref m,.ref t,.int st.bN]/\fv i c H m st/\Inv N st/\N<=800/\oE d/\jG c H d t/\C5 i c H m (bO st d) Q
theorem z7 {c:Col}{H:Hp}{u:Addr}{o:HO}{W:Option (Nat×Rl)->Prop}(n:¬W none)(hu:H u=none):Step W c (aw c u none) H (upd H u o)/\aw c u none u=none/\(upd H u o) u=some o:=⟨Step.new n hu,aS,ae⟩
section
variable{P:kr}{w:World}{K:bo}{mg:Str->Option Value}{base:Heap}{A:Adr}
theorem yo (T:Txt w.params K mg A){i:Nat}:aX P w K mg base CX0 3 A.AR A.qy ["_law_m","_law_word_here"] (Lz i):=by
 refine T.tP.ok wH (λvs H Q E h=>?_) (λcdv A' outer s H vs Q E hr h=>?_)
 ·obtain⟨m,wd,c,st,N,pre,n,rfl,_⟩:=h;rfl
 ·obtain⟨m,wd,c,st,N,pre,n,rfl,hm,I,hN,e,hwd,q⟩:=h;obtain⟨aP,aA,aD,aM,ds,ws,es,X⟩:=hm.ex;have hu1:=hr.u1;have iO:=hr.units;have sz:fe=16777216:=by decide
  have kc:∀ {v0 v1 v2 v3 v4 v5:V},(mdF v0 v1 v2 v3 v4 v5).length < fe:=by intros;show 6 < fe;decide
  refine⟨_,(ah (aZ (i:=2) wH.nd rfl (ma rfl) (DH fu PySem.F.slot_list_pop PySem.F.type_list_pop Hs (aY hu1 (pv 0) aj (λ_ _=>rfl))))
 (ah (bh (bW fu ko kq bu (aY hu1 (pv 0) aj (λ_ _=>rfl)) (aa (a8 (aa (pv 2) (aa (pv 1) af))) af)))
 (ah (a4 (aC bf (pv 1) aj (aN _))
 (ai (bh (aU (GX (i:=i) T) hr rfl T.IM T.Cw.kp T.IP .nil aV (aa (pv 0) (aa (aU (ib (i:=i) T) (hr.mono (by decide)) rfl T.gQ T.fS.kp T.gR .nil aV (aa (pv 0) (aa (pv 2) af))) af)))))
 aJ)
 (ah (a4 (aC (sN iO) (aY hu1 (pv 0) aj (λ_ _=>rfl)) (bq af) (aN _))
 (ai (eX hu1 (pv 0) aj gb rfl))
 aJ)
 (ai (aI (a8 (aa aj (aa (pv 1) af))))))))),?_⟩
  try dsimp only[bt]
  have hy:(st.av.map nV)[(st.av.map nV).length - 1]?=some (nV n):=by rw[e];simp
  have hdr:(st.av.map nV).dropLast=pre.map nV:=by rw[e,kg];simp
  have oP:m≠aP:=cE X.co X.av.1 (λz=>nomatch z)
  have DP:aD≠aP:=cE X.dec.1 X.av.1 (λz=>nomatch z)
  have ld:=I.ld;refine dgv rfl X.gp ⟨.inl ⟨rfl,_,SqL.of X.av.2⟩,aP,_,_,rfl,rfl,X.av.2,hy,?_⟩;rw[hdr];refine dgv rfl (.inl ⟨_,sr (ar "decided"),.inl ((ao oP).trans X.ob),rfl,uN.symm⟩) ⟨.inl ⟨rfl,_,SqL.of ((ao DP).trans X.dec.2)⟩,_,rfl,_,rfl,(sl 2),λt ht=>?_⟩
  obtain⟨s1,X1⟩:=X.pop (n:=n) (wd:=wd) ht;have ntD:aD≠t:=λz=>by rw[<-z,ao DP,X.dec.2]at ht;cases ht
  refine⟨aD,_,_,rfl,rfl,(ao ntD).trans ((ao DP).trans X.dec.2),by rw[ba,<-X.iy.len];omega,?_⟩
  have st1:=s1.eT;generalize aw c t none=c1 at X1 st1;dsimp only[cf];generalize upd (upd (upd H aP (.lst (pre.map nV))) t (.tup [nV n,.str wd])) aD (.lst (ds.map V.ref++[.ref t]))=H1 at X1 st1 ⊢;clear s1 ht hy hdr;obtain⟨I1,sv⟩:=I.pop e wd hwd;have hn:n∈st.av:=by rw[e];simp
  have hno:=I.bG n hn;have yM:=(I.sj hno).mono (SG N);refine dG (λσ' H'=>σ'=[some (.ref m),some (.str wd),some (nV n)]/\∃c',Step (cz i) c c' H H'/\fv i c' H' m (if wd=x8 then (st.popped pre n wd).carry (st.mo n) else st.popped pre n wd)) ?r (λN' nN=>?f)
  case f =>
   refine⟨_,rfl,rfl,_,rfl,?_⟩
   by_cases hk:wd=x8
   ·refine pM (decide_eq_true (by rw[hk])) ⟨_,rfl,_,rfl,_,rfl,m,n,c1,_,rfl,X1.at,hno,λtt htt=>?_⟩
    refine⟨m,tt,c1,st.popped pre n wd,st.mo n,N+1,rfl,X1.at,htt,I1,by omega,sv,yM,λc2 H2 s2 h2=>?_⟩
    refine nN _ _ ⟨rfl,c2,st1.trans s2,?_⟩;rw[if_pos hk];exact h2
   ·refine pN (decide_eq_false (λz=>hk (by injection z))) (nN _ _ ⟨rfl,c1,st1,?_⟩)
    rw[if_neg hk];exact X1.at
  case r =>
   rintro σ2 H2 ⟨rfl,c2,s2,h2⟩;unfold Ch.ended at q;generalize (if wd=x8 then (st.popped pre n wd).carry (st.mo n) else st.popped pre n wd)=st2 at h2 q
   refine aL λGq gq=>?_
   obtain⟨aP2,aA2,aD2,aM2,ds2,ws2,es2,X2⟩:=h2.ex;refine gq ?_;refine dG (λσ' H'=>σ'=[some (.ref m),some (.str wd),some (nV n)]/\∃c',Step (cz i) c c' H H'/\fv i c' H' m st2.opened) ?r2 (λN' nN=>?f2)
   case f2 =>
    refine dgv rfl X2.gp ⟨(sl 0),λp hp=>?_⟩
    have s3:=ax (o:=.lst []) hp;have X3:=X2.same s3;refine⟨dA st2.av,.list [],fb (SqL.of X3.av.2),oH (SqL.of ae),jY _,oG,_,rfl,?_⟩;rw[jX];cases ep:st2.av with
    |nil =>
     refine cC ⟨_,rfl,m,_,rfl,kQ.k (k:=sr (ar "closed")) X3.ob kc,?_⟩;rw[yd];obtain⟨s4,X4⟩:=X3.attr st2.aQ false;refine nN _ _ ⟨rfl,c2,(s2.trans (Step.same aT s3)).trans s4.eT,?_⟩;have e1:st2.opened={ st2 with aQ:=st2.aQ,closed:=false }:=by unfold Ch.opened;rw[ep,if_pos rfl]
     rw[e1];exact X4.at
    |cons x r =>
     refine bK (nN _ _ ⟨rfl,c2,s2.trans (Step.same aT s3),?_⟩);have e1:st2.opened=st2:=by unfold Ch.opened;rw[ep,if_neg (Sd _ _)];cases st2;cases ep;rfl
     rw[e1];exact X3.at
   case r2 =>
    rintro σ3 H3 ⟨rfl,c3,s3,h3⟩;refine⟨_,rfl,(sl 2),λu hu=>?_⟩
    refine aL λGq gq=>?_
    obtain⟨a1,a2,a3⟩:=z7 (c:=c3) (o:=.tup [V.str (ar "told"),.str wd]) aT hu;refine gq ?_;exact q _ _ u (s3.trans a1) (h3.free (W:=λ_=>False) (λ_=>id) (z7 id hu).1) a2 a3
end
theorem LC (k:Nat)(a b:Int):g9 (nd k) a b=(decide (a > b) && (!decide (k=4) || decide (a≥2 * b))):=by
 unfold g9 nd
 by_cases h:a<=b
 ·rw[if_pos h,decide_eq_false (show ¬a > b by omega),Bool.false_and]
 ·rw[if_neg h,decide_eq_true (show a > b by omega),Bool.true_and]
  by_cases h4:k=4
  ·rw[if_pos h4,decide_eq_true h4,show decide (ar "two thirds"=CL)=false by trivial]
   rfl
  ·rw[if_neg h4,decide_eq_false h4,show decide (ar "more"=CL)=true by trivial]
   rfl
theorem FU (b:Bool):(mK b=x8)↔b=true:=by
 cases b with
 |true=>exact⟨λ_=>rfl,λ_=>rfl⟩
 |false=>exact⟨λz=>absurd z (by trivial),λz=>nomatch z⟩
theorem JP {st:Ch}{pre:List Nat}{n:Nat}{b:Bool}{z:Str}:(if b=true then (st.popped pre n (mK b)).carry (st.mo n) else st.popped pre n (mK b)).qS z={ st.ended pre n (mK b) with rows:=(if b=true then (st.popped pre n (mK b)).carry (st.mo n) else st.popped pre n (mK b)).rows++[z] }:=by
 unfold Ch.qS Ch.ended;cases b with
 |true=>rw[if_pos rfl,if_pos ((FU true).mpr rfl)]
 |false=>rw[if_neg kj,if_neg (λy=>absurd ((FU false).mp y) kj)]
section
variable{P:kr}{w:World}{K:bo}{mg:Str->Option Value}{base:Heap}{A:Adr}
theorem EK (T:Txt w.params K mg A){i:Nat}:aX P w K mg base CX0 4 A.AS A.qz ["_law_m","_law_ayes","_law_noes","_law_seats_here"] (LA i):=by
 refine T.zD.ok qp (λvs H Q E h=>?_) (λcdv A' outer s H vs Q E hr h=>?_)
 ·obtain⟨m,a,b,c,st,N,rfl,_⟩:=h;rfl
 ·obtain⟨m,a,b,c,st,N,rfl,hm,I,hN,ha,hb,q⟩:=h;obtain⟨aP,aA,aD,aM,ds,ws,es,X⟩:=hm.ex;have hu1:=hr.u1;have iO:=hr.units;refine⟨_,(ah (a4 (aC (sN iO) (aY hu1 (pv 0) aj (λ_ _=>rfl)) (bq af) (aN _))
 (ai (aI (a8 (aa aj (aa ag af)))))
 aJ)
 (ah (a4 (aC yR (aW cF (pv 1) (pv 2)) (pv 3) (aN _))
 (ai (aI (a8 (aa aj (aa ag af)))))
 aJ)
 (ah (aZ (i:=4) qp.nd rfl (ma rfl) (gO yR (pv 1) (pv 2) (aN _)))
 (ah (a4 (aC bf (aH aK (aU (ib (i:=i) T) (hr.mono (by decide)) rfl T.gQ T.fS.kp T.gR .nil aV (aa (pv 0) (aa (aH a7 (aY hu1 (pv 0) aj (λ_ _=>rfl)) (kM gi ag) (λ_ _=>rfl)) af))) ag (λ_ _=>rfl)) aj (aN _))
 (ai (aZ (i:=4) qp.nd rfl (ma rfl) (Hb (pv 4) (Dr (gO LV (pv 1) (aW sJ ag (pv 2)) (aN _))))))
 aJ)
 (ai (aI (aU (yo (i:=i) T) hr rfl T.zB T.tP.kp T.zC .nil aV (aa (pv 0) (aa (aH a7 (bq (aa aj (aa aj af))) (bD yS (by rfl) T.Ma Hw (aa (pv 4) af)) (λ_ _=>rfl)) af))))))))),?_⟩
  try dsimp only[bt]
  unfold jE at q;refine dgv rfl X.gp ⟨(sl 0),λp hp=>?_⟩
  have s1:=ax (o:=.lst []) hp;have X1:=X.same s1;refine⟨dA st.av,.list [],fb (SqL.of X1.av.2),oH (SqL.of ae),jY _,oG,_,rfl,?_⟩;rw[jX];generalize upd H p (.lst [])=H1 at s1 X1 ⊢;have say:∀(x:Xc) (st':Ch),st'=st->C5 i c H m (.exc x,st') Q->(xcC x).2=0->∀u,H1 u=none->Q (.ref u) (upd H1 u (.tup [.str (xcC x).1,.int 0])):=λx st' est qq h0 u hu=>by
   subst est;have a1:Step (cz i) c (aw c u none) H (upd H1 u (.tup [.str (xcC x).1,.int 0])):=(Step.same aT s1).trans (Step.new aT hu);refine qq (aw c u none) _ u a1 (X1.free (W:=λ_=>False) (λ_=>id) (Step.new id hu)).at aS ?_
   show (upd H1 u (.tup [.str (xcC x).1,.int 0])) u=some (.tup [.str (xcC x).1,.int (xcC x).2]);rw[h0];exact ae
  rcases R6 st.av with e | ⟨pre,n,e⟩
  ·rw[e]at q ⊢;exact cC ⟨(sl 2),λu hu=>say .nothing st rfl q rfl u hu⟩
  ·rw[R7]at e;have gl:st.av.getLast?=some n:=by rw[e];exact Sw
   have ed:st.av.dropLast=pre:=by rw[e];exact Te
   rw[gl]at q;dsimp only at q;rw[ed]at q;refine pN (by rw[e];simp) ?_
   refine⟨_,rfl,_,rfl,_,_,rfl,rfl,_,rfl,_,_,rfl,rfl,_,rfl,dc (λz=>?_) (λz=>?_)⟩
   ·have z':a+b > st.bN:=of_decide_eq_true z;rw[if_pos z']at q;exact⟨(sl 2),λu hu=>say .tooMany st rfl q rfl u hu⟩
   ·have z':¬a+b > st.bN:=λy=>z (decide_eq_true y)
    rw[if_neg z']at q;have hn:=I.bG n (by rw[e];simp)
    have h0:atI (st.av.map nV) (-1)=some (nV n):=by rw[e,kg];exact fJ _ _
    refine⟨_,rfl,_,rfl,_,_,rfl,rfl,?_⟩;dsimp only[cf];refine dG (λσ' H'=>σ'=[some (.ref m),some (.int a),some (.int b),some (.int st.bN),some (.bl (g9 (nd (st.mo n).k) a b))]/\H'=H1) ?r (λN' nN=>?f)
    case f =>
     refine⟨_,rfl,_,rfl,m,_,rfl,X1.gp,_,rfl,aP,_,_,_,rfl,rfl,SqL.of X1.av.2,h0,m,n,c,st,rfl,X1.at,hn,λt ht=>?_⟩
     obtain⟨v,hv⟩:=ht.kind;refine⟨t,_,_,_,rfl,rfl,SqT.of hv,cv,rfl,_,rfl,?_⟩;rw[f9 _ (st.mo n).k8];have ke:=LC (st.mo n).k a b
     by_cases h4:(st.mo n).k=4
     ·rw[decide_eq_true h4]at ke ⊢;refine cC ⟨_,rfl,_,rfl,?_⟩
      by_cases hab:a > b
      ·rw[decide_eq_true hab]at ke ⊢;refine cC ⟨_,rfl,_,rfl,_,_,rfl,rfl,.inl ⟨by decide,by decide⟩,_,_,rfl,rfl,nN _ _ ⟨?_,rfl⟩⟩
       rw[ke];rfl
      ·rw[decide_eq_false hab]at ke ⊢;refine bK (nN _ _ ⟨?_,rfl⟩);rw[ke];rfl
     ·rw[decide_eq_false h4]at ke ⊢;refine bK (nN _ _ ⟨?_,rfl⟩);rw[ke,Bool.not_false,Bool.true_or,Bool.and_true];rfl
    case r =>
     rintro σ2 H2 ⟨rfl,rfl⟩;generalize g9 (nd (st.mo n).k) a b=kb at q;refine⟨_,rfl,(sl 2),λl hl=>?_⟩
     have s2:=ax (o:=.lst [V.str (ar "lost"),.str (ar "kept")]) hl;have hw:atI [V.str (ar "lost"),.str (ar "kept")] (if kb=true then 1 else 0)=some (.str (mK kb)):=by cases kb <;> rfl
     refine⟨_,rfl,.inr ⟨kb,rfl,l,_,_,_,rfl,rfl,SqL.of ae,hw,m,mK kb,c,st,N,pre,n,rfl,(X1.same s2).at,I,hN,e,Bk kb,λc' H' u s3 h3 cu hu=>?_⟩⟩
     refine q c' H' u ((Step.same aT (s1.trans s2)).trans s3) ?_ cu hu;show fv i c' H' m ((if kb=true then (st.popped pre n (mK kb)).carry (st.mo n) else st.popped pre n (mK kb)).qS _)
     rw[JP];exact h3.rows
theorem EL (T:Txt w.params K mg A){i:Nat}:aX P w K mg base CX0 3 A.AU A.qA ["_law_m","_law_number"] (LB i):=by
 refine T.zE.ok qr (λvs H Q E h=>?_) (λcdv A' outer s H vs Q E hr h=>?_)
 ·obtain⟨m,z,c,st,N,rfl,_⟩:=h;rfl
 ·obtain⟨m,z,c,st,N,rfl,hm,I,hN,hz0,hz1,q⟩:=h;obtain⟨aP,aA,aD,aM,ds,ws,es,X⟩:=hm.ex;have hu1:=hr.u1;have iO:=hr.units;have kc:∀ {v0 v1 v2 v3 v4 v5:V},(mdF v0 v1 v2 v3 v4 v5).length < fe:=by intros;show 6 < fe;decide
  refine⟨_,(ah (a4 (aC (sO iO) (aY hu1 (pv 0) aj (λ_ _=>rfl)) (bq af) (aN _))
 (ai (aI (a8 (aa aj (aa (aU (yi (i:=i) T) hr rfl T.A0 T.vw.kp T.A1 .nil aV (aa (pv 0) af)) af)))))
 aJ)
 (ah (a4 (Dq (sV hu1 (pv 1) (aY hu1 (pv 0) aj (λ_ _=>rfl))))
 (ai (aI (a8 (aa aj (aa ag af)))))
 aJ)
 (ah (vD (aY hu1 (aY hu1 (pv 0) aj (λ_ _=>rfl)) (pv 1) (λ_ _=>rfl)) (Ae rfl (cY (ck (i:=2) qr.nd rfl (ma rfl)) (cY (ck (i:=3) qr.nd rfl (ma rfl)) q0))))
 (ah (a4 (aC nh (aY hu1 (pv 0) aj (λ_ _=>rfl)) (pv 2) (aN _))
 (ai (aI (a8 (aa aj (aa (pv 2) af)))))
 aJ)
 (ah (bh (BY (aY hu1 (pv 0) aj (λ_ _=>rfl)) (pv 1) ⟨rfl,rfl,rfl,rfl⟩))
 (ah (eX hu1 (pv 0) aj (pv 3) rfl)
 (ai (aI (a8 (aa aj (aa (pv 1) af))))))))))),?_⟩
  try dsimp only[bt]
  unfold stepT at q;refine dgv rfl X.gp ⟨(sl 0),λp hp=>?_⟩
  have s1:=ax (o:=.lst []) hp;have X1:=X.same s1;refine⟨dA st.av,.list [],fb (SqL.of X1.av.2),oH (SqL.of ae),jY _,oG,_,rfl,?_⟩;rw[jX];generalize upd H p (.lst [])=H1 at s1 X1 ⊢;cases e:st.av with
  |cons k0 r0 =>
   rw[if_neg (by rw[e];exact Sd _ _)]at q
   refine cC ⟨_,rfl,m,c,st,rfl,X1.at,I.bG,λH2 s2=>⟨(sl 2),λu hu=>?_⟩⟩
   have a1:Step (cz i) c (aw c u none) H _:=(Step.same aT (s1.trans s2)).trans (Step.new (o:=.tup [V.str (ar "bar"),.int (iR st.closed (st.av.map st.mo))]) aT hu);exact q (aw c u none) _ u a1 ((X1.same s2).free (W:=λ_=>False) (λ_=>id) (Step.new id hu)).at aS ae
  |nil =>
   rw[if_pos e]at q;refine bK ?_;have say:∀(x:Xc),C5 i c H m (.exc x,st) Q->(xcC x).2=0->∀u,H1 u=none->Q (.ref u) (upd H1 u (.tup [.str (xcC x).1,.int 0])):=λx qq h0 u hu=>by
    have a1:Step (cz i) c (aw c u none) H (upd H1 u (.tup [.str (xcC x).1,.int 0])):=(Step.same aT s1).trans (Step.new aT hu);refine qq (aw c u none) _ u a1 (X1.free (W:=λ_=>False) (λ_=>id) (Step.new id hu)).at aS ?_
    show (upd H1 u (.tup [.str (xcC x).1,.int 0])) u=some (.tup [.str (xcC x).1,.int (xcC x).2]);rw[h0];exact ae
   by_cases hz:z=-1
   ·subst hz;rw[show ((-1:Int).toNat)=0 from rfl,I.no0]at q
    refine⟨_,rfl,dgv rfl X1.ga ⟨aA,_,rfl,.inl ⟨_,ki (-1),.inl X1.aG.2,rfl,rfl⟩,_,rfl,?_⟩⟩;rw[uf];exact cC ⟨(sl 2),λu hu=>say .pw q rfl u hu⟩
   refine aL λGq gq=>?_
   obtain⟨n,rfl⟩:∃n:Nat,z=(n:Int):=⟨z.toNat,by omega⟩
   rw[Tz]at q;refine gq ?_;refine⟨_,rfl,dgv rfl X1.ga ⟨aA,_,rfl,.inl ⟨_,ki (n:Int),.inl X1.aG.2,rfl,rfl⟩,_,rfl,?_⟩⟩;cases hx:at1 n st.aG with
   |none =>
    rw[hx]at q;rw[mJ (ox hx)];exact cC ⟨(sl 2),λu hu=>say .pw q rfl u hu⟩
   |some x =>
    refine aL λGq gq=>?_
    rw[hx]at q;dsimp only at q;obtain⟨t,pl,hv,ht,hl⟩:=X1.waitOf hx;refine gq ?_;rw[hv];refine bK ?_;refine⟨_,rfl,m,_,rfl,X1.ga,_,rfl,aA,_,rfl,.inl ⟨_,ki (n:Int),.inl X1.aG.2,rfl,hv.symm⟩,t,[V.int x.2.1,.ref pl],rfl,ht.sq,rfl,_,_,rfl,_,_,rfl,rfl,?_⟩;refine⟨_,rfl,m,_,rfl,X1.gs,_,rfl,_,_,rfl,rfl,_,rfl,dc (λy=>?_) (λy=>?_)⟩
    ·have y':st.aQ < x.2.1:=of_decide_eq_true y;rw[if_pos y']at q;refine⟨_,rfl,(sl 2),λu hu=>?_⟩
     have a1:Step (cz i) c (aw c u none) H _:=(Step.same aT s1).trans (Step.new (o:=.tup [V.str (ar "not yet"),.int x.2.1]) aT hu);exact q (aw c u none) _ u a1 (X1.free (W:=λ_=>False) (λ_=>id) (Step.new id hu)).at aS ae
    ·have y':¬st.aQ < x.2.1:=λz=>y (decide_eq_true z)
     rw[if_neg y']at q;have oA:m≠aA:=cE X.co X.aG.1 (λz=>nomatch z)
     refine dgv rfl X1.ga ⟨aA,rfl,.inl ⟨_,.inl X1.aG.2⟩,_,rfl,_,ki (n:Int),_,X1.aG.2,rfl,hv,?_⟩;refine⟨_,rfl,_,rfl,m,_,rfl,kQ.k (k:=sr (ar "pile")) ((ao oA).trans X1.ob) kc,?_⟩;rw[ye];refine aL λGq gq=>?_
     obtain⟨c2,ws2,s2,X2⟩:=X1.mZ hl;refine gq ?_;generalize upd (upd H1 aA (.dK (fA (a5 ((st.aG.map (·.1)).zip ws)) (ki (n:Int))))) m (.dK (mdF (.int st.aQ) (.bl st.closed) (.ref pl) (.ref aA) (.ref aD) (.ref aM)))=H2 at s2 X2 ⊢
     refine⟨_,rfl,(sl 2),λu hu=>?_⟩
     have a1:Step (cz i) c (aw c2 u none) H _:=((Step.same aT s1).trans s2.eT).trans (Step.new (o:=.tup [V.str (ar "told"),nV n]) aT hu);exact q (aw c2 u none) _ u a1 (X2.free (W:=λ_=>False) (λ_=>id) (Step.new id hu)).at.rows aS ae
end
theorem jG.mnt {c:Col}{H:Hp}{t:Addr}:∀ {d:R.cK},Bn d->jG c H d t->MnT c H (cT d) t
 | .mat cs,_,⟨L,a,b1,b2⟩=>⟨a.1,.ref L,a.2,L,rfl,b1,b2⟩
 | .ed true k j ws,h,⟨e,a,b⟩=>⟨a.1,.ref e,a.2,e,rfl,by rw[<-Bh h.1];exact b⟩
 | .ed false k j ws,h,⟨e,a,b⟩=>⟨a.1,.ref e,a.2,e,rfl,by rw[<-Bh h.1];exact b⟩
 | .pt ws,_,a=>⟨a.1,.str (ky R.bl1 ws),a.2,rfl⟩
 | .nums kd ns,h,a=>by
  rcases pB h.1 with ⟨u,rfl,rfl⟩ | ⟨rfl,rfl⟩ | ⟨rfl,rfl⟩ | ⟨rfl,rfl⟩
  ·rw[cT,if_pos rfl];exact⟨a.1,.int u,a.2,rfl⟩
  ·rw[cT,if_neg (by trivial),if_pos rfl]
   exact⟨a.1,.non,a.2,trivial⟩
  ·rw[cT,if_neg (by trivial),if_neg (by trivial),if_pos rfl]
   exact⟨a.1,.non,a.2,trivial⟩
  ·rw[cT,if_neg (by trivial),if_neg (by trivial),if_neg (by trivial)]
   exact⟨a.1,.non,a.2,trivial⟩
theorem JQ:∀k,k < 8->decide (V.str (nm k)=V.str (ar "vote"))=false:=by trivial
theorem JR:∀k,k < 8->decide (V.str (nm k)=V.str (ar "drop"))=false:=by trivial
theorem JS:∀k,k < 8->decide (V.str (nm k)=V.str (ar "take"))=false:=by trivial
theorem EM {st:Ch}{pre:List Nat}{n:Nat}:st.ended pre n jD=(st.popped pre n jD).opened:=by
 unfold Ch.ended;rw[if_neg (by trivial)]
section
variable{P:kr}{w:World}{K:bo}{mg:Str->Option Value}{base:Heap}{A:Adr}
theorem JT (T:Txt w.params K mg A){i:Nat}:aX P w K mg base CX0 5 A.Fl A.rO ["_law_m","_law_deed_here","_law_seats_here"] (Mj i):=by
 refine T.Fp.ok B9 (λvs H Q E h=>?_) (λcdv A' outer s H vs Q E hr h=>?_)
 ·obtain⟨m,t,c,st,N,d,rfl,_⟩:=h;rfl
 ·obtain⟨m,t,c,st,N,d,rfl,hm,I,hN,hd,hz,q⟩:=h;obtain⟨aP,aA,aD,aM,ds,ws,es,X⟩:=hm.ex;have hu1:=hr.u1;have iO:=hr.units;have lim:fe=16777216:=by decide
  refine⟨_,(ah (a4 (aC bf (aH aK (pv 1) ag (λ_ _=>rfl)) aj (aN _))
 (ai (aI (aU (EK (i:=i) T) hr rfl T.Gy T.zD.kp T.Gz .nil aV (aa (pv 0) (aa (aH aK (pv 1) ag (λ_ _=>rfl)) (aa (aH aK (pv 1) ag (λ_ _=>rfl)) (aa (pv 2) af)))))))
 aJ)
 (ah (a4 (aC bf (aH aK (pv 1) ag (λ_ _=>rfl)) aj (aN _))
 (ai (aI (aU (EL (i:=i) T) (hr.mono (by decide)) rfl T.GA T.zE.kp T.GB .nil aV (aa (pv 0) (aa (aH aK (pv 1) ag (λ_ _=>rfl)) af)))))
 aJ)
 (ah (a4 (aC bf (aH aK (pv 1) ag (λ_ _=>rfl)) aj (aN _))
 (ah (a4 (aC (sN iO) (aY hu1 (pv 0) aj (λ_ _=>rfl)) (bq af) (aN _))
 (ai (aI (a8 (aa aj (aa ag af)))))
 aJ)
 (ai (aI (aU (yo (i:=i) T) (hr.mono (by decide)) rfl T.zB T.tP.kp T.zC .nil aV (aa (pv 0) (aa aj af))))))
 aJ)
 (ah (aZ (i:=3) B9.nd rfl (ma rfl) (aU (EI (i:=i) T) (hr.mono (by decide)) rfl T.Gw T.zA.kp T.Gx .nil aV (aa (pv 0) (aa (pv 1) af))))
 (ah (a4 (aC Kd (pv 3) vC (aN _))
 (ai (aI (pv 3)))
 aJ)
 (ah (bh (bW fu ko kq bu (aY hu1 (pv 0) aj (λ_ _=>rfl)) (aa (bq (aa (pv 1) (aa (pv 1) (aa (bq af) af)))) af)))
 (ah (bh (bW fu ko kq bu (aY hu1 (pv 0) aj (λ_ _=>rfl)) (aa (bQ b9 (by rfl) T.mY ic (aa (aY hu1 (pv 0) aj (λ_ _=>rfl)) af)) af)))
 (ai (aI (a8 (aa aj (aa (bQ b9 (by rfl) T.mY ic (aa (aY hu1 (pv 0) aj (λ_ _=>rfl)) af)) af)))))))))))),?_⟩
  try dsimp only[bt]
  cases hd with
  | @Bo a b ha hb =>
   rw[gK]at q;have ht:H t=some (.tup [.str (ar "vote"),.int a,.int b]):=hz.2;refine ixv rfl (SqT.of ht) rfl ⟨rfl,tst (decide_eq_true rfl) ?_⟩;exact⟨_,rfl,ixv rfl (SqT.of ht) rfl (ixv rfl (SqT.of ht) rfl ⟨_,rfl,m,a,b,c,st,N,rfl,hm,I,hN,ha,hb,q⟩)⟩
  |drop =>
   rw[gL]at q;have ht:H t=some (.tup [.str (ar "drop")]):=hz.2;refine ixv rfl (SqT.of ht) rfl ⟨rfl,tsf (by trivial) ?_⟩
   refine ixv rfl (SqT.of ht) rfl ⟨rfl,tsf (by trivial) ?_⟩
   refine ixv rfl (SqT.of ht) rfl ⟨rfl,tst (decide_eq_true rfl) ?_⟩;unfold jT at q;refine dgv rfl X.gp ⟨(sl 0),λp hp=>?_⟩
   have s1:=ax (o:=.lst []) hp;have X1:=X.same s1;refine⟨dA st.av,.list [],fb (SqL.of X1.av.2),oH (SqL.of ae),jY _,oG,_,rfl,?_⟩;rw[jX];generalize upd H p (.lst [])=H1 at s1 X1 ⊢;rcases R6 st.av with e | ⟨pre,n,e⟩
   ·rw[e]at q ⊢;refine cC ⟨(sl 2),λu hu=>?_⟩
    have a1:Step (cz i) c (aw c u none) H (upd H1 u (.tup [.str (ar "nothing"),.int 0])):=(Step.same aT s1).trans (Step.new aT hu);exact q (aw c u none) _ u a1 (X1.free (W:=λ_=>False) (λ_=>id) (Step.new id hu)).at aS ae
   ·rw[R7]at e;have gl:st.av.getLast?=some n:=by rw[e];exact Sw
    have ed:st.av.dropLast=pre:=by rw[e];exact Te
    rw[gl]at q;dsimp only at q;rw[ed]at q;refine pN (by rw[e];simp) ?_
    refine⟨_,rfl,m,jD,c,st,N,pre,n,rfl,X1.at,I,hN,e,(by trivial),λc' H' u s3 h3 cu hu=>?_⟩
    refine q c' H' u ((Step.same aT s1).trans s3) ?_ cu hu;rw[EM]at h3;exact h3.rows
  | @take z h0 h1 =>
   rw[gM]at q;have ht:H t=some (.tup [.str (ar "take"),.int z]):=hz.2;refine ixv rfl (SqT.of ht) rfl ⟨rfl,tsf (by trivial) ?_⟩
   refine ixv rfl (SqT.of ht) rfl ⟨rfl,tst (decide_eq_true rfl) ?_⟩;exact⟨_,rfl,ixv rfl (SqT.of ht) rfl ⟨m,z,c,st,N,rfl,hm,I,hN,h0,h1,q⟩⟩
  |move hd =>
   rw[gN hd]at q;have hmn:=hz.mnt hd;obtain⟨v,ht⟩:=hmn.kind;unfold jU at q;refine ixv rfl (SqT.of ht) cv ⟨rfl,tsf (JQ _ (cT d).k8) ?_⟩;refine ixv rfl (SqT.of ht) cv ⟨rfl,tsf (JS _ (cT d).k8) ?_⟩;refine ixv rfl (SqT.of ht) cv ⟨rfl,tsf (JR _ (cT d).k8) ?_⟩;refine⟨_,rfl,_,rfl,m,t,c,st,N,d,rfl,hm,I,hN,hd,hz.c,λLq H1 s1=>?_,λx hx u H1 s1 nu hu=>?_⟩
   case refine_2 =>
    rw[hx]at q;exact⟨_,rfl,rfl,tst rfl ⟨_,rfl,q (bz c H) H1 u (Step.cl aT s1) (X.cl s1).at (bx nu) hu⟩⟩
   rw[Lq]at q;dsimp only at q;refine⟨_,rfl,rfl,tsf rfl ?_⟩;have X1:=X.same s1;have RF:MnT c H1 (cT d) t:=hmn.step (W:=λ_=>False) (Step.same id s1)
   have lm:=I.lm;have el:es.length=st.made.length:=by rw[<-X1.ent.len,jF]
   have lp:=I.pil.yL;rw[ba]at lp;have nf:st.made.length+1∉st.sf:=λz=>by
    have:=(List.mem_filter.mp z).1;rw[Tg]at this;omega
   have MP:aM≠aP:=cE X.ia.1 X.av.1 (λz=>nomatch z)
   have oM:m≠aM:=cE X.co X.ia.1 (λz=>nomatch z)
   refine dgv rfl X1.gm ⟨.inl ⟨rfl,_,SqL.of X1.ia.2⟩,_,rfl,_,rfl,(sl 0),λk hk=>⟨(sl 3),λp hp=>?_⟩⟩
   have npk:p≠k:=λz=>by rw[z,ae]at hp;cases hp
   have hp1:H1 p=none:=by rw[ao npk]at hp;exact hp
   have s2:=(ax (o:=.lst []) hk).new (o:=.lst [.ref t,.ref t,.ref k]) hp;have X2:=X1.same s2;refine⟨aM,es,.ref p,rfl,rfl,X2.ia.2,by omega,?_⟩
   refine aL λGq gq=>?_
   obtain⟨c',s3,X3⟩:=X1.moved (row:=R.lQ d) (by rw[I.kk];exact nf) (by rw[I.ff];exact nf) RF hk hp1 npk
   refine gq ?_;generalize upd (upd H1 k (.lst [])) p (.lst [.ref t,.ref t,.ref k])=H2 at s2 X2 s3 X3 ⊢;have eln:(((es++[V.ref p]).length:Nat):Int)=((st.made.length+1:Nat):Int):=by rw[ka,el];rfl
   refine dgv rfl (.inl ⟨_,sr (ar "pile"),.inl ((ao oM).trans X2.ob),rfl,oF.symm⟩) ⟨.inl ⟨rfl,_,SqL.of ((ao MP.symm).trans X2.av.2)⟩,dgv rfl (.inl ⟨_,sr (ar "motions"),.inl ((ao oM).trans X2.ob),rfl,uO.symm⟩) ⟨aM,_,rfl,.inl (SqL.of ae),?_⟩⟩;refine⟨aP,st.av.map nV,nV (st.made.length+1),rfl,by rw[eln];rfl,(ao MP.symm).trans X2.av.2,by rw[ba];omega,?_⟩
   generalize upd (upd H2 aM (.lst (es++[.ref p]))) aP (.lst (st.av.map nV++[nV (st.made.length+1)]))=H3 at s3 X3 ⊢;refine dgv rfl X3.gm ⟨aM,_,rfl,.inl (SqL.of X3.ia.2),(sl 2),λu hu=>?_⟩
   rw[eln];have a1:Step (cz i) c (aw c' u none) H (upd H3 u (.tup [V.str (ar "told"),nV (st.made.length+1)])):=((Step.same aT s1).trans s3.eT).trans (Step.new aT hu);exact q (aw c' u none) _ u a1 (X3.free (W:=λ_=>False) (λ_=>id) (Step.new id hu)).at aS ae
theorem C6 (T:Txt w.params K mg A):aX P w K mg base CX0 1 A.Ii A.wN [] Lu:=by
 refine T.AZ.ok Ic (λvs H Q E h=>?_) (λcdv A' outer s H vs Q E hr h=>?_)
 ·obtain⟨rfl,_⟩:=h;rfl
 ·obtain⟨rfl,q⟩:=h;refine⟨_,(ai (aI (KI (kS aj ag (kS aj gb (kS aj (bq af) (kS aj kR (kS aj (bq af) (kS aj (bq af) KH)))))) rfl rfl (by decide) (by decide)))),?_⟩
  try dsimp only[bt]
  refineλm h0=>⟨(sl 0),λaP h1=>λaA h2=>⟨(sl 0),λaD h3=>⟨(sl 0),λaM h4=>?_⟩⟩⟩
  have s1:=ax (o:=.dK []) h0;have s2:=ax (o:=.lst []) h1;have s3:=ax (o:=.dK []) h2;have s4:=ax (o:=.lst []) h3;have s5:=ax (o:=.lst []) h4;have n1:=same_none s1 h1;have n2:=same_none (s1.trans s2) h2;have n3:=same_none ((s1.trans s2).trans s3) h3;have n4:=same_none (((s1.trans s2).trans s3).trans s4) h4;have m1:m≠aP:=az ae h1;have m2:m≠aA:=az (s2 _ _ ae) h2;have m3:m≠aD:=az ((s2.trans s3) _ _ ae) h3;have m4:m≠aM:=az (((s2.trans s3).trans s4) _ _ ae) h4;have p2:aP≠aA:=az ae h2;have p3:aP≠aD:=az (s3 _ _ ae) h3;have p4:aP≠aM:=az ((s3.trans s4) _ _ ae) h4;have q3:aA≠aD:=az ae h3;have q4:aA≠aM:=az (s4 _ _ ae) h4;have r4:aD≠aM:=az ae h4;refine⟨(((s2.trans s3).trans s4).trans s5) _ _ ae,mdF (.int 1) (.bl false) (.ref aP) (.ref aA) (.ref aD) (.ref aM),rfl,(by show 6<=15;decide),?_⟩
  rw[N7];refine q m _ λi c n=>⟨aw (aw (aw (aw (aw c m (some (i,.ob))) aP (some (i,.av))) aA (some (i,.aG))) aD (some (i,.decided))) aM (some (i,.made)),⟨id,?_,?_,?_⟩,aP,aA,aD,aM,[],[],[],?_⟩
  ·exactλa v e _=>(((((s1.trans s2).trans s3).trans s4).trans s5).own h0) a v e
  ·exactλa v e=>⟨v,(((((s1.trans s2).trans s3).trans s4).trans s5).own h0) a v e⟩
  ·intro a v e _;rw[au (az e n4),au (az e n3),au (az e n2),au (az e n1),au (az e h0)]
  ·refine⟨?_,ae,⟨?_,?_⟩,⟨?_,?_⟩,.nil,⟨?_,?_⟩,.nil,⟨?_,?_⟩,.nil⟩
   ·rw[au m4,au m3,au m2,au m1,aS]
   ·rw[au p4,au p3,au p2,aS]
   ·rw[ao m1.symm,ao p4,ao p3,ao p2,ae];rfl
   ·rw[au q4,au q3,aS]
   ·rw[ao m2.symm,ao q4,ao q3,ae];rfl
   ·rw[au r4,aS]
   ·rw[ao m3.symm,ao r4,ae];rfl
   ·rw[aS]
   ·rw[ao m4.symm,ae]
end
def JU:Sp:=λvs H Q _=>∃(c n:Int),vs=[.int c,.int n]/\1<=n/\n<=1000000000/\∀(a b:Int) (t:Addr) (H':Hp),(0<=a/\a < 10 ^ 10)->(0<=b/\b < 10 ^ 10)->bc H H'->H t=none->H' t=some (.tup [.str (ar "vote"),.int a,.int b])->Q (.ref t) H'
def JV (i:Nat):Sp:=λvs H Q _=>∃(m:Addr) (z:Int) (c:Col) (st:Ch) (N:Nat),vs=[.ref m,.int z]/\fv i c H m st/\Inv N st/\∀(j:Int) (H':Hp),0<=j->j < 20->bc H H'->Q (.int j) H'
def C8 (i:Nat):Sp:=λvs H Q _=>∃(m:Addr) (z n:Int) (c:Col) (st:Ch) (N:Nat),vs=[.ref m,.int z,.int n]/\fv i c H m st/\Inv N st/\N<=191/\1<=n/\n<=1000000000 /\
 ∀(d:R.cK) (t:Addr) (H':Hp),oE d->jG (bz c H) H' d t->bc H H'->Q (.ref t) H'
theorem LD {xs:List Int}{j:Int}(h0:0<=j)(h1:j < xs.length)(hx:∀x∈xs,0<=x/\x < 20):∃x:Int,atI (xs.map V.int) j=some (.int x)/\0<=x/\x < 20:=by
 obtain⟨k,rfl⟩:∃k:Nat,j=(k:Int):=⟨j.toNat,by omega⟩
 have hk:k < xs.length:=by omega
 refine⟨xs[k],?_,hx _ (List.getElem_mem hk)⟩;refine cq ?_;rw[R0,tu hk];rfl
section
variable{P:kr}{w:World}{K:bo}{mg:Str->Option Value}{base:Heap}{A:Adr}
theorem GY (T:Txt w.params K mg A):aX P w K mg base CX0 1 A.Ec A.tI ["_law_cell","_law_seats_here"] JU:=by
 refine T.Cy.ok lb (λvs H Q E h=>?_) (λcdv A' outer s H vs Q E hr h=>?_)
 ·obtain⟨c,n,rfl,_⟩:=h;rfl
 ·obtain⟨c,n,rfl,n1,n2,q⟩:=h;refine⟨_,(ah (aZ (i:=2) lb.nd rfl (ma rfl) (aW bH (pv 0) (aW cF (pv 1) ag)))
 (ah (aZ (i:=3) lb.nd rfl (ma rfl) (aW bH (aW bU (pv 0) ag) (aW i3 (aW cF (pv 1) ag) (pv 2))))
 (ah (a4 (aC bf (aW bH (aW bU (pv 0) ag) ag) ag (aN _))
 (ai (aZ (i:=3) lb.nd rfl (ma rfl) (aW i3 (aW cF (aW bU (pv 2) ag) (aW bH (aW bU (pv 0) ag) ag)) ag)))
 aJ)
 (ah (a4 (aC bf (aW bH (aW bU (pv 0) ag) ag) ag (aN _))
 (ai (aZ (i:=3) lb.nd rfl (ma rfl) (aW cF (aW i3 (pv 1) (pv 2)) (aW bH (aW bU (pv 0) ag) ag))))
 aJ)
 (ai (aI (a8 (aa aj (aa (pv 2) (aa (bQ (oO rfl) (by rfl) T.Fs An (aa ag (aa (pv 3) af))) af)))))))))),?_⟩
  try dsimp only[bt]
  have a0:0<=c % (n+1):=SS _ (by omega)
  have a1:c % (n+1) < n+1:=Sy _ (by omega)
  refine⟨_,rfl,_,rfl,_,_,rfl,rfl,_,_,rfl,rfl,(by show (0:Int) < n+1;omega),?_⟩
  dsimp only[cf];generalize c % (n+1)=a at a0 a1 ⊢;refine⟨_,rfl,_,_,rfl,rfl,⟨by decide,by decide⟩,_,rfl,_,_,rfl,rfl,_,rfl,_,_,rfl,rfl,_,_,rfl,rfl,(by show (0:Int) < n+1 - a;omega),?_⟩
  dsimp only[cf];have b0:0<=c / 7 % (n+1 - a):=SS _ (by omega)
  have b1:c / 7 % (n+1 - a) < n+1 - a:=Sy _ (by omega)
  generalize c / 7 % (n+1 - a)=b at b0 b1 ⊢;refine dG (λσ' H'=>H'=H/\∃b:Int,σ'=[some (.int c),some (.int n),some (.int a),some (.int b)]/\-1<=b/\b < 10000000000) ?r (λN' nN=>?f)
  case f =>
   refine⟨_,rfl,_,_,rfl,rfl,⟨by decide,by decide⟩,_,_,rfl,rfl,(by show (0:Int) < 4;decide),rfl,_,rfl,dc (λ_=>?_) (λ_=>?_)⟩
   ·refine⟨_,rfl,_,_,rfl,rfl,⟨by decide,by decide⟩,_,rfl,_,_,rfl,rfl,⟨by decide,by decide⟩,_,_,rfl,rfl,(by show (0:Int) < 3;decide),_,_,rfl,rfl,_,_,rfl,rfl,nN _ _ ⟨rfl,_,rfl,?_,?_⟩⟩
    ·omega
    ·omega
   ·exact nN _ _ ⟨rfl,b,rfl,by omega,by omega⟩
  case r =>
   rintro σ2 H2 ⟨rfl,b,rfl,c0,c1⟩;refine dG (λσ' H'=>H'=H2/\∃b:Int,σ'=[some (.int c),some (.int n),some (.int a),some (.int b)]/\-1<=b/\b < 10000000000) ?r (λN' nN=>?f)
   case f =>
    refine⟨_,rfl,_,_,rfl,rfl,⟨by decide,by decide⟩,_,_,rfl,rfl,(by show (0:Int) < 16;decide),rfl,_,rfl,dc (λ_=>?_) (λ_=>?_)⟩
    ·refine⟨_,rfl,_,rfl,_,_,rfl,rfl,_,rfl,_,_,rfl,rfl,⟨by decide,by decide⟩,_,_,rfl,rfl,(by show (0:Int) < 2;decide),_,_,rfl,rfl,nN _ _ ⟨rfl,_,rfl,?_,?_⟩⟩
     ·omega
     ·omega
    ·exact nN _ _ ⟨rfl,b,rfl,by omega,by omega⟩
   case r =>
    rintro σ3 H3 ⟨rfl,b,rfl,c0,c1⟩;refine⟨_,rfl,_,rfl,_,_,rfl,(sl 3),λu hu=>?_⟩
    refine q a (if b > 0 then b else 0) u _ ⟨a0,by omega⟩ ⟨?_,?_⟩ (ax hu) hu ae
    ·split <;> omega
    ·split <;> omega
theorem C9 (T:Txt w.params K mg A){i:Nat}:aX P w K mg base CX0 2 A.wQ A.nM ["_law_m","_law_way"] (JV i):=by
 refine T.xm.ok uF (λvs H Q E h=>?_) (λcdv A' outer s H vs Q E hr h=>?_)
 ·obtain⟨m,z,c,st,N,rfl,_⟩:=h;rfl
 ·obtain⟨m,z,c,st,N,rfl,hm,I,q⟩:=h;obtain⟨aP,aA,aD,aM,ds,ws,es,X⟩:=hm.ex;have hu1:=hr.u1;have iO:=hr.units;refine⟨_,(ah (a4 (aC (sN iO) (aY hu1 (pv 0) aj (λ_ _=>rfl)) (bq af) (aN _))
 (ai (aI (aH a7 (bq (aa ag (aa ag (aa ag (aa ag (aa ag af)))))) (aW bH (pv 1) ag) (λ_ _=>rfl))))
 aJ)
 (ah (aZ (i:=2) uF.nd rfl (ma rfl) (aU (ib (i:=i) T) hr rfl T.gQ T.fS.kp T.gR .nil aV (aa (pv 0) (aa (aH a7 (aY hu1 (pv 0) aj (λ_ _=>rfl)) (kM gi ag) (λ_ _=>rfl)) af))))
 (ah (a4 (aC bf (aH aK (pv 2) ag (λ_ _=>rfl)) aj (aN _))
 (ai (aI (aH a7 (bq (aa ag (aa ag (aa ag (aa ag (aa ag (aa ag (aa ag af)))))))) (aW bH (pv 1) ag) (λ_ _=>rfl))))
 aJ)
 (ah (a4 (PW.pt (pw_and (aC bf (aH aK (pv 2) ag (λ_ _=>rfl)) aj (aN _)) (pw_and1 (aC um (aH aK (aH aK (pv 2) ag (λ_ _=>rfl)) ag (λ_ _=>rfl)) aj (aN _)))))
 (ai (aI (aH a7 (bq (aa ag (aa ag (aa ag (aa ag (aa ag af)))))) (aW bH (pv 1) ag) (λ_ _=>rfl))))
 aJ)
 (ai (aI (aH a7 (bq (aa ag (aa ag (aa ag (aa ag (aa ag af)))))) (aW bH (pv 1) ag) (λ_ _=>rfl)))))))),?_⟩
  try dsimp only[bt]
  have say:∀(xs:List Int) (k:Int) (H1:Hp) (p:Addr),bc H H1->H1 p=none->k=(xs.length:Int)->0 < k->(∀x∈xs,0<=x/\x < 20)->∀R:V->Hp->Prop,(∀x:Int,Q (.int x) (upd H1 p (.lst (xs.map V.int)))->R (.int x) (upd H1 p (.lst (xs.map V.int))))->∃x,atI (xs.map V.int) (z % k)=some x/\R x (upd H1 p (.lst (xs.map V.int))):=by
   intro xs k H1 p s1 hp ek hk hx R hR;obtain⟨x,h1,h2,h3⟩:=LD (j:=z % k) (SS _ (by omega)) (by rw[<-ek];exact Sy _ hk) hx
   exact⟨_,h1,hR x (q x _ h2 h3 (s1.new hp))⟩
  refine dgv rfl X.gp ⟨(sl 0),λp hp=>?_⟩
  have s1:=ax (o:=.lst []) hp;have X1:=X.same s1;refine⟨dA st.av,.list [],fb (SqL.of X1.av.2),oH (SqL.of ae),jY _,oG,_,rfl,?_⟩;rw[jX];generalize upd H p (.lst [])=H1 at s1 X1 ⊢;rcases R6 st.av with e | ⟨pre,n,e⟩
  ·rw[e];refine cC ⟨(sl 5),λp2 hp2=>?_⟩
   refine aL λGq gq=>?_
   obtain⟨x,h1,h2⟩:=say [0,1,18,10,0] 5 H1 p2 s1 hp2 rfl (by decide) (by decide) (λv H=>Q v H) (λ_ h=>h)
   refine gq ?_;exact⟨_,rfl,_,_,rfl,rfl,(by show (0:Int) < 5;decide),p2,_,_,_,rfl,rfl,SqL.of ae,h1,h2⟩
  rw[R7]at e;have hn:=I.bG n (by rw[e];simp)
  have h0:atI (st.av.map nV) (-1)=some (nV n):=by rw[e,kg];exact fJ _ _
  refine pN (by rw[e];simp) ?_
  refine⟨_,rfl,_,rfl,m,_,rfl,X1.gp,_,rfl,aP,_,_,_,rfl,rfl,SqL.of X1.av.2,h0,m,n,c,st,rfl,X1.at,hn,λt ht=>?_⟩
  refine aL λGq gq=>?_
  obtain⟨_,v,hv,hvv⟩:=ht;refine gq ?_;refine ixv rfl (SqT.of hv) cv ⟨rfl,_,rfl,dc (λ_=>?_) (λ_=>?_)⟩
  ·refine⟨(sl 7),λp2 hp2=>?_⟩
   refine aL λGq gq=>?_
   obtain⟨x,h1,h2⟩:=say [2,3,4,12,7,9,8] 7 H1 p2 s1 hp2 rfl (by decide) (by decide) (λv H=>Q v H) (λ_ h=>h)
   refine gq ?_;exact⟨_,rfl,_,_,rfl,rfl,(by show (0:Int) < 7;decide),p2,_,_,_,rfl,rfl,SqL.of ae,h1,h2⟩
  refine ixv rfl (SqT.of hv) cv ⟨rfl,_,rfl,?_⟩;rw[bJ _ (st.mo n).k8]
  by_cases h1:(st.mo n).k=1
  case neg =>
   rw[decide_eq_false h1];refine bK (bK ⟨(sl 5),λp2 hp2=>?_⟩)
   refine aL λGq gq=>?_
   obtain⟨x,h1,h2⟩:=say [12,13,12,14,15] 5 H1 p2 s1 hp2 rfl (by decide) (by decide) (λv H=>Q v H) (λ_ h=>h)
   refine gq ?_;exact⟨_,rfl,_,_,rfl,rfl,(by show (0:Int) < 5;decide),p2,_,_,_,rfl,rfl,SqL.of ae,h1,h2⟩
  rw[decide_eq_true h1];refine aL λGq gq=>?_
  obtain⟨e,emo⟩:∃e,st.mo n=.chg e:=by
   cases hmo:st.mo n with
   |chg e=>exact⟨e,rfl⟩
   |_=>rw[hmo]at h1;simp[Mn.k]at h1
  rw[emo]at hv hvv;obtain⟨tc,rfl,htc⟩:=hvv;refine gq ?_;refine cC (ixv rfl (SqT.of hv) rfl ⟨tc,_,_,_,rfl,rfl,htc.sq,kF e,rfl,_,rfl,dc (λ_=>?_) (λ_=>?_)⟩)
  ·refine⟨(sl 5),λp2 hp2=>?_⟩
   refine aL λGq gq=>?_
   obtain⟨x,h1,h2⟩:=say [5,6,5,12,14] 5 H1 p2 s1 hp2 rfl (by decide) (by decide) (λv H=>Q v H) (λ_ h=>h)
   refine gq ?_;exact⟨_,rfl,_,_,rfl,rfl,(by show (0:Int) < 5;decide),p2,_,_,_,rfl,rfl,SqL.of ae,h1,h2⟩
  ·refine⟨(sl 5),λp2 hp2=>?_⟩
   refine aL λGq gq=>?_
   obtain⟨x,h1,h2⟩:=say [12,13,12,14,15] 5 H1 p2 s1 hp2 rfl (by decide) (by decide) (λv H=>Q v H) (λ_ h=>h)
   refine gq ?_;exact⟨_,rfl,_,_,rfl,rfl,(by show (0:Int) < 5;decide),p2,_,_,_,rfl,rfl,SqL.of ae,h1,h2⟩
end
theorem Qd {N:Nat}{e:Ed}(h:EdB (12+N) e)(hN:N<=800):e.th.length+2<=fe/\(R.bb e.th).length<=900:=by
 have lim:fe=16777216:=by decide
 have h1:=(h.ok (by omega)).th.len
 have h2:=h.words.2;exact⟨by omega,by omega⟩
theorem yp:∀(as:List (Nat×Int×List Nat)) (ws:List V),as.length=ws.length->(a5 ((as.map (·.1)).zip ws)).map (·.1)=(as.map λx=>(x.1:Int)).map ki:=by
 intro as
 induction as with
 |nil=>intro ws _;cases ws <;> rfl
 |cons a as ih =>
  intro ws h;cases ws with
  |nil=>cases h
  |cons w ws =>
   rw[gr,b6,gr,ih ws (by simpa using h)]
   rfl
section
variable{P:kr}{w:World}{K:bo}{mg:Str->Option Value}{base:Heap}{A:Adr}
theorem GZ (T:Txt w.params K mg A){i:Nat}:aX P w K mg base CX0 3 A.AV A.o9 ["_law_m","_law_cell","_law_seats_here"] (C8 i):=by
 have qW:aX P w K mg base CX0 2 A.rN A.jO ["_law_cell"] yg:=CZ T;refine T.Cz.ok dg (λvs H Q E h=>?_) (λcdv A' outer s H vs Q E hr h=>?_)
 ·obtain⟨m,z,n,c,st,N,rfl,_⟩:=h;rfl
 ·obtain⟨m,z,n,c,st,N,rfl,hm,I,hN,n1,n2,q⟩:=h;obtain⟨aP,aA,aD,aM,ds,ws,es,X⟩:=hm.ex;have hu1:=hr.u1;have iO:=hr.units;have oI:Room 2 _:=hr;refine⟨_,(ah (aZ (i:=3) dg.nd rfl (ma rfl) (aW bH (pv 1) ag))
 (ah (aZ (i:=4) dg.nd rfl (Or.inr rfl) (aW bU (pv 1) ag))
 (ah (a4 (aC yR (aW bH (pv 4) ag) ag (aN _))
 (ai (aZ (i:=3) dg.nd rfl (ma rfl) (aU (C9 (i:=i) T) hr rfl T.Eg T.xm.kp T.Eh .nil aV (aa (pv 0) (aa (pv 3) af)))))
 aJ)
 (ah (aZ (i:=4) dg.nd rfl (Or.inr rfl) (aW bU (pv 4) ag))
 (ah (aZ (i:=5) dg.nd rfl (ma rfl) ag)
 (ah (aZ (i:=6) dg.nd rfl (ma rfl) aj)
 (ah (a4 (aC (sO iO) (aY hu1 (pv 0) aj (λ_ _=>rfl)) (bq af) (aN _))
 (ah (aZ (i:=7) dg.nd rfl (ma rfl) (aU (ib (i:=i) T) (hr.mono (by decide)) rfl T.gQ T.fS.kp T.gR .nil aV (aa (pv 0) (aa (aH a7 (aY hu1 (pv 0) aj (λ_ _=>rfl)) ag (λ_ _=>rfl)) af))))
 (ah (aZ (i:=8) dg.nd rfl (ma rfl) (aU (ib (i:=i) T) (hr.mono (by decide)) rfl T.gQ T.fS.kp T.gR .nil aV (aa (pv 0) (aa (aH a7 (aY hu1 (pv 0) aj (λ_ _=>rfl)) (kM gi ag) (λ_ _=>rfl)) af))))
 (ah (a4 (aC bf (aH aK (pv 7) ag (λ_ _=>rfl)) aj (aN _))
 (ai (aZ (i:=5) dg.nd rfl (ma rfl) (bQ b9 (by rfl) T.mY ic (aa (aH aK (pv 7) ag (λ_ _=>rfl)) af))))
 aJ)
 (ai (a4 (PW.pt (pw_and (aC bf (aH aK (pv 8) ag (λ_ _=>rfl)) aj (aN _)) (pw_and1 (aC um (aH aK (aH aK (pv 8) ag (λ_ _=>rfl)) ag (λ_ _=>rfl)) aj (aN _)))))
 (ai (aZ (i:=6) dg.nd rfl (ma rfl) (aH aK (aH aK (pv 8) ag (λ_ _=>rfl)) ag (λ_ _=>rfl))))
 aJ)))))
 aJ)
 (ah (a4 (aC nh (pv 3) ag (aN _))
 (ai (aI (a8 (aa aj (aa (oW (scope:=rL) Cb rfl (oN rfl T.vx (aa (aW bH (pv 4) ag) af)) (λ_ _ _ _ _=>(aU qW oI rfl T.qG T.mz.kp T.qH .nil aV (aa (aW cF (aW bU (pv 5) ag) (aW sJ ag (pv 0))) af)))) af)))))
 aJ)
 (ah (a4 (aC nh (pv 3) ag (aN _))
 (ai (aI (a8 (aa aj (aa (aU (zX T) (hr.mono (by decide)) rfl T.Co T.xf.kp T.Cp .nil aV (aa (pv 4) (aa (pv 5) (aa (aU qW oI rfl T.qG T.mz.kp T.qH .nil aV (aa (aW bU (pv 4) ag) af)) af)))) af)))))
 aJ)
 (ah (a4 (aC nh (pv 3) ag (aN _))
 (ai (aI (a8 (aa aj (aa (aU (zX T) (hr.mono (by decide)) rfl T.Co T.xf.kp T.Cp .nil aV (aa (pv 4) (aa (bQ b9 (by rfl) T.mY ic (aa (aU (mM T) (hr.mono (by decide)) rfl T.iW T.gF.kp T.iX .nil aV (aa (pv 6) af)) af)) (aa (aU (zW T) (hr.mono (by decide)) rfl T.Cm T.xb.kp T.Cn .nil aV (aa (aW bU (pv 4) ag) af)) af)))) af)))))
 aJ)
 (ah (a4 (aC bf (pv 3) ag (aN _))
 (ai (aI (a8 (aa aj (aa (bQ (oO rfl) (by rfl) T.Fs An (aa ag (aa (aW i3 (aW cF (aY hu1 (pv 0) aj (λ_ _=>rfl)) (aW bH (pv 4) ag)) ag) af))) af)))))
 aJ)
 (ah (a4 (aC nh (pv 3) ag (aN _))
 (ai (aI (aH a7 (bq (aa (a8 (aa aj af)) (aa (a8 (aa aj af)) (aa (a8 (aa aj af)) af)))) (aW i3 (pv 3) ag) (λ_ _=>rfl))))
 aJ)
 (ah (a4 (aC bf (pv 3) ag (aN _))
 (ai (aI (a8 (aa aj (aa (aU qW oI rfl T.qG T.mz.kp T.qH .nil aV (aa (pv 4) af)) af)))))
 aJ)
 (ah (a4 (aC nh (pv 3) ag (aN _))
 (ai (aI (a8 (aa aj (aa (aW cF ag (aW bH (pv 4) (pv 2))) (aa ag af))))))
 aJ)
 (ah (a4 (aC nh (pv 3) ag (aN _))
 (ai (aI (aU (GY T) (hr.mono (by decide)) rfl T.IQ T.Cy.kp T.IS .nil aV (aa (pv 4) (aa (pv 2) af)))))
 aJ)
 (ah (a4 (aC bf (pv 3) ag (aN _))
 (ai (aI (a8 (aa aj af))))
 aJ)
 (ah (a4 (PW.pt (pw_and (aC (KN hu1) (aY hu1 (pv 0) aj (λ_ _=>rfl)) kR (aN _)) (pw_and1 (aC yR (aW bH (pv 4) ag) ag (aN _)))))
 (ai (aI (a8 (aa aj (aa (aH a7 (bQ (l8 hr.hd) (by rfl) T.xo sX (aa (aY hu1 (pv 0) aj (λ_ _=>rfl)) af)) (aW bH (aW bU (pv 4) ag) (bQ zd (by rfl) T.mY ic (aa (aY hu1 (pv 0) aj (λ_ _=>rfl)) af))) (λ_ _=>rfl)) af)))))
 aJ)
 (ai (aI (a8 (aa aj (aa (aW i3 (aW bH (aW bU (pv 4) ag) (aW cF (bQ b9 (by rfl) T.mY ic (aa (aY hu1 (pv 0) aj (λ_ _=>rfl)) af)) ag)) ag) af)))))))))))))))))))))),?_⟩
  try dsimp only[bt]
  have lim:fe=16777216:=by decide
  have e10:(10:Int) ^ 10=10000000000:=by decide
  refine⟨_,rfl,_,_,rfl,rfl,(by show (0:Int) < 20;decide),_,rfl,_,_,rfl,rfl,⟨by decide,by decide⟩,?_⟩
  dsimp only[cf];have y0:0<=z % 20:=SS _ (by decide)
  have y1:z % 20 < 20:=Sy _ (by decide)
  generalize z % 20=y at y0 y1 ⊢;generalize z / 20=x;refine dG (λσ' H'=>∃y:Int,σ'=[some (.ref m),some (.int z),some (.int n),some (.int y),some (.int x),none,none,none,none]/\0<=y/\y < 20/\bc H H') ?r1 (λN' nN=>?f1)
  case f1 =>
   refine⟨_,rfl,_,_,rfl,rfl,(by show (0:Int) < 3;decide),_,_,rfl,rfl,_,rfl,dc (λ_=>?_) (λ_=>?_)⟩
   ·exact⟨_,rfl,_,rfl,m,y,c,st,N,rfl,hm,I,λj H1 j0 j1 s1=>nN _ _ ⟨j,rfl,j0,j1,s1⟩⟩
   ·exact nN _ _ ⟨y,rfl,y0,y1,λ_ _ h=>h⟩
  case r1 =>
  clear y0 y1;rintro σ1 H1 ⟨y,rfl,y0,y1,s1⟩;refine⟨_,rfl,_,_,rfl,rfl,⟨by decide,by decide⟩,?_⟩
  dsimp only[cf];generalize x / 3=x;refine dG (λσ' H'=>σ'=[some (.ref m),some (.int z),some (.int n),some (.int y),some (.int x),some (.int 1),none,none,none]/\H'=H1) ?ra (λN' nN=>nN _ _ ⟨rfl,rfl⟩)
  case ra =>
  rintro σa Ha ⟨rfl,rfl⟩;refine dG (λσ' H'=>σ'=[some (.ref m),some (.int z),some (.int n),some (.int y),some (.int x),some (.int 1),some (.str (ar "")),none,none]/\H'=Ha) ?rb (λN' nN=>nN _ _ ⟨rfl,rfl⟩)
  case rb =>
  rintro σb H1 ⟨rfl,rfl⟩;refine dG (λσ' H'=>∃(k:Int) (cl:Str) (v7 v8:Option V),σ'=[some (.ref m),some (.int z),some (.int n),some (.int y),some (.int x),some (.int k),some (.str cl),v7,v8]/\0<=k/\k<=900/\cl.length+2<=fe/\(R.bb cl).length<=900/\bc H H') ?r2 (λN' nN=>?f2)
  case f2 =>
   have X1:=X.same s1;refine dgv rfl X1.gp ⟨(sl 0),λp hp=>?_⟩
   have s2:=s1.new (o:=.lst []) hp;have X2:=X.same s2;refine⟨dA st.av,.list [],fb (SqL.of X2.av.2),oH (SqL.of ae),jY _,oG,_,rfl,?_⟩;rw[jX];generalize upd H1 p (.lst [])=H2 at s2 X2 ⊢;rcases R6 st.av with e | ⟨pre,t,e⟩
   ·rw[e];exact bK (nN _ _ ⟨1,_,_,_,rfl,by decide,by decide,by trivial,by trivial,s2⟩)
   refine aL λGq gq=>?_
   rw[R7]at e;obtain⟨b,r,eb⟩:∃b r,st.av=b::r:=by
    cases hp:st.av with
    |nil=>rw[hp]at e;simp at e
    |cons b r=>exact⟨b,r,rfl⟩
   have hb:=I.bG b (by rw[eb];simp)
   have ht:=I.bG t (by rw[e];simp)
   have hA0:atI (st.av.map nV) 0=some (nV b):=by rw[eb];exact cq (j:=0) rfl
   have hA1:atI (st.av.map nV) (-1)=some (nV t):=by rw[e,kg];exact fJ _ _
   refine gq ?_;refine pM (by rw[eb];rfl) ?_
   refine⟨_,rfl,dgv rfl X2.gp ⟨aP,_,_,_,rfl,rfl,SqL.of X2.av.2,hA0,m,b,c,st,rfl,X2.at,hb,λtb htb=>?_⟩⟩
   refine⟨_,rfl,_,rfl,m,_,rfl,X2.gp,_,rfl,aP,_,_,_,rfl,rfl,SqL.of X2.av.2,hA1,m,t,c,st,rfl,X2.at,ht,λtt htt=>?_⟩
   refine aL λGq gq=>?_
   obtain⟨_,vb,hvb,Qe⟩:=htb;obtain⟨_,vt,hvt,Qf⟩:=htt;refine gq ?_;dsimp only[cf];refine dG (λσ' H'=>∃(k:Int),σ'=[some (.ref m),some (.int z),some (.int n),some (.int y),some (.int x),some (.int k),some (.str (ar "")),some (.ref tb),some (.ref tt)]/\0<=k/\k<=900/\H'=H2) ?r3 (λN2 nN2=>?f3)
   case f3 =>
    refine ixv rfl (SqT.of hvb) cv ⟨rfl,_,rfl,?_⟩;rw[qR _ (st.mo b).k8]
    by_cases h0:(st.mo b).k=0
    case neg =>
     rw[decide_eq_false h0];exact bK (nN2 _ _ ⟨1,rfl,by decide,by decide,rfl⟩)
    rw[decide_eq_true h0];refine aL λGq gq=>?_
    have hmo:=I.sj hb;obtain⟨tx,etx⟩:∃tx,st.mo b=.mat tx:=by
     cases hmo:st.mo b with
     |mat tx=>exact⟨tx,rfl⟩
     |_=>rw[hmo]at h0;simp[Mn.k]at h0
    rw[etx]at hvb Qe hmo;obtain⟨L,rfl,hL⟩:=Qe;have hl:tx.length<=12+N:=hmo.1;refine gq ?_;refine cC (ixv rfl (SqT.of hvb) rfl ⟨L,_,rfl,.inl (SqL.of hL.2),nN2 _ _ ⟨_,rfl,?_,?_,rfl⟩⟩)
    ·omega
    ·rw[ba];omega
   case r3 =>
   rintro σ3 H3 ⟨k,rfl,k0,k1,rfl⟩;refine ixv rfl (SqT.of hvt) cv ⟨rfl,_,rfl,?_⟩;rw[bJ _ (st.mo t).k8]
   by_cases h1:(st.mo t).k=1
   case neg =>
    rw[decide_eq_false h1];exact bK (bK (nN _ _ ⟨k,_,_,_,rfl,k0,k1,by trivial,by trivial,s2⟩))
   rw[decide_eq_true h1];refine aL λGq gq=>?_
   have hmo:=I.sj ht;obtain⟨e,emo⟩:∃e,st.mo t=.chg e:=by
    cases hmo:st.mo t with
    |chg e=>exact⟨e,rfl⟩
    |_=>rw[hmo]at h1;simp[Mn.k]at h1
   rw[emo]at hvt Qf hmo;have RG:EdB (12+N) e:=hmo;obtain⟨tc,rfl,htc⟩:=Qf;refine gq ?_;refine cC (ixv rfl (SqT.of hvt) rfl ⟨tc,_,_,_,rfl,rfl,htc.sq,kF e,rfl,_,rfl,?_⟩);rw[Bf]
   by_cases hk1:e.k=1
   ·rw[decide_eq_true hk1];exact bK (nN _ _ ⟨k,_,_,_,rfl,k0,k1,by trivial,by trivial,s2⟩)
   ·rw[decide_eq_false hk1];obtain⟨z1,z2⟩:=Qd RG (by omega)
    exact cC (ixv rfl (SqT.of hvt) rfl ⟨tc,_,_,_,rfl,rfl,htc.sq,qK hk1,nN _ _ ⟨k,_,_,_,rfl,k0,k1,z1,z2,s2⟩⟩)
  case r2 =>
  clear s1;rintro σ2 H2 ⟨k,cl,v7,v8,rfl,k0,k1,c1,c2,s2⟩;have X2:=X.same s2;have tup:∀(d:R.cK) (H3:Hp) (t:Addr) (xs:List V),oE d->bc H H3->H3 t=none->(jG (bz c H) (upd H3 t (.tup xs)) d t)->Q (.ref t) (upd H3 t (.tup xs)):=λd H3 t xs o s3 ht dz=>q d t _ o dz (s3.new ht)
  have num:∀(kd:Str) (ns:List Int) (H3:Hp) (t:Addr),oE (.nums kd ns)->bc H H3->H3 t=none->Q (.ref t) (upd H3 t (.tup (.str kd::ns.map V.int))):=λkd ns H3 t o s3 ht=>tup _ H3 t _ o s3 ht ⟨bx (same_none s3 ht),ae⟩
  refine⟨_,rfl,_,_,rfl,rfl,_,rfl,dc (λ_=>?_) (λg1=>?_)⟩
  ·refine⟨_,rfl,_,_,rfl,rfl,(by show (0:Int) < 5;decide),_,rfl,by omega,by omega,λW hW=>?_⟩
   dsimp only;generalize hm:(x % 5).toNat=mm;have m6:mm<=5:=by omega
   refine vN (lo:=0) (n:=mm) (λi ys H3=>∃cs:List (List Str),ys=(cs.map (ky R.bl1)).map V.str/\cs.length=i/\(∀x∈cs,R.xT 12 x)/\bc H2 H3/\H3 W=some (.lst ys))
    ⟨[],rfl,rfl,(λx hx=>nomatch hx),ax hW,ae⟩ (by omega) ?_ ?_ ?_
   ·rintro i ys H3 hi ⟨cs,rfl,hl,hg,s3,h3⟩;exact⟨h3,by rw[ba,ba];exact hl⟩
   ·rintro i ys H3 hi ⟨cs,rfl,hl,hg,s3,h3⟩;refine⟨_,rfl,_,_,rfl,rfl,⟨by decide,by decide⟩,_,rfl,_,_,rfl,rfl,.inl ⟨by decide,by decide⟩,_,_,rfl,rfl,_,rfl,λus H4 hus s4=>?_⟩
    refine bS.mk hi (s4 _ _ h3) ⟨cs++[us],by simp,by simp[hl],λe he=>?_,(s3.trans s4).own hW,ae⟩
    rcases List.mem_append.mp he with he | he
    ·exact hg e he
    ·rw[List.mem_singleton.mp he];exact hus
   ·rintro ys H3 ⟨cs,rfl,hl,hg,s3,h3⟩;refine⟨(sl 2),λt ht=>?_⟩
    have nW:W≠t:=az h3 ht;refine tup (.mat cs) H3 t _ (.move ⟨by omega,hg⟩) (s2.trans s3) ht ⟨W,⟨bx (same_none (s2.trans s3) ht),ae⟩,bx (same_none s2 hW),(ao nW).trans h3⟩
  refine⟨_,rfl,_,_,rfl,rfl,_,rfl,dc (λ_=>?_) (λg2=>?_)⟩
  ·refine⟨_,rfl,_,rfl,_,rfl,_,_,rfl,rfl,⟨by decide,by decide⟩,_,rfl,λus H3 hus s3=>?_⟩
   refine⟨_,k,_,rfl,k0,k1,λkk j e H4 hk j0 j1 s4 ne he=>⟨(sl 2),λt ht=>?_⟩⟩
   have s24:=s2.trans (s3.trans s4);have net:e≠t:=az he ht;exact tup (.ed false kk j us) H4 t _ (.move ⟨hk,⟨by omega,by omega⟩,hus,λz=>nomatch z⟩) s24 ht ⟨e,⟨bx (same_none s24 ht),ae⟩,bx (same_none (s2.trans s3) ne),.inl ((ao net).trans he)⟩
  refine⟨_,rfl,_,_,rfl,rfl,_,rfl,dc (λ_=>?_) (λg3=>?_)⟩
  ·refine⟨_,rfl,_,rfl,cl,rfl,c1,λp hp=>⟨p,_,rfl,.inl (SqL.of ae),_,rfl,_,_,rfl,rfl,⟨by decide,by decide⟩,_,rfl,λu hu=>?_⟩⟩
   have s3:=s2.new (o:=.lst ((R.bb cl).map V.str)) hp;refine⟨_,_,_,rfl,by omega,by rw[ba];omega,λkk j e H4 hk j0 j1 s4 ne he=>⟨(sl 2),λt ht=>?_⟩⟩
   have s24:=s3.trans s4;have net:e≠t:=az he ht;have ju:ky R.bl1 [u]=u:=by rfl
   refine tup (.ed true kk j [u]) H4 t _ (.move ⟨hk,⟨by omega,by omega⟩,⟨(by show 1<=12;decide),λz hz=>by rw[List.mem_singleton.mp hz];exact hu⟩,λ_=>rfl⟩) s24 ht ⟨e,⟨bx (same_none s24 ht),ae⟩,bx (same_none s3 ne),.inl ((ao net).trans ?_)⟩
   rw[ju];exact he
  refine⟨_,rfl,rfl,_,rfl,dc (λ_=>?_) (λg4=>?_)⟩
  ·refine dgv rfl X2.gs ⟨_,rfl,_,_,rfl,rfl,(by show (0:Int) < 4;decide),_,_,rfl,rfl,_,_,rfl,rfl,_,_,rfl,(sl 2),λt ht=>?_⟩
   have hs:=I.sit;have x0:0<=x % 4:=SS _ (by decide)
   have x1:x % 4 < 4:=Sy _ (by decide)
   refine num (ar "put off") [if st.aQ+x % 4 - 1 > 1 then st.aQ+x % 4 - 1 else 1] H2 t (.move ⟨by unfold jV;simp,λi hi=>?_⟩) s2 ht
   rw[List.mem_singleton.mp hi,e10];split <;> omega
  refine⟨_,rfl,_,_,rfl,rfl,_,rfl,dc (λg5=>?_) (λg5=>?_)⟩
  ·have y8:8<=y:=by
    have a1:¬y < 7:=λz=>g3 (decide_eq_true z)
    have a2:¬y=7:=λz=>g4 (decide_eq_true (by rw[z]))
    omega
   have y11:y < 11:=of_decide_eq_true g5;refine⟨(sl 1),λt1 h1=>⟨(sl 1),λt2 h2=>⟨(sl 1),λt3 h3=>⟨(sl 3),λp hp=>?_⟩⟩⟩⟩
   have s3:=s2.new (o:=.tup [V.str (ar "close")]) h1;have s4:=s3.new (o:=.tup [V.str (ar "lay")]) h2;have s5:=s4.new (o:=.tup [V.str (ar "rest")]) h3;have s6:=s5.new (o:=.lst [V.ref t1,.ref t2,.ref t3]) hp;have w2:=ax (o:=.tup [V.str (ar "lay")]) h2;have w3:=ax (o:=.tup [V.str (ar "rest")]) h3;have w4:=ax (o:=.lst [V.ref t1,.ref t2,.ref t3]) hp;have pick:y - 8=0\/y - 8=1\/y - 8=2:=by omega
   refine⟨_,rfl,_,_,rfl,rfl,?_⟩;dsimp only;have mk:∀kd,(kd,0)∈jV->oE (.nums kd []):=λkd h=>.move ⟨h,λi hi=>nomatch hi⟩
   rcases pick with e | e | e <;> rw[e]
   ·refine⟨p,_,_,_,rfl,rfl,SqL.of ae,rfl,q (.nums (ar "close") []) t1 _ (mk _ (by unfold jV;simp)) ⟨bx (same_none s2 h1),?_⟩ s6⟩
    exact((w2.trans w3).trans w4) _ _ ae
   ·refine⟨p,_,_,_,rfl,rfl,SqL.of ae,rfl,q (.nums (ar "lay") []) t2 _ (mk _ (by unfold jV;simp)) ⟨bx (same_none s3 h2),?_⟩ s6⟩
    exact(w3.trans w4) _ _ ae
   ·refine⟨p,_,_,_,rfl,rfl,SqL.of ae,rfl,q (.nums (ar "rest") []) t3 _ (mk _ (by unfold jV;simp)) ⟨bx (same_none s4 h3),?_⟩ s6⟩
    exact w4 _ _ ae
  refine⟨_,rfl,rfl,_,rfl,dc (λ_=>?_) (λ_=>?_)⟩
  ·refine⟨_,rfl,_,rfl,λus H3 hus s3=>⟨(sl 2),λt ht=>?_⟩⟩
   exact tup (.pt us) H3 t _ (.move hus) (s2.trans s3) ht ⟨bx (same_none (s2.trans s3) ht),ae⟩
  refine⟨_,rfl,_,_,rfl,rfl,_,rfl,dc (λ_=>?_) (λ_=>?_)⟩
  ·refine⟨_,rfl,_,rfl,_,_,rfl,rfl,(by show (0:Int) < n;omega),_,_,rfl,rfl,(sl 3),λt ht=>?_⟩
   have x0:0<=x % n:=SS _ (by omega)
   have x1:x % n < n:=Sy _ (by omega)
   exact num (ar "vote") [1+x % n,0] H2 t (.Bo ⟨by omega,by omega⟩ ⟨by decide,by decide⟩) s2 ht
  refine⟨_,rfl,_,_,rfl,rfl,_,rfl,dc (λ_=>?_) (λ_=>?_)⟩
  ·refine⟨_,rfl,_,rfl,_,_,rfl,n1,n2,λa b t H3 ha hb s3 nt ht=>?_⟩
   exact q (.nums (ar "vote") [a,b]) t H3 (.Bo ha hb) ⟨bx (same_none s2 nt),ht⟩ (s2.trans s3)
  refine⟨_,rfl,rfl,_,rfl,dc (λ_=>?_) (λ_=>?_)⟩
  ·exact⟨(sl 1),λt ht=>num (ar "drop") [] H2 t .drop s2 ht⟩
  have lm:=I.lm;have al:=I.CT;have el:es.length=st.made.length:=by rw[<-X2.ent.len,jF]
  refine dgv rfl X2.ga (λp hp=>?_)
  have s3:=s2.new (o:=.dK []) hp;have X3:=X.same s3;refine⟨aA,p,_,rfl,rfl,X3.aG.2,ae,_,rfl,?_⟩;generalize upd H2 p (.dK [])=H3 at s3 X3 ⊢;have lst:∀(t:Addr),H3 t=none->Q (.ref t) (upd H3 t (.tup [V.str (ar "take"),.int (x / 4 % ((es.length:Int)+3) - 1)])):=λt ht=>by
   have x0:0<=x / 4 % ((es.length:Int)+3):=SS _ (by omega)
   have x1:x / 4 % ((es.length:Int)+3) < (es.length:Int)+3:=Sy _ (by omega)
   exact num (ar "take") [x / 4 % ((es.length:Int)+3) - 1] H3 t (.take (by omega) (by omega)) s3 ht
  have wl:=X3.wait.len;have Ml:=yp st.aG ws wl;have hlen:(a5 ((st.aG.map (·.1)).zip ws)).length=st.aG.length:=by
   have:=congrArg List.length Ml;rw[ba,ba,ba]at this;exact this
  cases ea:(a5 ((st.aG.map (·.1)).zip ws)).isEmpty with
  |true =>
   refine bK (bK ?_);exact⟨_,rfl,_,_,rfl,rfl,⟨by decide,by decide⟩,dgv rfl X3.gm ⟨aM,_,rfl,.inl (SqL.of X3.ia.2),_,_,rfl,rfl,_,_,rfl,rfl,(by show (0:Int) < (es.length:Int)+3;omega),_,_,rfl,rfl,(sl 2),lst⟩⟩
  |false =>
   refine cC ?_;refine⟨_,rfl,_,_,rfl,rfl,(by show (0:Int) < 4;decide),_,_,rfl,rfl,_,rfl,dc (λ_=>?_) (λ_=>?_)⟩
   ·have a1:0 < st.aG.length:=by
     rw[<-hlen];cases h:a5 ((st.aG.map (·.1)).zip ws) with
     |nil=>rw[h]at ea;cases ea
     |cons _ _=>exact Nat.succ_pos _
    refine dgv rfl X3.ga ⟨aA,_,_,rfl,X3.aG.2,Ml,by rw[ba];omega,λl ns pm so hl=>?_⟩
    have nl:ns.length=st.aG.length:=by rw[pm.length_eq,ba]
    have s4:=s3.new (o:=.lst (ns.map V.int)) hl;have X4:=X.same s4;have hB:SqL K (upd H3 l (.lst (ns.map V.int))) l (ns.map V.int):=SqL.of ae;generalize upd H3 l (.lst (ns.map V.int))=H4 at s4 X4 hB ⊢;refine aL λGq gq=>?_
    have x0:0<=x / 4 % (st.aG.length:Int):=SS _ (by omega)
    have x1:x / 4 % (st.aG.length:Int) < (st.aG.length:Int):=Sy _ (by omega)
    obtain⟨j,ej⟩:∃j:Nat,x / 4 % (st.aG.length:Int)=(j:Int):=⟨(x / 4 % (st.aG.length:Int)).toNat,by omega⟩
    have hj:j < ns.length:=by omega
    have EG:ns[j]∈st.aG.map λx=>(x.1:Int):=pm.mem_iff.mp (List.getElem_mem hj)
    obtain⟨y0,hy0,e0⟩:=List.mem_map.mp EG;obtain⟨yr,er⟩:=(I.asd y0 hy0).2.1;have hno:=I.oz hy0 y0.1 (by rw[er];exact eg)
    have e0':((y0.1:Nat):Int)=ns[j]:=e0;have at1:atI (ns.map V.int) (x / 4 % (st.aG.length:Int))=some (.int ns[j]):=by
     rw[ej];exact cq (by rw[R0,tu hj];rfl)
    refine gq ?_;refine⟨_,rfl,_,_,rfl,rfl,⟨by decide,by decide⟩,dgv rfl X4.ga ⟨aA,_,rfl,X4.aG.2,_,_,rfl,rfl,(by rw[hlen];show (0:Int) < _;omega),?_⟩⟩
    rw[hlen];refine⟨l,_,_,_,rfl,rfl,hB,at1,(sl 2),λt ht=>?_⟩
    have h1:=hno.1;have h2:=hno.2;exact num (ar "take") [ns[j]] H4 t (.take (by omega) (by omega)) s4 ht
   ·exact⟨_,rfl,_,_,rfl,rfl,⟨by decide,by decide⟩,dgv rfl X3.gm ⟨aM,_,rfl,.inl (SqL.of X3.ia.2),_,_,rfl,rfl,_,_,rfl,rfl,(by show (0:Int) < (es.length:Int)+3;omega),_,_,rfl,rfl,(sl 2),lst⟩⟩
end
theorem cV.free {A:Adr}{i:Nat}{W:Option (Nat×Rl)->Prop}{c c':Col}{H H':Hp}{o:Addr}{st:Ch}(h:∀r,¬W (some (i,r)))(s:Step W c c' H H')(hc:cV A i c H o st):cV A i c' H' o st:=by
 obtain⟨dx,aM,aP,aA,aD,aF,aE,aR,ms,ds,ws,fs,es,X⟩:=hc.ex;exact(X.free h s).at
def dnT:Rs->List V
 | .num n=>[.bl true,nV n]
 | .txt z=>[.bl true,.str z]
 | .exc _=>[.bl false,.non]
def EN (A:Adr)(i:Nat):Sp:=λvs H Q _=>∃(o t:Addr) (c:Col) (st:Ch) (N:Nat) (d:R.cK),vs=[.ref o,.ref t]/\cV A i c H o st/\Inv N st/\N<=800/\oE d/\lX i c H d t /\
 ∀c' H' u,Step (cz i) c c' H H'->cV A i c' H' o (bO st d).2->c' u=none->H' u=some (.tup (dnT (bO st d).1))->Q (.ref u) H'
def G0:Sp:=λvs H Q _=>∃c:Int,vs=[.int c]/\∀n:Int,1<=n->n<=1000000000->Q (.int n) H
section
variable{P:kr}{w:World}{K:bo}{mg:Str->Option Value}{base:Heap}{A:Adr}
theorem EO (T:Txt w.params K mg A):aX P w K mg base CX0 1 A.AW A.qB ["_law_cell"] G0:=by
 refine T.zG.ok D3 (λvs H Q E h=>?_) (λcdv A' outer s H vs Q E hr h=>?_)
 ·obtain⟨c,rfl,_⟩:=h;rfl
 ·obtain⟨c,rfl,q⟩:=h;refine⟨_,(ah (a4 (aC bf (aW bH (pv 0) ag) ag (aN _))
 (ai (aI (aW cF ag (aW bH (aW bU (pv 0) ag) ag))))
 aJ)
 (ai (aI (aW cF ag (aW bH (aW bU (pv 0) ag) (aW MA ag ag)))))),?_⟩
  try dsimp only[bt]
  refine⟨_,rfl,_,_,rfl,rfl,(by show (0:Int) < 2;decide),rfl,_,rfl,dc (λ_=>?_) (λ_=>?_)⟩
  ·refine⟨_,rfl,_,_,rfl,rfl,⟨by decide,by decide⟩,_,_,rfl,rfl,(by show (0:Int) < 9;decide),_,_,rfl,rfl,q _ ?_ ?_⟩ <;> omega
  ·have e:(10:Int) ^ (9:Int).toNat=1000000000:=by decide
   refine⟨_,rfl,_,_,rfl,rfl,⟨by decide,by decide⟩,_,_,rfl,rfl,⟨by decide,by decide,by decide⟩,_,_,rfl,rfl,(by rw[e];show (0:Int) < 1000000000;decide),_,_,rfl,rfl,q _ ?_ ?_⟩ <;> rw[e] <;> omega
theorem Xc.mat (T:Txt w.params K mg A){H:Hp}{C:Value}{d:Option Addr}:∀ {x:Xc},x.At A H C d->Sz K C (.ref A.bB)=some true
 | .qP _,⟨e,_⟩=>by rw[e];exact T.mF
 | .lT _,⟨e,_⟩=>by rw[e];exact T.kD
 | .Bc _,⟨e,_⟩=>by rw[e];exact T.mG
 | .jB,⟨e,_⟩=>by rw[e];exact T.kz
 | .noChange,⟨e,_⟩=>by rw[e];exact T.kA
 | .noFit,⟨e,_⟩=>by rw[e];exact T.m7
 | .nothing,⟨e,_⟩=>by rw[e];exact T.lL
 | .tooMany,⟨e,_⟩=>by rw[e];exact T.lN
 | .pw,⟨e,_⟩=>by rw[e];exact T.lO
 | .xX,⟨e,_⟩=>by rw[e];exact T.kB
theorem ER (T:Txt w.params K mg A){i:Nat}:aX P w K mg base (CXX P w) 8 A.wR A.lu ["_law_chamber","_law_deed_here"] (EN A i):=by
 refine T.CA.okX tf (λvs H Q E h=>?_) (λcdv A' outer s H vs Q E hr h=>?_)
 ·obtain⟨o,t,c,st,N,d,rfl,_⟩:=h;rfl
 ·obtain⟨o,t,c,st,N,d,rfl,hc,I,hN,hd,hdc,q⟩:=h;obtain⟨dx,aM,aP,aA,aD,aF,aE,aR,ms,ds,ws,fs,es,X⟩:=hc.ex;refine⟨_,(a6 (psx (aZ (i:=2) tf.nd rfl (ma rfl) vC))
 (a6 (Kx ⟨rfl,rfl⟩ (a6 (eI (aC bf (aH aK (pv 1) ag (λ_ _=>rfl)) aj (aN _))
 (bw (vm (vo (gU (px gb) (gU (rz (px (pv 0)) T.aq T.xB (Ll (i:=i) T) (hr.mono (by decide)) T.xD (pax (aa (aH aK (pv 1) ag (λ_ _=>rfl)) (aa (aH aK (pv 1) ag (λ_ _=>rfl)) af)))) vk)))))
 (rp aJ))
 (a6 (eI (aC bf (aH aK (pv 1) ag (λ_ _=>rfl)) aj (aN _))
 (bw (vm (vo (gU (px gb) (gU (sS (px (pv 0)) T.aq T.xE (Lm (i:=i) T) (hr.mono (by decide)) T.xG) vk)))))
 (rp aJ))
 (a6 (eI (aC bf (aH aK (pv 1) ag (λ_ _=>rfl)) aj (aN _))
 (bw (vm (vo (gU (px gb) (gU (rz (px (pv 0)) T.aq T.xH (Ln (i:=i) T) (hr.mono (by decide)) T.xJ (pax (aa (aH aK (pv 1) ag (λ_ _=>rfl)) af))) vk)))))
 (rp aJ))
 (bw (vm (vo (gU (px gb) (gU (rz (px (pv 0)) T.aq T.xx (Lp (i:=i) T) hr T.xA (pax (aa (pv 1) af))) vk))))))))
 (HN rfl T.fZ (λ_=>(ai (aZ (i:=2) tf.nd rfl (ma rfl) (a8 (aa gb (aa vC af)))))) (Kw ⟨rfl,rfl⟩)))
 (bw (psx (aI (pv 2)))))),?_⟩
  try dsimp only[bt]
  have fin:∀(c1:Col) (H1:Hp) (p:Addr),Step (cz i) c c1 H H1->cV A i c1 H1 o (bO st d).2->H1 p=none->Q (.ref p) (upd H1 p (.tup (dnT (bO st d).1))):=λc1 H1 p s1 hc1 hp =>
   q (aw c1 p none) _ p (s1.trans (Step.new aT hp)) (hc1.free (W:=λ_=>False) (λ_=>id) (Step.new id hp)) aS ae
  clear q;cases hd with
  | @Bo a b ha hb =>
   rw[gK]at fin;have ht:SqT K H t [.str (ar "vote"),.int a,.int b]:=SqT.of hdc.2;refine ixv rfl ht rfl ⟨rfl,tst (by trivial) ?_⟩
   refine mtv rfl X.ob (bV (by trivial)) (ixv rfl ht rfl (ixv rfl ht rfl ⟨o,a,b,c,st,N,rfl,hc,I,hN,ha,hb,?_⟩))
   generalize jE st a b=rs at fin ⊢;obtain⟨r,st'⟩:=rs;cases r with
   |num n=>exactλc1 H1 s1 hc1=>⟨(sl 2),λp hp=>fin c1 H1 p s1 hc1 hp⟩
   |txt z=>exactλc1 H1 s1 hc1=>⟨(sl 2),λp hp=>fin c1 H1 p s1 hc1 hp⟩
   |exc x=>exactλc1 H1 C e s1 hc1 hat he=>⟨true,Xc.mat T hat,cC ⟨(sl 2),λp hp=>⟨_,rfl,fin c1 H1 p s1 hc1 hp⟩⟩⟩
  |drop =>
   rw[gL]at fin;have ht:SqT K H t [.str (ar "drop")]:=SqT.of hdc.2;refine ixv rfl ht rfl ⟨rfl,tsf (by trivial) (ixv rfl ht rfl ⟨rfl,tst (by trivial) ?_⟩)⟩
   refine mtv rfl X.ob (bV (by trivial)) ⟨o,c,st,N,rfl,hc,I,hN,?_⟩
   generalize jT st=rs at fin ⊢;obtain⟨r,st'⟩:=rs;cases r with
   |num n=>exactλc1 H1 s1 hc1=>⟨(sl 2),λp hp=>fin c1 H1 p s1 hc1 hp⟩
   |txt z=>exactλc1 H1 s1 hc1=>⟨(sl 2),λp hp=>fin c1 H1 p s1 hc1 hp⟩
   |exc x=>exactλc1 H1 C e s1 hc1 hat he=>⟨true,Xc.mat T hat,cC ⟨(sl 2),λp hp=>⟨_,rfl,fin c1 H1 p s1 hc1 hp⟩⟩⟩
  | @take z h0 h1 =>
   rw[gM]at fin;have ht:SqT K H t [.str (ar "take"),.int z]:=SqT.of hdc.2;refine ixv rfl ht rfl ⟨rfl,tsf (by trivial) (ixv rfl ht rfl ⟨rfl,tsf (by trivial) (ixv rfl ht rfl ⟨rfl,tst (by trivial) ?_⟩)⟩)⟩
   refine mtv rfl X.ob (bV (by trivial)) (ixv rfl ht rfl ⟨o,z,c,st,N,rfl,hc,I,hN,h0,h1,?_⟩)
   generalize stepT st z.toNat=rs at fin ⊢;obtain⟨r,st'⟩:=rs;cases r with
   |num n=>exactλc1 H1 s1 hc1=>⟨(sl 2),λp hp=>fin c1 H1 p s1 hc1 hp⟩
   |txt z=>exactλc1 H1 s1 hc1=>⟨(sl 2),λp hp=>fin c1 H1 p s1 hc1 hp⟩
   |exc x=>exactλc1 H1 C e s1 hc1 hat he=>⟨true,Xc.mat T hat,cC ⟨(sl 2),λp hp=>⟨_,rfl,fin c1 H1 p s1 hc1 hp⟩⟩⟩
  |move hm =>
   refine aL λGq gq=>?_
   rw[gN hm]at fin;obtain⟨v,ht,_,_⟩:=sx hm hdc;have k8:=(cT d).k8;refine gq ?_;refine ixv rfl (SqT.of ht.2) cv ⟨rfl,tsf (JQ _ k8) (ixv rfl (SqT.of ht.2) cv ⟨rfl,tsf (JR _ k8) (ixv rfl (SqT.of ht.2) cv ⟨rfl,tsf (JS _ k8) ?_⟩)⟩)⟩;refine mtv rfl X.ob (bV (by trivial)) ⟨_,rfl,o,t,c,st,N,d,rfl,hc,I,hN,hm,hdc,?_⟩
   generalize jU st (cT d) (R.lQ d)=rs at fin ⊢;obtain⟨r,st'⟩:=rs;cases r with
   |num n=>exactλc1 H1 s1 hc1=>⟨(sl 2),λp hp=>fin c1 H1 p s1 hc1 hp⟩
   |txt z=>exactλc1 H1 s1 hc1=>⟨(sl 2),λp hp=>fin c1 H1 p s1 hc1 hp⟩
   |exc x=>exactλc1 H1 C e s1 hc1 hat he=>⟨true,Xc.mat T hat,cC ⟨(sl 2),λp hp=>⟨_,rfl,fin c1 H1 p s1 hc1 hp⟩⟩⟩
theorem G1 (T:Txt w.params K mg A){i:Nat}:aX P w K mg base CX0 8 A.wR A.lu ["_law_chamber","_law_deed_here"] (EN A i) :=
 (ER T).calm λ_ _ _ _ h=>h
end
mutual
theorem DV.same {K:bo}{H H':Hp}(s:bc H H'):∀(d:PyData) {x:V},DV K H d x->DV K H' d x
 | .none,_,h=>by unfold DV at h ⊢;exact h
 | .bool _,_,h=>by unfold DV at h ⊢;exact h
 | .int _,_,h=>by unfold DV at h ⊢;exact h
 | .str _,_,h=>by unfold DV at h ⊢;exact h
 | .list ds,_,h=>by
  unfold DV at h ⊢;obtain⟨a,xs,e,h1,h2⟩:=h;exact⟨a,xs,e,s.seq h1,DVs.same s ds h2⟩
 | .tuple ds,_,h=>by
  unfold DV at h ⊢;obtain⟨a,xs,e,h1,h2⟩:=h;exact⟨a,xs,e,bj s h1,DVs.same s ds h2⟩
 | .dict _,_,h=>by unfold DV at h;exact h.elim
theorem DVs.same {K:bo}{H H':Hp}(s:bc H H'):∀(ds:List PyData) {xs:List V},DVs K H ds xs->DVs K H' ds xs
 |[],_,h=>by unfold DVs at h ⊢;exact h
 |d::ds,_,h=>by
  unfold DVs at h ⊢;obtain⟨x,r,e,h1,h2⟩:=h;exact⟨x,r,e,DV.same s d h1,DVs.same s ds h2⟩
end
theorem iZ {d:PyData}(h1:d.canLay0=true)(h2:d.depth<=64):SeqAt.shaped d=true:=by
 show (d.canLay0 && decide (d.depth<=64))=true;rw[h1,decide_eq_true h2];rfl
theorem lZ {α:Type}{f:α->PyData}{k:Nat}(h:∀x,Sr (f x)<=k):∀xs:List α,Se (xs.map f)<=k
 |[]=>by simp only[Sq,Se];omega
 |x::xs=>by
  have h1:=h x;have h2:=lZ h xs;simp only[gr,Se];omega
theorem sD {α:Type}{f:α->PyData}:∀ {xs:List α},(∀x∈xs,(f x).canLay0=true)->tm (xs.map f)=true
 |[],_=>by simp only[Sq,tm]
 |x::xs,h=>by
  simp only[gr,tm,h x eg,sD λy hy=>h y (km _ hy),Ss]
theorem Dc (ns:List Nat):(dA ns).canLay0=true:=by
 unfold dA;simp only[R8];exact sD λn _=>by simp only[R8]
theorem De (ns:List Nat):(dA ns).depth<=2:=by
 unfold dA;have:=lZ (f:=λn:Nat=>PyData.int (n:Int)) (k:=0) (λn=>by simp only[Sr];omega) ns
 simp only[Sr];omega
theorem Oc (x:Nat×Int×List Nat):(asD x).canLay0=true:=by
 unfold asD;simp only[R8,tm,Dc,Ss]
theorem Od (x:Nat×Int×List Nat):(asD x).depth<=10:=by
 have:=De x.2.2;unfold asD;simp only[Sr,Se];omega
theorem Oe (x:Nat×Str):(dcD x).depth<=10:=by
 unfold dcD;simp only[Sr,Se];omega
theorem ES {N:Nat}{st:Ch}(I:Inv N st)(ns:List Int):(stD st ns).canLay0=true:=by
 have h1:tm (ns.map λn=>asD (iT st n))=true:=sD λn _=>Oc _
 have h2:tm (st.decided.map dcD)=true:=sD λx hx=>by
  unfold dcD;simp only[R8,tm,I.dw x hx,Ss]
 unfold stD;simp only[R8,tm,Dc,h1,h2,Ss]
theorem JW (st:Ch)(ns:List Int):(stD st ns).depth<=64:=by
 have h0:=De st.av;have h1:=lZ (f:=λn=>asD (iT st n)) (k:=10) (λn=>Od _) ns
 have h2:=lZ (f:=dcD) (k:=10) Oe st.decided;unfold stD;simp only[Sr,Se];omega
theorem JX:∀k,Sg (kn k)=true
 | 0=>by trivial
 | 1=>by trivial
 |_+2=>by show Sg (ar "turn")=true;trivial
theorem JY {e:Ed}(h:Sg e.th=true):(edD e).canLay0=true:=by
 have h0:=JX 0;have h1:=JX 1;have h2:=JX 2;unfold edD;split <;> simp only[R8,tm,h,h0,h1,h2,Ss]
theorem JZ (e:Ed):(edD e).depth<=10:=by
 unfold edD;split <;> simp only[Sr,Se] <;> omega
theorem yq {tx:List Str}(h:∀x∈tx,Sg x=true):(PyData.list (tx.map SU)).canLay0=true:=by
 simp only[R8];exact ur tx h
theorem yt (tx:List Str):(PyData.list (tx.map SU)).depth<=10:=by
 have:=vK tx;simp only[Sr];omega
theorem J0 {N:Nat}:∀ {m:Mn},MOk N m->(mnD m).canLay0=true
 | .mat tx,h=>by
  have h0:=rW 0 (by decide)
  have h1:=yq h.2;unfold mnD;simp only[R8,tm]at h1 ⊢;simp only[h0,h1,Ss]
 | .chg e,h=>by
  have h0:=rW 1 (by decide)
  have h1:=JY (EdB.str h);unfold mnD;simp only[R8,tm,h0,h1,Ss]
 | .mnd e,h=>by
  have h0:=rW 2 (by decide)
  have h1:=JY (EdB.str h.1);unfold mnD;simp only[R8,tm,h0,h1,Ss]
 | .off u,_=>by
  have h0:=rW 3 (by decide)
  unfold mnD;simp only[R8,tm,h0,Ss]
 | .cls,_=>by
  have h0:=rW 4 (by decide)
  unfold mnD;simp only[R8,tm,h0,Ss]
 | .lay,_=>by
  have h0:=rW 5 (by decide)
  unfold mnD;simp only[R8,tm,h0,Ss]
 | .rst,_=>by
  have h0:=rW 6 (by decide)
  unfold mnD;simp only[R8,tm,h0,Ss]
 | .pnt z,h=>by
  have h0:=rW 7 (by decide)
  have h1:Sg z=true:=h;unfold mnD;simp only[R8,tm,h0,h1,Ss]
theorem Of (m:Mn):(mnD m).depth<=64:=by
 cases m with
 |mat tx =>
  have:=yt tx;unfold mnD;simp only[Sr,Se]at this ⊢;omega
 |chg e =>
  have:=JZ e;unfold mnD;simp only[Sr,Se];omega
 |mnd e =>
  have:=JZ e;unfold mnD;simp only[Sr,Se];omega
 |_=>unfold mnD;simp only[Sr,Se];omega
theorem uQ:∀ {xs ys:List Int},Tx xs ys->xs.Pairwise (·<=·)->ys.Pairwise (·<=·)->xs=ys
 |[],ys,p,_,_=>(List.Perm.nil_eq p)
 |x::xs,[],p,_,_=>absurd p.length_eq (by simp)
 |x::xs,y::ys,p,hx,hy=>by
  obtain⟨x1,x2⟩:=List.pairwise_cons.mp hx;obtain⟨y1,y2⟩:=List.pairwise_cons.mp hy;have e:x=y:=by
   have a:x∈y::ys:=p.mem_iff.mp eg;have b:y∈x::xs:=p.mem_iff.mpr eg;rcases List.mem_cons.mp a with a | a
   ·exact a
   ·rcases List.mem_cons.mp b with b | b
    ·exact b.symm
    ·exact Int.le_antisymm (x1 y b) (y1 x a)
  subst e;rw[uQ (List.perm_cons x |>.mp p) x2 y2]
def AsC (c:Col)(H:Hp)(x:Nat×Int×List Nat)(v:V):Prop:=∃u l,v=.ref u/\(c u=none/\H u=some (.tup [nV x.1,.int x.2.1,.ref l]))/\c l=none/\H l=some (.lst (x.2.2.map nV))
def DcC (c:Col)(H:Hp)(x:Nat×Str)(v:V):Prop:=∃t,v=.ref t/\TupAt c H t [nV x.1,.str x.2]
structure StX (c:Col)(H:Hp)(st:Ch)(ns:List Int)(u l1 R l2:Addr)(ys ds:List V):Prop where
 cu:c u=none
 hu:H u=some (.tup [.int st.aQ,.bl st.closed,.ref l1,.ref R,.ref l2])
 c1:c l1=none
 h1:H l1=some (.lst (st.av.map nV))
 cR:c R=none
 hR:H R=some (.lst ys)
 asd:br (AsC c H) (ns.map (iT st)) ys
 c2:c l2=none
 h2:H l2=some (.lst ds)
 dec:br (DcC c H) st.decided ds
def Df (c:Col)(H:Hp)(st:Ch)(ns:List Int)(u:Addr):Prop:=∃l1 R l2 ys ds,StX c H st ns u l1 R l2 ys ds
theorem AsC.step {W:Option (Nat×Rl)->Prop}{c c':Col}{H H':Hp}{x:Nat×Int×List Nat}{v:V}(s:Step W c c' H H'):AsC c H x v->AsC c' H' x v
 |⟨u,l,e,⟨h1,h2⟩,h3,h4⟩=>⟨u,l,e,bp s h1 h2,bp s h3 h4⟩
theorem DcC.step {W:Option (Nat×Rl)->Prop}{c c':Col}{H H':Hp}{x:Nat×Str}{v:V}(s:Step W c c' H H'):DcC c H x v->DcC c' H' x v
 |⟨t,e,h⟩=>⟨t,e,h.step s⟩
theorem StX.step {W:Option (Nat×Rl)->Prop}{c c':Col}{H H':Hp}{st:Ch}{ns:List Int}{u l1 R l2:Addr}{ys ds:List V}(s:Step W c c' H H')(h:StX c H st ns u l1 R l2 ys ds):StX c' H' st ns u l1 R l2 ys ds :=
 ⟨(bp s h.cu h.hu).1,(bp s h.cu h.hu).2,(bp s h.c1 h.h1).1,(bp s h.c1 h.h1).2,(bp s h.cR h.hR).1,(bp s h.cR h.hR).2,h.asd.imp λ_ _ z=>z.step s,(bp s h.c2 h.h2).1,(bp s h.c2 h.h2).2,h.dec.imp λ_ _ z=>z.step s⟩
theorem Df.step {W:Option (Nat×Rl)->Prop}{c c':Col}{H H':Hp}{st:Ch}{ns:List Int}{u:Addr}(s:Step W c c' H H'):Df c H st ns u->Df c' H' st ns u
 |⟨l1,R,l2,ys,ds,h⟩=>⟨l1,R,l2,ys,ds,h.step s⟩
theorem AsC.dv {K:bo}{c:Col}{H:Hp}{x:Nat×Int×List Nat}{v:V}:AsC c H x v->DV K H (asD x) v
 |⟨u,l,e,⟨_,h3⟩,_,h4⟩=>by
  unfold asD DV;refine⟨u,_,e,SqT.of h3,?_⟩;unfold DVs;refine⟨_,_,rfl,by unfold DV;rfl,?_⟩
  unfold DVs;refine⟨_,_,rfl,by unfold DV;rfl,?_⟩
  unfold DVs;exact⟨_,_,rfl,fb (SqL.of h4),by unfold DVs;rfl⟩
theorem DcC.dv {K:bo}{c:Col}{H:Hp}{x:Nat×Str}{v:V}:DcC c H x v->DV K H (dcD x) v
 |⟨t,e,h⟩=>by
  subst e;unfold dcD DV;refine⟨t,_,rfl,h.sq,?_⟩;unfold DVs;refine⟨_,_,rfl,by unfold DV;rfl,?_⟩
  unfold DVs;exact⟨_,_,rfl,by unfold DV;rfl,by unfold DVs;rfl⟩
theorem StX.dv {K:bo}{c:Col}{H:Hp}{st:Ch}{ns:List Int}{u l1 R l2:Addr}{ys ds:List V}(h:StX c H st ns u l1 R l2 ys ds):DV K H (stD st ns) (.ref u):=by
 unfold stD DV;refine⟨u,_,rfl,SqT.of h.hu,?_⟩;unfold DVs;refine⟨_,_,rfl,by unfold DV;rfl,?_⟩
 unfold DVs;refine⟨_,_,rfl,by unfold DV;rfl,?_⟩
 unfold DVs;refine⟨_,_,rfl,fb (SqL.of h.h1),?_⟩;unfold DVs;refine⟨_,_,rfl,?_,?_⟩
 ·unfold DV;refine⟨R,ys,rfl,SqL.of h.hR,?_⟩;rw[show (ns.map λn=>asD (iT st n))=(ns.map (iT st)).map asD by rw[TC];rfl]
  exact br.dvs (λx v h=>h.dv) h.asd
 ·unfold DVs;refine⟨_,_,rfl,?_,by unfold DVs;rfl⟩
  unfold DV;exact⟨l2,_,rfl,SqL.of h.h2,br.dvs (λx v h=>h.dv) h.dec⟩
def AsF (H0 H:Hp)(R:Addr)(x:Nat×Int×List Nat)(v:V):Prop:=∃u l,v=.ref u/\(u≠R/\l≠R)/\(H0 u=none/\H0 l=none)/\H u=some (.tup [nV x.1,.int x.2.1,.ref l])/\H l=some (.lst (x.2.2.map nV))
structure StG (H0 H:Hp)(st:Ch)(ns:List Int)(u l1 R l2:Addr)(ys ds:List V):Prop where
 hu:H u=some (.tup [.int st.aQ,.bl st.closed,.ref l1,.ref R,.ref l2])
 n1:H0 l1=none
 h1:H l1=some (.lst (st.av.map nV))
 nR:H0 R=none
 hR:H R=some (.lst ys)
 asd:br (AsF H0 H R) (ns.map (iT st)) ys
 n2:H0 l2=none
 h2:H l2=some (.lst ds)
 ne1:l1≠R
 ne2:l2≠R
 dl:ds.length=st.decided.length
def StF (H0 H:Hp)(st:Ch)(ns:List Int)(u:Addr):Prop:=∃l1 R l2 ys ds,StG H0 H st ns u l1 R l2 ys ds
def Dg (A:Adr)(i:Nat):Sp:=λvs H Q _=>∃(o:Addr) (c:Col) (st:Ch),vs=[.ref o]/\cV A i c H o st/\st.aG.length < 64 /\
 ∀(ns:List Int) (u:Addr) (H':Hp),Tx ns (st.aG.map λx=>(x.1:Int))->ns.Pairwise (·<=·)->bc H H'->Df (bz c H) H' st ns u->StF H H' st ns u->Q (.ref u) H'
def AsN (H0 H:Hp)(R:Addr)(x:Nat×Int×List Nat)(v:V):Prop:=∃u l,v=.ref u/\(u≠R/\l≠R)/\(H0 u=none/\H0 l=none)/\H u=some (.tup [nV x.1,.int x.2.1,.ref l])/\H l=some (.lst (x.2.2.map nV))
theorem AsN.same {H0 H H':Hp}{R:Addr}{x:Nat×Int×List Nat}{v:V}(s:bc H H'):AsN H0 H R x v->AsN H0 H' R x v
 |⟨u,l,e,h1,h2,h3,h4⟩=>⟨u,l,e,h1,h2,s _ _ h3,s _ _ h4⟩
theorem AsN.upd {H0 H:Hp}{R:Addr}{o:HO}{x:Nat×Int×List Nat}{v:V}:AsN H0 H R x v->AsN H0 (L2.upd H R o) R x v
 |⟨u,l,e,h1,h2,h3,h4⟩=>⟨u,l,e,h1,h2,(ao h1.1).trans h3,(ao h1.2).trans h4⟩
section
variable{P:kr}{w:World}{K:bo}{mg:Str->Option Value}{base:Heap}{A:Adr}
theorem G2 (T:Txt w.params K mg A){i:Nat}:aX P w K mg base CX0 2 A.eY A.ez ["self"] (Dg A i):=by
 refine T.va.ok sZ (λvs H Q E h=>?_) (λcdv A' outer s H vs Q E hr h=>?_)
 ·obtain⟨o,c,st,rfl,_⟩:=h;rfl
 ·obtain⟨o,c,st,rfl,hc,hal,q⟩:=h;obtain⟨dx,aM,aP,aA,aD,aF,aE,aR,ms,ds,ws,fs,es,X⟩:=hc.ex;have lim:fe=16777216:=by decide
  refine⟨_,(ah (vM (i:=1) (scope:=iB) qk rfl rfl (ma rfl) (eW (bQ (l8 hr.hd) (by rfl) T.xo sX (aa (a9 (pv 0) rfl) af))) (λ_ _ _ _ _=>(fH (pv 1) T.aq T.n8 (yO (i:=i) T) hr T.oa .nil aV (aa (pv 0) af))))
 (ai (aI (a8 (aa (a9 (pv 0) rfl) (aa (a9 (pv 0) rfl) (aa (bD bA (by rfl) T.eQ cW (aa (a9 (pv 0) rfl) af)) (aa (pv 1) (aa (bD bA (by rfl) T.eQ cW (aa (a9 (pv 0) rfl) af)) af))))))))),?_⟩
  try dsimp only[bt]
  refine cU rfl X.ob T.aq T.bT gH ⟨aA,_,_,rfl,X.aG.2,yp st.aG ws X.wait.len,by rw[ba];exact hal,λl0 ns pm so hl0=>?_⟩
  have nl:ns.length=st.aG.length:=by rw[pm.length_eq,ba]
  have s0:=ax (o:=.lst (ns.map V.int)) hl0;have hB:SqL K (upd H l0 (.lst (ns.map V.int))) l0 (ns.map V.int):=SqL.of ae;generalize upd H l0 (.lst (ns.map V.int))=H1 at s0 hB ⊢;refine⟨l0,rfl,⟨_,hB⟩,λR hR=>?_⟩
  have hR0:=same_none s0 hR;refine oX (K:=K) (a:=l0) (xs:=ns.map V.int) (λj ys H2=>bc H1 H2/\H2 R=some (.lst ys)/\br (AsN H H2 R) ((ns.take j).map (iT st)) ys) ⟨ax hR,ae,.nil⟩ (by rw[ba];omega) ?_ ?_ ?_
  ·rintro j ys H2 hj ⟨s2,hR2,ha⟩;refine⟨s2.seq hB,hR2,?_⟩;rw[<-ha.len,ba,Sj];rw[ba]at hj;omega
  ·rintro j y ys H2 hy ⟨s2,hR2,ha⟩;refine aL λGq gq=>?_
   obtain⟨n,hn1,rfl⟩:∃n,ns[j]?=some n/\V.int n=y:=by
    rw[R0]at hy;cases ht:ns[j]? with
    |none=>rw[ht]at hy;cases hy
    |some t=>rw[ht]at hy;exact⟨t,rfl,si hy⟩
   have EG:n∈st.aG.map λx=>(x.1:Int):=pm.mem_iff.mp (RV hn1)
   obtain⟨x0,hx0,e0⟩:=List.mem_map.mp EG;obtain⟨x,hx⟩:∃x,at1 x0.1 st.aG=some x:=by
    cases z:at1 x0.1 st.aG with
    |some x=>exact⟨x,rfl⟩
    |none=>exact absurd (List.mem_map_of_mem hx0) (ox z)
   have e0':((x0.1:Nat):Int)=n:=e0;subst e0';have s02:=s0.trans s2;have X2:=X.same s02;have ea:iT st ((x0.1:Nat):Int)=x:=by unfold iT;rw[Tz,hx];rfl
   refine gq ?_;refine mtv rfl X2.ob (bV (by trivial)) ⟨_,rfl,o,x0.1,c,st,x,rfl,X2.at,hx,λl u H3 hl hu s3 h1 h2=>?_⟩
   have hR3:=s3 _ _ hR2;refine bS.mk (List.getElem?_eq_some_iff.mp hy).1 hR3 ⟨(s2.trans s3).own hR,ae,?_⟩;rw[SY,hn1,kg];refine br.snoc (ha.imp λ_ _ z=>(z.same s3).upd) ?_
   rw[ea];refine AsN.upd ⟨u,l,rfl,⟨(λz=>by rw[z,hR2]at hu;cases hu),(λz=>by rw[z,hR2]at hl;cases hl)⟩,⟨same_none s02 hu,same_none s02 hl⟩,?_,h1⟩
   rw[(eZ hx).1];exact h2
  ·rintro ys H2 ⟨s2,hR2,ha⟩;rw[ba,SW]at ha;have s02:=s0.trans s2;have X2:=X.same s02;refine cU rfl X2.ob T.aq T.bI fF (cU rfl X2.ob T.aq T.bM jz (cU rfl X2.ob T.aq T.bg dq ⟨aP,_,rfl,.inl (SqL.of X2.av.2),λl1 hl1=>?_⟩))
   have s3:=ax (o:=.lst (st.av.map nV)) hl1;have X3:=X2.same s3;have s03:=s02.trans s3;refine⟨_,rfl,cU rfl X3.ob T.aq T.fm uK ⟨aD,_,rfl,.inl (SqL.of X3.dec.2),λl2 hl2=>⟨(sl 5),λu hu=>?_⟩⟩⟩
   have s4:=ax (o:=.lst (ds.map V.ref)) hl2;have s5:=ax (o:=.tup [V.int st.aQ,.bl st.closed,.ref l1,.ref R,.ref l2]) hu;have s45:=s4.trans s5;have s05:=s03.trans s45;have X5:=X3.same s45;refine q ns u _ pm so s05 ⟨l1,R,l2,ys,ds.map V.ref,bx (same_none (s03.trans s4) hu),ae,bx (same_none s02 hl1),s45 _ _ ae,bx hR0,(s3.trans s45) _ _ hR2,?_,bx (same_none s03 hl2),s5 _ _ ae,?_⟩ ⟨l1,R,l2,ys,ds.map V.ref,ae,same_none s02 hl1,s45 _ _ ae,hR0,(s3.trans s45) _ _ hR2,?_,same_none s03 hl2,s5 _ _ ae,R4 (az hR2 hl1),R4 (az (s3 _ _ hR2) hl2),by rw[ba];exact X.iy.len.symm⟩
   ·refine ha.imp λx v z=>?_
    refine aL λGq gq=>?_
    obtain⟨u',l',e,_,⟨z1,z2⟩,z3,z4⟩:=z.same (s3.trans s45);refine gq ?_;exact⟨u',l',e,⟨bx z1,z3⟩,bx z2,z4⟩
   ·refine br.mapR (X5.iy.imp λx t h=>⟨t,rfl,?_,h.2⟩)
    unfold bz;split
    ·exact h.1
    ·rfl
   ·exact ha.imp λx v z=>z.same (s3.trans s45)
end
def inF (cl:Bool)(ms:List Mn)(k:Nat):Bool:=decide ((k:Int) > iR cl ms) && jS ms k
def eR (cl:Bool)(ms:List Mn)(n:Nat):List Str:=((TF n).filter (inF cl ms)).map nm
theorem oJ (cl:Bool)(ms:List Mn)(n:Nat):eR cl ms (n+1)=eR cl ms n++(if inF cl ms n=true then [nm n] else []):=by
 unfold eR;rw[List.range_succ,List.filter_append,kg]
 congr 1
 by_cases h:inF cl ms n=true
 ·rw[if_pos h];simp[List.filter,h]
 ·rw[if_neg h];simp[List.filter,h]
theorem ET (cl:Bool)(ms:List Mn)(n:Nat):(eR cl ms n).length<=n:=by
 unfold eR;rw[ba];exact ku (SM _ _) (by rw[List.length_range];exact gn _)
theorem G3 {i:Nat}{z:Str}(h:qV[i]?=some z):i < 8/\z=nm i:=by
 have hi:i < 8:=(List.getElem?_eq_some_iff.mp h).1;exact⟨hi,si (h.symm.trans (CY i hi).1)⟩
def LF (A:Adr)(K:bo):Sp:=λvs H Q _=>∃(B:Addr) (cl:Bool) (c:Col) (ms:List Mn) (os:List Addr),vs=[.ref B,.bl cl]/\qd A K c H B ms os/\ms.length<=1000 /\
 ∀R H',H R=none->bc H H'->H' R=some (.lst ((eR cl ms 8).map V.str))->Q (.ref R) H'
def G4 (A:Adr):Sp:=λvs H Q _=>∃(i:Nat) (o:Addr) (c:Col) (st:Ch) (N:Nat),vs=[.ref o]/\cV A i c H o st/\Inv N st /\
 ∀R H',H R=none->bc H H'->H' R=some (.lst ((eR st.closed (st.av.map st.mo) 8).map V.str))->Q (.ref R) H'
section
variable{P:kr}{w:World}{K:bo}{mg:Str->Option Value}{base:Heap}{A:Adr}
theorem sE (T:Txt w.params K mg A):aX P w K mg base CX0 5 A.je A.fP ["pile","closed"] (LF A K):=by
 refine T.lz.ok jM (λvs H Q E h=>?_) (λcdv A' outer s H vs Q E hr h=>?_)
 ·obtain⟨B,cl,c,ms,os,rfl,_⟩:=h;rfl
 ·obtain⟨B,cl,c,ms,os,rfl,hB,hl,q⟩:=h;refine⟨_,(ah (aZ (i:=2) jM.nd rfl (Or.inr rfl) (aU (ua T) (hr.mono (by decide)) rfl T.wX T.rQ.kp T.wY .nil aV (aa (pv 0) (aa (pv 1) af))))
 (ai (aI (HR (scope:=gY) pF rfl (M4 T.tk rfl T.vy) (λ_ _ _ _ _=>(PW.pt (pw_and (aC yR (aH (Kz (K:=K) (pr:=w.params) rfl rfl) (vh (v:=V.ref A.tab) rfl T.vy rfl) (pv 0) (λ_ _=>rfl)) (pv 3) (aN _)) (pw_and1 (j3 (aU (hV T) hr rfl T.iG T.eO.kp T.iH .nil aV (aa (pv 0) (aa (pv 1) af)))))))) (λ_ _ _ _ _=>(pv 0)))))),?_⟩
  try dsimp only[bt]
  refine⟨_,rfl,_,rfl,B,cl,c,ms,os,rfl,hB,?_⟩
  try dsimp only[cf]
  refine(λR hR=>?_:∀R,H R=none->_)
  have e8:[ar "matter",ar "change",ar "mend",ar "put off",ar "close",ar "lay",ar "rest",ar "point"]=qV:=rfl;rw[e8];refine Gh (ns:=qV) (λi ys H2=>ys=(eR cl ms i).map V.str/\bc H H2/\H2 R=some (.lst ys)) ⟨rfl,ax hR,ae⟩ (by decide) ?_ ?_ ?_
  ·rintro i ys H2 hi ⟨rfl,s2,h2⟩;exact⟨h2,by rw[ba];exact ET _ _ _⟩
  ·rintro i z ys H2 hz ⟨rfl,s2,h2⟩;refine aL λGq gq=>?_
   obtain⟨i8,rfl⟩:=G3 hz;obtain⟨tk,htk⟩:=T.rk i i8;have lt8:i < qV.length:=i8;refine gq ?_;refine⟨_,rfl,A.tab,nm i,.int i,_,rfl,rfl,T.tb,htk,⟨_,rfl⟩,_,rfl,_,_,rfl,rfl,_,rfl,dc (λe=>?_) (λe=>?_)⟩
   ·have e':(i:Int) > iR cl ms:=of_decide_eq_true e;refine⟨_,rfl,_,rfl,i,B,c,ms,os,rfl,i8,hB.same s2,hl,λH3 s3=>⟨_,rfl,?_⟩⟩
    have ef:inF cl ms i=jS ms i:=by unfold inF;rw[decide_eq_true e'];rfl
    cases hn:jS ms i with
    |true =>
     refine cC ⟨_,rfl,bS.mk lt8 (s3 _ _ h2) ⟨?_,(s2.trans s3).own hR,ae⟩⟩;rw[oJ,ef,hn,if_pos rfl,kg];rfl
    |false =>
     refine bK (nr.mk lt8 ⟨?_,s2.trans s3,s3 _ _ h2⟩);rw[oJ,ef,hn,if_neg kj,S6]
   ·have e':¬(i:Int) > iR cl ms:=λz=>e (decide_eq_true z)
    refine bK (nr.mk lt8 ⟨?_,s2,h2⟩);have ef:inF cl ms i=false:=by unfold inF;rw[decide_eq_false e'];rfl
    rw[oJ,ef,if_neg kj,S6]
  ·rintro ys H2 ⟨rfl,s2,h2⟩;exact q R H2 hR s2 h2
theorem uR (T:Txt w.params K mg A):aX P w K mg base CX0 6 A.fh A.eK ["self"] (G4 A):=by
 refine T.qI.ok pE (λvs H Q E h=>?_) (λcdv A' outer s H vs Q E hr h=>?_)
 ·obtain⟨i,o,c,st,N,rfl,_⟩:=h;rfl
 ·obtain⟨i,o,c,st,N,rfl,hc,I,q⟩:=h;obtain⟨dx,aM,aP,aA,aD,aF,aE,aR,ms,ds,ws,fs,es,X⟩:=hc.ex;refine⟨_,(ai (aI (aU (sE T) hr rfl T.tN T.lz.kp T.tO .nil aV (aa (cA (pv 0) T.aq T.fU (qO (i:=i) T) (hr.mono (by decide)) T.fV .nil aV) (aa (a9 (pv 0) rfl) af))))),?_⟩
  try dsimp only[bt]
  have pl:=I.pil.yL;rw[ba]at pl;refine mtv rfl X.ob (bV (by trivial)) ⟨o,c,st,rfl,hc,I.bG,by omega,λR os hR ha=>?_⟩
  have s1:=ax (o:=.lst (os.map V.ref)) hR;have X1:=X.same s1;refine cU rfl X1.ob T.aq T.bM jz ⟨R,st.closed,c,st.av.map st.mo,os,rfl,?_,by rw[ba];omega,λR2 H2 hR2 s2 h2=>?_⟩
  ·exact⟨SqL.of ae,oB s1 ha⟩
  ·exact q R2 H2 (same_none s1 hR2) (s1.trans s2) h2
end
theorem J1 {as:List (Nat×Int×List Nat)}(nd:(as.map (·.1)).Nodup){x:Nat×Int×List Nat}(hx:x∈as):at1 x.1 as=some x:=by
 induction as with
 |nil=>cases hx
 |cons y as ih =>
  unfold at1;rw[gr,List.nodup_cons]at nd;rw[Sn];rcases List.mem_cons.mp hx with e | hx
  ·rw[e,decide_eq_true rfl]
  ·rw[decide_eq_false (λz=>nd.1 (by rw[z];exact List.mem_map_of_mem hx))]
   exact ih nd.2 hx
theorem Dh {N:Nat}{st:Ch}(I:Inv N st){ns:List Int}(pm:Tx ns (st.aG.map λx=>(x.1:Int))):Tx (ns.map (iT st)) st.aG:=by
 have h:=pm.map (iT st);have e:(st.aG.map λx=>(x.1:Int)).map (iT st)=st.aG:=by
  rw[TC];refine(S5 λx hx=>?_).trans (List.map_id _)
  show (at1 ((x.1:Int)).toNat st.aG).getD _=x;rw[Tz,J1 I.Jx hx];rfl
 rw[e]at h;exact h
theorem br.Og {α β:Type}{R:α->β->Prop}:∀ {as:List α} {bs:List β} {i:Nat} {b:β},br R as bs->bs[i]?=some b->∃a,as[i]?=some a/\R a b
 |_,_,_,_,.nil,h=>by simp at h
 |_,_,0,_,.cons h t,e=>by
  rw[Sa]at e;cases e;exact⟨_,Sa,h⟩
 |_,_,i+1,_,.cons h t,e=>by
  rw[Sf]at e;obtain⟨a,e1,e2⟩:=t.Og e;exact⟨a,by rw[Sf];exact e1,e2⟩
def z8 (A:Adr)(i:Nat):Sp:=λvs H Q _=>∃(o:Addr) (n:Nat) (c:Col) (st:Ch),vs=[.ref o,nV n]/\cV A i c H o st/\cy st n/\∀u H',bc H H'->MnT (bz c H) H' (st.mo n) u->(∀tx,st.mo n=.mat tx->∃p,H' u=some (.tup [.str (nm 0),.ref p])/\H p=none/\H' p=some (.lst (tx.map V.str)))->Q (.ref u) H'
section
variable{P:kr}{w:World}{K:bo}{mg:Str->Option Value}{base:Heap}{A:Adr}
theorem EU (T:Txt w.params K mg A){i:Nat}:aX P w K mg base (CXX P w) 3 A.eA A.dQ ["self","number"] (z8 A i):=by
 have EA:∀k,k < 8->aX P w K mg base CX0 2 (A.ft k) (A.ftd k) ["self"] (Bd A K k):=CP T;refine T.tS.okX rH (λvs H Q E h=>?_) (λcdv A' outer s H vs Q E hr h=>?_)
 ·obtain⟨o,n,c,st,rfl,_⟩:=h;rfl
 ·obtain⟨o,n,c,st,rfl,hc,hn,q⟩:=h;obtain⟨dx,aM,aP,aA,aD,aF,aE,aR,ms,ds,ws,fs,es,X⟩:=hc.ex;have hu1:=hr.u1;have hgd:=hr.gd;refine⟨_,(a6 (eI (Dq (sV hu1 (pv 1) (a9 (pv 0) rfl)))
 (bw (gu T.CI rfl rfl T.En (aa (za (i6 (sU (pv 1) sT))) af)))
 (rp aJ))
 (bw (psx (aI (iU (n:=8) (Cf:=A.C) (aY hu1 (a9 (pv 0) rfl) (pv 1) (λ_ _=>rfl)) T.cl T.Jc EA hr T.Je aV))))),?_⟩
  try dsimp only[bt]
  refine⟨_,rfl,cU rfl X.ob T.aq T.bE eU ⟨aM,_,rfl,.inl ⟨_,ki (n:Int),.inl X.made.2,rfl,rfl⟩,_,rfl,?_⟩⟩;refine aL λGq gq=>?_
  obtain⟨mo,hv,hmo⟩:=X.Lg hn;refine gq ?_;rw[hv];refine bK ?_;refine aL λGq gq=>?_
  obtain⟨_,dm,v,hm,hvv⟩:=hmo;refine gq ?_;refine⟨_,rfl,o,A.aB,dx,_,.ref aM,rfl,X.ob,T.aq,T.bE,eU,_,rfl,aM,_,rfl,.inl ⟨_,ki (n:Int),.inl X.made.2,rfl,hv.symm⟩,(st.mo n).k,(st.mo n).k8,mo,dm,_,rfl,hm,FA _ v,?_⟩;generalize st.mo n=m at hm hvv q
  by_cases h0:m.k=0
  ·obtain⟨tx,rfl⟩:∃tx,m=.mat tx:=by cases m <;> first | exact⟨_,rfl⟩ | exact absurd h0 (by simp[Mn.k])
   refine aL λGq gq=>?_
   obtain⟨p,rfl,hp⟩:=hvv;refine gq ?_;refine .inl ⟨rfl,mo,dm,p,tx.map V.str,rfl,hm,SqL.of hp.2,λp2 u hp2 hu npu=>?_⟩
   have nu:(upd H p2 (.lst (tx.map V.str))) u=none:=(ao (R4 npu)).trans hu;refine q u _ ((ax hp2).new nu) ⟨bx hu,.ref p2,ae,p2,rfl,bx hp2,(ao npu).trans ae⟩ λtx' e'=>?_
   cases e';exact⟨p2,ae,hp2,(ao npu).trans ae⟩
  ·refine .inr ⟨by omega,mo,dm,v,rfl,hm,λu hu=>?_⟩
   have su:=ax (o:=.tup (rowOf m.k v)) hu;exact q u _ su ⟨bx hu,v,ae,hvv.step (Step.cl (W:=λ_=>False) id su)⟩ λtx' e'=>absurd (by rw[e'];rfl) h0
end
def J2:Sp:=λvs H Q _=>∃(t:Addr) (c:Col) (d:R.cK),vs=[.ref t]/\oE d/\jG c H d t /\
 (∀cs,d=.mat cs->∀t' L' H',bc H H'->H t'=none->H L'=none->t'≠L'->H' t'=some (.tup [.str (ar "matter"),.ref L'])->H' L'=some (.lst ((cs.map (ky R.bl1)).map V.str))->Q (.ref t') H')/\((∀cs,d≠.mat cs)->Q (.ref t) H)
theorem J3 {d:R.cK}(hd:oE d)(h:decide (V.str (R.eF d)=V.str (ar "matter"))=true):∃cs,d=.mat cs:=by
 cases d with
 |mat cs=>exact⟨cs,rfl⟩
 |ed m k j ws=>cases m <;> exact absurd (of_decide_eq_true h) (by show V.str (ar _)≠_;trivial)
 |pt ws=>exact absurd (of_decide_eq_true h) (by show V.str (ar _)≠_;trivial)
 |nums kd ns =>
  have h':V.str kd=V.str (ar "matter"):=of_decide_eq_true h;cases hd with
  |Bo=>exact absurd h' (by trivial)
  |drop=>exact absurd h' (by trivial)
  |take=>exact absurd h' (by trivial)
  |move z=>rcases pB z.1 with ⟨u,rfl,rfl⟩ | ⟨rfl,rfl⟩ | ⟨rfl,rfl⟩ | ⟨rfl,rfl⟩ <;> exact absurd h' (by trivial)
section
variable{P:kr}{w:World}{K:bo}{mg:Str->Option Value}{base:Heap}{A:Adr}
theorem Di (T:Txt w.params K mg A):aX P w K mg base CX0 1 A.wU A.nO ["_law_deed_here"] J2:=by
 refine T.xn.ok Cd (λvs H Q E h=>?_) (λcdv A' outer s H vs Q E hr h=>?_)
 ·obtain⟨t,c,d,rfl,_⟩:=h;rfl
 ·obtain⟨t,c,d,rfl,hd,hz,q1,q2⟩:=h;refine⟨_,(ah (a4 (aC bf (aH aK (pv 0) ag (λ_ _=>rfl)) aj (aN _))
 (ai (aI (a8 (aa aj (aa (bD bA (by rfl) T.eQ cW (aa (aH aK (pv 0) ag (λ_ _=>rfl)) af)) af)))))
 aJ)
 (ai (aI (pv 0)))),?_⟩
  try dsimp only[bt]
  obtain⟨xs,hk⟩:=hz.kind;refine ixv rfl (SqT.of hk) (show atI (V.str (R.eF d)::xs) 0=some (.str (R.eF d)) from cq (j:=0) rfl) ⟨rfl,_,rfl,?_⟩
  cases hv:decide (V.str (R.eF d)=V.str (ar "matter")) with
  |false =>
   refine bK ⟨_,rfl,q2 λcs e=>?_⟩
   rw[e]at hv;exact absurd hv (by show decide (V.str (ar "matter")=V.str (ar "matter"))≠false;trivial)
  |true =>
   refine aL λGq gq=>?_
   obtain⟨cs,rfl⟩:=J3 hd hv;obtain⟨L,ht,cL,hL⟩:=hz;refine gq ?_;refine cC (ixv rfl (SqT.of ht.2) rfl ⟨L,_,rfl,.inl (SqL.of hL),λL' hL'=>⟨(sl 2),λt' ht'=>?_⟩⟩)
   have ne:t'≠L':=λz=>by rw[z,ae]at ht';cases ht'
   have ht0:H t'=none:=by rw[ao ne]at ht';exact ht'
   exact q1 cs rfl t' L' _ ((ax hL').new ht') ht0 hL' ne ae ((ao (R4 ne)).trans ae)
end
namespace R
section
variable{P:kr}{w:World}{K:bo}{mg:Str->Option Value}{base:Heap}{A:Adr}
theorem l4 {d:cK}(o:DOk d){ws:List Str}(h:eF d::cN d=ws):(ws.map (·.length)).sum+ws.length * bl1.length<=16777216:=by
 obtain⟨b1,b2,b3⟩:=pq o;have h2:=StrLaws.sumLen_le (B:=20) (eF d::cN d) (λw hw=>by
  rcases List.mem_cons.mp hw with rfl | hw
  ·exact b3
  ·exact b2 w hw)
 have e:bl1.length=1:=by trivial
 rw[rf]at h2;rw[<-h,e,rf];omega
theorem J4 (T:Txt w.params K mg A):aX P w K mg base CX0 2 A.Fm A.rP ["_law_deed_here"] (tY K):=by
 have ui:aX P w K mg base CX0 1 A.vq A.mj ["_law_clause_here"] iY:=mM T;refine T.Fq.ok lh (λvs H Q E h=>?_) (λcdv A' outer s H vs Q E hr h=>?_)
 ·obtain⟨t,d,rfl,_⟩:=h;rfl
 ·obtain⟨t,d,rfl,hd,o,q⟩:=h;have qX:Room 1 _:=hr;refine⟨_,(ah (a4 (aC bf (aH aK (pv 0) ag (λ_ _=>rfl)) aj (aN _))
 (ah (aZ (i:=1) lh.nd rfl (ma rfl) (bq (aa aj af)))
 (ah (ng Tj rfl (eW (aH aK (pv 0) ag (λ_ _=>rfl))) (ck (i:=2) lh.nd rfl (ma rfl))
 (ai (aZ (i:=1) lh.nd rfl (ma rfl) (aW iM (aW iM (pv 1) (bq (aa aj af))) (aU ui qX rfl T.iW T.gF.kp T.iX .nil aV (aa (pv 2) af))))))
 (ai (aI (bW So SN SO l6 aj (aa (pv 1) af))))))
 aJ)
 (ah (a4 (aC bf (aH aK (pv 0) ag (λ_ _=>rfl)) aj (aN _))
 (ai (aI (bW So SN SO l6 aj (aa (aW iM (bq (aa aj af)) (aU ui qX rfl T.iW T.gF.kp T.iX .nil aV (aa (aH aK (pv 0) ag (λ_ _=>rfl)) af))) af))))
 aJ)
 (ah (a4 (aC oS (aH aK (pv 0) ag (λ_ _=>rfl)) (a8 (aa aj (aa aj af))) rfl)
 (ah (aZ (i:=1) lh.nd rfl (ma rfl) (bq (aa (aH aK (pv 0) ag (λ_ _=>rfl)) (aa (aH aK (aH aK (pv 0) ag (λ_ _=>rfl)) ag (λ_ _=>rfl)) (aa (bD iL (by rfl) T.Ft Ao (aa (aH aK (aH aK (pv 0) ag (λ_ _=>rfl)) ag (λ_ _=>rfl)) af)) af)))))
 (ah (a4 (aC um (aH aK (aH aK (pv 0) ag (λ_ _=>rfl)) ag (λ_ _=>rfl)) aj (aN _))
 (ai (aZ (i:=1) lh.nd rfl (ma rfl) (aW iM (pv 1) (aU ui qX rfl T.iW T.gF.kp T.iX .nil aV (aa (aH aK (aH aK (pv 0) ag (λ_ _=>rfl)) ag (λ_ _=>rfl)) af)))))
 aJ)
 (ai (aI (bW So SN SO l6 aj (aa (pv 1) af))))))
 aJ)
 (ai (aI (bW So SN SO l6 aj (aa (aW iM (bq (aa (aH aK (pv 0) ag (λ_ _=>rfl)) af)) (oW (scope:=uG) D4 rfl (He (i4 Hm (pv 0) (jJ ag) oR)) (λ_ _ _ _ _=>(bD iL (by rfl) T.Ft Ao (aa (pv 0) af))))) af))))))),?_⟩
  try dsimp only[bt]
  have lim:fe=16777216:=by decide
  cases d with
  |mat cs =>
   refine aL λGq gq=>?_
   obtain⟨L,ht,hL⟩:=hd;refine gq ?_;refine ixv rfl ht rfl ⟨rfl,tst (by trivial) ?_⟩
   refine⟨(sl 1),λW hW=>?_⟩
   have s1:=ax (o:=.lst [V.str (ar "matter")]) hW
   try dsimp only[cf]
   refine ixv rfl (bj s1 ht) rfl ⟨L,rfl,⟨_,s1.seq hL⟩,?_⟩;refine kL (K:=K) (a:=L) (xs:=(cs.map (ky bl1)).map V.str) (λi σ H2=>∃(W:Addr) (v2:Option V),σ=[some (.ref t),some (.ref W),v2]/\bc H H2/\H2 W=some (.lst ((eF (.mat cs)::cN (.mat (cs.take i))).map V.str)))
    ⟨W,_,rfl,s1,ae⟩ (λi σ H2 _ ⟨_,_,_,s2,_⟩=>s2.seq hL) ?_ ?_
   ·rintro i y σ H2 hi ⟨W,v2,rfl,s2,h2⟩;rw[R0,R0]at hi;cases hc:cs[i]? with
    |none=>rw[hc]at hi;cases hi
    |some ws =>
     rw[hc]at hi;obtain rfl:V.str (ky bl1 ws)=y:=si hi;have ow:=o.2 ws (RV hc);have hcl:=gG ow;have wl:=ow.len;have hb:(cN (.mat (cs.take i))).length<=200:=(pq (d:=.mat (cs.take i)) ⟨by rw[Sj];have:=o.1;omega,λws hw=>o.2 ws (List.mem_of_mem_take hw)⟩).1
     refine⟨_,rfl,(sl 1),λp1 hp1=>?_⟩
     have a1:=ax (o:=.lst [V.str (ar "/")]) hp1;refine⟨W,p1,_,_,rfl,rfl,a1 _ _ h2,ae,by rw[ba,rf];show _+1+1<=_;omega,λp2 hp2=>?_⟩
     have a2:=a1.new (o:=.lst ((eF (.mat cs)::cN (.mat (cs.take i))).map V.str++[V.str (ar "/")])) hp2;refine⟨_,rfl,_,rfl,by omega,λp3 hp3=>?_⟩
     have n32:p2≠p3:=az ae hp3;rw[cJ ow.wd];have a3:=a2.new (o:=.lst (ws.map V.str)) hp3;refine⟨p2,p3,_,_,rfl,rfl,(ao n32).trans ae,ae,by rw[ka,ba,ba,rf];show _+1+1+_<=_;omega,λp4 hp4=>⟨p4,_,rfl,s2.trans (a3.new hp4),?_⟩⟩
     rw[ae,SY,hc];show some (HO.lst _)=some (HO.lst ((eF (.mat cs)::((cs.take i++[ws]).flatMap λws=>sl1::ws)).map V.str))
     rw[List.flatMap_append];simp[cN,sl1]
   ·rintro σ H2 ⟨W,v2,rfl,s2,h2⟩;rw[ba,ba,SW]at h2;exact⟨rfl,_,rfl,bl1,W,_,rfl,rfl,SqL.of h2,l4 o rfl,q H2 s2⟩
  |pt ws =>
   have hcl:=gG o;refine ixv rfl hd rfl ⟨rfl,tsf (by trivial) (ixv rfl hd rfl ⟨rfl,tst (by trivial) ?_⟩)⟩
   refine⟨rfl,(sl 1),λp1 hp1=>?_⟩
   have a1:=ax (o:=.lst [V.str (ar "point")]) hp1;refine ixv rfl (bj a1 hd) rfl ⟨_,rfl,by omega,λp2 hp2=>?_⟩
   have n12:p1≠p2:=az ae hp2;rw[cJ o.wd];have wl:=o.len;have a2:=a1.new (o:=.lst (ws.map V.str)) hp2;refine⟨p1,p2,_,_,rfl,rfl,(ao n12).trans ae,ae,by rw[ba];show 1+_<=_;omega,λp3 hp3=>?_⟩
   exact⟨bl1,p3,ar "point"::ws,rfl,rfl,SqL.of ae,l4 (d:=.pt ws) o rfl,q _ (a2.new hp3)⟩
  |ed m k i ws =>
   refine aL λGq gq=>?_
   obtain⟨e,ht,he⟩:=hd;obtain⟨hk,hi,ow,_⟩:=id o;have hcl:=gG ow;have wl:=ow.len;refine gq ?_;refine ixv rfl ht rfl ⟨rfl,tsf (by cases m <;> trivial) (ixv rfl ht rfl ⟨rfl,tsf (by cases m <;> trivial) (ixv rfl ht rfl ?_)⟩)⟩
   refine⟨(sl 2),λp0 hp0=>⟨p0,_,rfl,.inr (SqT.of ae),rfl,(by trivial),_,rfl,?_⟩⟩
   rw[show inV (V.str (kEd m)) [V.str (ar "change"),V.str (ar "mend")]=true by cases m <;> trivial]
   have a0:=ax (o:=.tup [V.str (ar "change"),V.str (ar "mend")]) hp0;generalize upd H p0 (.tup [V.str (ar "change"),V.str (ar "mend")])=H0 at a0 ⊢;have ht0:=bj a0 ht;have he0:=bj a0 he;refine pM rfl ?_;rcases hk with rfl | rfl | rfl
   ·refine ixv rfl ht0 rfl (ixv rfl ht0 rfl ⟨e,_,_,_,rfl,rfl,he0,rfl,ixv rfl ht0 rfl ⟨e,_,_,_,rfl,rfl,he0,rfl,i,rfl,pj hi.1 hi.2,(sl 3),λp1 hp1=>?_⟩⟩)
    have a1:=ax (o:=.lst [V.str (kEd m),.str (kn 0),.str (num i)]) hp1;have h11:(upd H0 p1 (.lst [V.str (kEd m),.str (kn 0),.str (num i)])) p1=some (.lst [V.str (kEd m),.str (kn 0),.str (num i)]):=ae;have s1:=a0.trans a1;have ht1:=bj a1 ht0;have he1:=bj a1 he0;change Hd _ _ _ _ (upd H0 p1 (.lst [V.str (kEd m),.str (kn 0),.str (num i)]));generalize upd H0 p1 (.lst [V.str (kEd m),.str (kn 0),.str (num i)])=H1 at a1 h11 s1 ht1 he1 ⊢;refine ixv rfl ht1 rfl ⟨e,_,_,_,rfl,rfl,he1,rfl,rfl,tst (by trivial) ?_⟩
    refine⟨_,rfl,ixv rfl ht1 rfl ⟨e,_,_,_,rfl,rfl,he1,rfl,_,rfl,by omega,λp2 hp2=>?_⟩⟩
    have n12:p1≠p2:=az h11 hp2;rw[cJ ow.wd];have a2:=ax (o:=.lst (ws.map V.str)) hp2;refine⟨p1,p2,_,_,rfl,rfl,a2 _ _ h11,ae,by rw[ba];show 3+_<=_;omega,λp3 hp3=>?_⟩
    exact⟨rfl,_,rfl,bl1,p3,kEd m::kn 0::num i::ws,rfl,rfl,SqL.of ae,l4 (d:=.ed m 0 i ws) o rfl,q _ ((s1.trans a2).new hp3)⟩
   ·refine ixv rfl ht0 rfl (ixv rfl ht0 rfl ⟨e,_,_,_,rfl,rfl,he0,rfl,ixv rfl ht0 rfl ⟨e,_,_,_,rfl,rfl,he0,rfl,i,rfl,pj hi.1 hi.2,(sl 3),λp1 hp1=>?_⟩⟩)
    have a1:=ax (o:=.lst [V.str (kEd m),.str (kn 1),.str (num i)]) hp1;have h11:(upd H0 p1 (.lst [V.str (kEd m),.str (kn 1),.str (num i)])) p1=some (.lst [V.str (kEd m),.str (kn 1),.str (num i)]):=ae;have s1:=a0.trans a1;have ht1:=bj a1 ht0;have he1:=bj a1 he0;change Hd _ _ _ _ (upd H0 p1 (.lst [V.str (kEd m),.str (kn 1),.str (num i)]));generalize upd H0 p1 (.lst [V.str (kEd m),.str (kn 1),.str (num i)])=H1 at a1 h11 s1 ht1 he1 ⊢;refine ixv rfl ht1 rfl ⟨e,_,_,_,rfl,rfl,he1,rfl,rfl,tsf (by trivial) ?_⟩
    exact⟨rfl,_,rfl,bl1,p1,[kEd m,kn 1,num i],rfl,rfl,SqL.of h11,l4 (d:=.ed m 1 i ws) o rfl,q _ s1⟩
   ·refine ixv rfl ht0 rfl (ixv rfl ht0 rfl ⟨e,_,_,_,rfl,rfl,he0,rfl,ixv rfl ht0 rfl ⟨e,_,_,_,rfl,rfl,he0,rfl,i,rfl,pj hi.1 hi.2,(sl 3),λp1 hp1=>?_⟩⟩)
    have a1:=ax (o:=.lst [V.str (kEd m),.str (kn 2),.str (num i)]) hp1;have h11:(upd H0 p1 (.lst [V.str (kEd m),.str (kn 2),.str (num i)])) p1=some (.lst [V.str (kEd m),.str (kn 2),.str (num i)]):=ae;have s1:=a0.trans a1;have ht1:=bj a1 ht0;have he1:=bj a1 he0;change Hd _ _ _ _ (upd H0 p1 (.lst [V.str (kEd m),.str (kn 2),.str (num i)]));generalize upd H0 p1 (.lst [V.str (kEd m),.str (kn 2),.str (num i)])=H1 at a1 h11 s1 ht1 he1 ⊢;refine ixv rfl ht1 rfl ⟨e,_,_,_,rfl,rfl,he1,rfl,rfl,tst (by trivial) ?_⟩
    refine⟨_,rfl,ixv rfl ht1 rfl ⟨e,_,_,_,rfl,rfl,he1,rfl,_,rfl,by omega,λp2 hp2=>?_⟩⟩
    have n12:p1≠p2:=az h11 hp2;rw[cJ ow.wd];have a2:=ax (o:=.lst (ws.map V.str)) hp2;refine⟨p1,p2,_,_,rfl,rfl,a2 _ _ h11,ae,by rw[ba];show 3+_<=_;omega,λp3 hp3=>?_⟩
    exact⟨rfl,_,rfl,bl1,p3,kEd m::kn 2::num i::ws,rfl,rfl,SqL.of ae,l4 (d:=.ed m 2 i ws) o rfl,q _ ((s1.trans a2).new hp3)⟩
  |nums kd ns =>
   refine aL λGq gq=>?_
   obtain⟨o1,o2⟩:=id o;obtain⟨n1,n2,n3,n4⟩:=Md o1;have kl:=(kd_len o1).2;have ht:SqT K H t (.str kd::ns.map V.int):=hd;have at0:atI (V.str kd::ns.map V.int) 0=some (.str kd):=cq (j:=0) rfl;refine gq ?_;refine ixv rfl ht at0 ⟨rfl,tsf (decide_eq_false n1) (ixv rfl ht at0 ⟨rfl,tsf (decide_eq_false n4) (ixv rfl ht at0 ?_)⟩)⟩;have nin:inV (V.str kd) [V.str (ar "change"),V.str (ar "mend")]=false:=by
    clear at0 ht n1 n2 n3 n4 kl o2 q hd;simp only[cM,TK,Ta,or_false,Prod.mk.injEq]at o1;rcases o1 with ⟨rfl,_⟩ | ⟨rfl,_⟩ | ⟨rfl,_⟩ | ⟨rfl,_⟩ | ⟨rfl,_⟩ | ⟨rfl,_⟩ | ⟨rfl,_⟩ <;> trivial
   refine⟨(sl 2),λp0 hp0=>⟨p0,_,rfl,.inr (SqT.of ae),rfl,(by trivial),_,rfl,?_⟩⟩
   rw[nin];have a0:=ax (o:=.tup [V.str (ar "change"),V.str (ar "mend")]) hp0;generalize upd H p0 (.tup [V.str (ar "change"),V.str (ar "mend")])=H0 at a0 ⊢;refine pN rfl ⟨rfl,ixv rfl (bj a0 ht) at0 ⟨(sl 1),λp1 hp1=>?_⟩⟩
   have a1:=ax (o:=.lst [V.str kd]) hp1;have h11:(upd H0 p1 (.lst [V.str kd])) p1=some (.lst [V.str kd]):=ae;have s1:=a0.trans a1;generalize upd H0 p1 (.lst [V.str kd])=H1 at a1 h11 s1 ⊢;refine⟨_,rfl,_,rfl,t,_,rfl,bj s1 ht,λz=>?_,λp hp=>?_⟩
   ·have z1:=z.1;rw[show (1:Int)=((1:Nat):Int) from rfl,HT.oQ,rf]at z1
    omega
   ·rw[show (1:Int)=((1:Nat):Int) from rfl,rj]
    show _;have hs1:bc H1 (upd H1 p (.tup (ns.map V.int))):=ax hp;have hpp:(upd H1 p (.tup (ns.map V.int))) p=some (.tup (ns.map V.int)):=ae;refine⟨p,rfl,⟨_,SqT.of hpp⟩,λD hD=>?_⟩
    have npD:p≠D:=az hpp hD;refine BP (K:=K) (a:=p) (xs:=ns.map V.int) (λi ys H3=>ys=(ns.take i).map (λn=>V.str (num n))/\H3=upd (upd H1 p (.tup (ns.map V.int))) D (.lst ys)) ⟨rfl,rfl⟩ (by rw[ba];omega) ?_ ?_ ?_
    ·rintro i ys H3 hi ⟨rfl,rfl⟩;rw[ba]at hi;exact⟨SqT.of ((ao npD).trans hpp),ae,by rw[ba,Sj];omega⟩
    ·rintro i y ys H3 hi ⟨rfl,rfl⟩;rw[R0]at hi;cases hc:ns[i]? with
     |none=>rw[hc]at hi;cases hi
     |some n =>
      refine aL λGq gq=>?_
      rw[hc]at hi;obtain rfl:V.int n=y:=si hi;obtain⟨b0,b1⟩:=o2 n (RV hc);refine gq ?_;refine⟨_,rfl,_,rfl,pj b0 b1,?_⟩;refine bS.mk (by rw[ba];exact(List.getElem?_eq_some_iff.mp hc).1) ae ⟨?_,by rw[iK]⟩
      rw[SY,hc,kg];rfl
    ·rintro ys H3 ⟨rfl,rfl⟩;rw[ba,SW];have s3:=hs1.new (o:=.lst (ns.map (λn=>V.str (num n)))) hD
     refine⟨p1,D,_,_,rfl,rfl,s3 _ _ h11,ae,by rw[ba];show 1+_<=_;omega,λp4 hp4=>?_⟩
     refine⟨bl1,p4,kd::ns.map num,rfl,rfl,?_,l4 (d:=.nums kd ns) o rfl,q _ ((s1.trans s3).new hp4)⟩;rw[gr,TC];exact SqL.of ae
end
end R
theorem EV {K:bo}{a D:Addr}{xs:List V}{te:TEX}{Q:VK}{E:XK}{σ:St}{H1:Hp}(Pv:Nat->List V->Hp->Prop)(h0:Pv 0 [] (upd H1 D (.lst [])))(hz:xs.length<=fe)
  (hl:∀i ys H2,i<=xs.length->Pv i ys H2->SqL K H2 a xs/\H2 D=some (.lst ys)/\ys.length=i)
  (hs:∀i x ys H2,xs[i]?=some x->Pv i ys H2->∃p t0 t1 t2,x=.ref p/\SqT K H2 p [t0,t1,t2]/\te (some t0::some t1::some t2::σ) H2 (bS D xs.length Pv i ys) E) (hd:∀ys H2,Pv xs.length ys H2->Q (.ref D) H2) :
  oZ 3 (Itl K a) (Kb K 3 (yP (cf 0) (yP (cf 1) (yP (cf 2) Mv)))) te σ D H1 Q E:=by
 refine⟨λi m ys H=>m=xs.length - i/\i<=xs.length/\Pv i ys H,⟨xs.length,by simp,Sl _,h0⟩,?_⟩
 rintro i m ys H2 ⟨rfl,hi,p⟩;obtain⟨q,q2,q3⟩:=hl i ys H2 hi p;refine⟨q2,?_⟩
 by_cases hlt:i < xs.length
 ·refine .inr ⟨⟨xs,xs[i],q,by simp[hlt]⟩,by omega,λx H3 y vs hv=>?_⟩
  obtain⟨e,y⟩:=y;subst e;obtain⟨v0,v1,v2,rfl⟩:∃v0 v1 v2,vs=[v0,v1,v2]:=by
   match vs,hv with
   |[v0,v1,v2],_=>exact⟨v0,v1,v2,rfl⟩
  obtain⟨p',t0,t1,t2,rfl,ht,hw⟩:=hs i x ys _ (y xs q) p;exact⟨p',_,rfl,ht,rfl,t0,_,rfl,t1,_,rfl,t2,_,rfl,rfl,[some t0,some t1,some t2],rfl,rfl,hw⟩
 ·have e:i=xs.length:=by omega
  subst e;exact .inl ⟨⟨xs,q,gn _⟩,hd ys H2 p⟩
def Oh (K:bo):Sp:=λvs H Q _=>∃(u:Addr) (c:Col) (st:Ch) (ns:List Int),vs=[.ref u]/\Df c H st ns u/\ns.length<=1000/\∀u' H',bc H H'->Df (bz c H) H' st ns u'->Q (.ref u') H'
def LG:Sp:=λvs H Q _=>∃(u:Addr) (H0:Hp) (st:Ch) (ns:List Int),vs=[.ref u]/\bc H0 H/\StF H0 H st ns u/\ns.length<=1000/\st.av.length<=1000/\st.decided.length<=1000/\(∀x∈ns.map (iT st),x.2.2.length<=1000)/\∀H',bc H0 H'->Q .non H'
def LsB (H:Hp)(p:Addr)(n:Nat):Prop:=∃xs,H p=some (.lst xs)/\xs.length<=n
theorem LsB.app {H:Hp}{p l:Addr}{n:Nat}{xs:List V}{v:V}(hp:H p=some (.lst xs))(hn:xs.length<=n)(h:LsB H l n):LsB (upd H p (.lst (xs++[v]))) l (n+1):=by
 by_cases z:l=p
 ·subst z;exact⟨_,ae,by rw[ka];show _+1<=_;omega⟩
 ·obtain⟨ys,h1,h2⟩:=h;exact⟨ys,(ao z).trans h1,by omega⟩
structure SpJ (H0 H:Hp)(u l1 R l2:Addr)(us ys:List V)(n:Nat):Prop where
 sm:bc H0 H
 hu:H u=some (.tup us)
 hR:H R=some (.lst ys)
 asd:∀v∈ys,∃u' l' a b,v=.ref u'/\H u'=some (.tup [a,b,.ref l'])/\l'≠R/\H0 l'=none/\LsB H l' n
 b1:LsB H l1 n
 b2:LsB H l2 n
theorem SpJ.app {H0 H:Hp}{u l1 R l2 p:Addr}{us ys xs:List V}{n:Nat}{v:V}(j:SpJ H0 H u l1 R l2 us ys n)(hp:H p=some (.lst xs))(hn:xs.length<=n)(nR:p≠R)(n0:H0 p=none):SpJ H0 (upd H p (.lst (xs++[v]))) u l1 R l2 us ys (n+1):=by
 refine⟨j.sm.own n0,(ao λz=>?_).trans j.hu,(ao (R4 nR)).trans j.hR,λw hw=>?_,j.b1.app hp hn,j.b2.app hp hn⟩
 ·have h:=j.hu;rw[z,hp]at h;cases h
 ·obtain⟨u',l',a,b,e,h1,h2,h3,h4⟩:=j.asd w hw;exact⟨u',l',a,b,e,(ao λz=>by rw[z,hp]at h1;cases h1).trans h1,h2,h3,h4.app hp hn⟩
section
variable{P:kr}{w:World}{K:bo}{mg:Str->Option Value}{base:Heap}{A:Adr}
theorem G5 (T:Txt w.params K mg A):aX P w K mg base CX0 1 A.Ee A.tJ ["_law_state_here"] (Oh K):=by
 refine T.CB.ok Gs (λvs H Q E h=>?_) (λcdv A' outer s H vs Q E hr h=>?_)
 ·obtain⟨u,c,st,ns,rfl,_⟩:=h;rfl
 ·obtain⟨u,c,st,ns,rfl,⟨l1,R,l2,ys,ds,S⟩,nl,q⟩:=h;refine⟨_,(ah (PSX.ps (BR (i:=1) (scope:=rM) ⟨rfl,rfl⟩ jN rfl rfl (ma rfl) (eW (aH aK (pv 0) ag (λ_ _=>rfl))) (λ_ _ _ _ _=>(Ff (K:=K) (n:=3) rfl rfl (cY (ck (i:=0) jN.nd2 rfl (ma rfl)) (cY (ck (i:=1) jN.nd2 rfl (ma rfl)) (cY (ck (i:=2) jN.nd2 rfl (ma rfl)) q0))))) (λ_ _ _ _ _=>(px (a8 (aa (pv 0) (aa (pv 1) (aa (bD (yy (K:=K) rfl) (by rfl) T.eQ cW (aa (pv 2) af)) af))))))))
 (ai (aI (a8 (aa (aH aK (pv 0) ag (λ_ _=>rfl)) (aa (aH aK (pv 0) ag (λ_ _=>rfl)) (aa (bD bA (by rfl) T.eQ cW (aa (aH aK (pv 0) ag (λ_ _=>rfl)) af)) (aa (pv 1) (aa (bD bA (by rfl) T.eQ cW (aa (aH aK (pv 0) ag (λ_ _=>rfl)) af)) af))))))))),?_⟩
  try dsimp only[bt]
  have lim:fe=16777216:=by decide
  have yl:ys.length=ns.length:=by rw[<-S.asd.len,ba]
  refine ixv rfl (SqT.of S.hu) rfl ⟨R,rfl,⟨_,SqL.of S.hR⟩,λD hD=>?_⟩
  refine EV (K:=K) (a:=R) (xs:=ys) (λj zs H2=>bc H H2/\H2 D=some (.lst zs)/\br (AsN H H2 D) ((ns.take j).map (iT st)) zs) ⟨ax hD,ae,.nil⟩ (by omega) ?_ ?_ ?_
  ·rintro j zs H2 hj ⟨s2,hD2,ha⟩;refine⟨SqL.of (s2 _ _ S.hR),hD2,?_⟩;rw[<-ha.len,ba,Sj];omega
  ·rintro j y zs H2 hj ⟨s2,hD2,ha⟩;refine aL λGq gq=>?_
   obtain⟨x,hx,u',l',rfl,⟨_,hu'⟩,_,hl'⟩:=S.asd.Og hj;refine gq ?_;refine⟨u',_,_,_,rfl,SqT.of (s2 _ _ hu'),_,rfl,_,rfl,_,rfl,l',_,rfl,.inl (SqL.of (s2 _ _ hl')),λl3 hl3=>⟨(sl 3),λu3 hu3=>?_⟩⟩
   refine aL λGq gq=>?_
   obtain⟨n,hn,rfl⟩:∃n,ns[j]?=some n/\iT st n=x:=by
    rw[R0]at hx;cases hc:ns[j]? with
    |none=>rw[hc]at hx;cases hx
    |some n=>rw[hc]at hx;exact⟨n,rfl,si hx⟩
   have n3:u3≠l3:=λz=>by rw[z,ae]at hu3;cases hu3
   have Oi:H2 u3=none:=by rw[ao n3]at hu3;exact hu3
   have s4:=(ax (o:=.lst ((iT st n).2.2.map nV)) hl3).new (o:=.tup [nV (iT st n).1,.int (iT st n).2.1,.ref l3]) hu3;refine gq ?_;refine bS.mk (List.getElem?_eq_some_iff.mp hj).1 (s4 _ _ hD2) ⟨(s2.trans s4).own hD,ae,?_⟩;rw[SY,hn,kg];exact br.snoc (ha.imp λ_ _ z=>(z.same s4).upd) (AsN.upd ⟨u3,l3,rfl,⟨(λz=>by rw[z,hD2]at Oi;cases Oi),(λz=>by rw[z,hD2]at hl3;cases hl3)⟩,⟨same_none s2 Oi,same_none s2 hl3⟩,ae,(ao (R4 n3)).trans ae⟩)
  ·rintro zs H2 ⟨s2,hD2,ha⟩;rw[yl,SW]at ha;dsimp only;have hu2:=SqT.of (K:=K) (s2 _ _ S.hu);refine ixv rfl hu2 rfl (ixv rfl hu2 rfl (ixv rfl hu2 rfl ⟨l1,_,rfl,.inl (SqL.of (s2 _ _ S.h1)),λm1 hm1=>?_⟩))
   have s3:=ax (o:=.lst (st.av.map nV)) hm1;have s03:=s2.trans s3;refine⟨_,rfl,ixv rfl (SqT.of (s03 _ _ S.hu)) rfl ⟨l2,_,rfl,.inl (SqL.of (s03 _ _ S.h2)),λm2 hm2=>⟨(sl 5),λu5 hu5=>?_⟩⟩⟩
   have s4:=ax (o:=.lst ds) hm2;have s5:=ax (o:=.tup [V.int st.aQ,.bl st.closed,.ref m1,.ref D,.ref m2]) hu5;have s45:=s4.trans s5;have s35:=s3.trans s45;have e5:Step (λ_=>False) c (bz c H) H _:=Step.cl id (s03.trans s45)
   refine q u5 _ (s03.trans s45) ⟨m1,D,m2,zs,ds,bx (same_none (s03.trans s4) hu5),ae,bx (same_none s2 hm1),s45 _ _ ae,bx hD,s35 _ _ hD2,ha.imp λx v z=>?_,bx (same_none s03 hm2),s5 _ _ ae,S.dec.imp λ_ _ z=>z.step e5⟩
   refine aL λGq gq=>?_
   obtain⟨u',l',e,_,⟨z1,z2⟩,z3,z4⟩:=z.same s35;refine gq ?_;exact⟨u',l',e,⟨bx z1,z3⟩,bx z2,z4⟩
theorem EW (T:Txt w.params K mg A):aX P w K mg base CX0 1 A.AX A.qC ["_law_state_here"] LG:=by
 refine T.zH.ok mf (λvs H Q E h=>?_) (λcdv A' outer s H vs Q E hr h=>?_)
 ·obtain⟨u,H0,st,ns,rfl,_⟩:=h;rfl
 ·obtain⟨u,H0,st,ns,rfl,s0,⟨l1,R,l2,ys,ds,S⟩,nl,pl,dl,xl,q⟩:=h;refine⟨_,(ah (bh (bW fu ko kq bu (aH aK (pv 0) ag (λ_ _=>rfl)) (aa ag af)))
 (ah (ng Tj rfl (eW (aH aK (pv 0) ag (λ_ _=>rfl))) (Ae rfl (cY (ck (i:=1) mf.nd rfl (ma rfl)) (cY (ck (i:=2) mf.nd rfl (ma rfl)) (cY (ck (i:=3) mf.nd rfl (ma rfl)) q0))))
 (ai (bh (bW fu ko kq bu (pv 3) (aa ag af)))))
 (ah (bh (bW fu ko kq bu (aH aK (pv 0) ag (λ_ _=>rfl)) (aa ag af)))
 (ai (bh (bW fu ko kq bu (aH aK (pv 0) ag (λ_ _=>rfl)) (aa ag af))))))),?_⟩
  try dsimp only[bt]
  have lim:fe=16777216:=by decide
  have yl:ys.length=ns.length:=by rw[<-S.asd.len,ba]
  have j0:SpJ H0 H u l1 R l2 [.int st.aQ,.bl st.closed,.ref l1,.ref R,.ref l2] ys 1000:=⟨s0,S.hu,S.hR,λv hv=>by
   obtain⟨i,hi⟩:=List.mem_iff_getElem?.mp hv;obtain⟨x,hx,u',l',e,⟨_,h1⟩,⟨_,h2⟩,h3,h4⟩:=S.asd.Og hi;exact⟨u',l',_,_,e,h3,h1,h2,_,h4,by rw[ba];exact xl x (RV hx)⟩,⟨_,S.h1,by rw[ba];exact pl⟩,⟨_,S.h2,by rw[S.dl];exact dl⟩⟩
  refine ixv rfl (SqT.of j0.hu) rfl ⟨.inl ⟨rfl,_,SqL.of S.h1⟩,l1,_,_,rfl,rfl,S.h1,by rw[ba];omega,?_⟩
  have j1:=j0.app (v:=.int 0) S.h1 (by rw[ba];exact pl) S.ne1 S.n1
  generalize upd H l1 (.lst (st.av.map nV++[V.int 0]))=H1 at j1 ⊢;clear j0;refine ixv rfl (SqT.of j1.hu) rfl ⟨R,rfl,⟨_,SqL.of j1.hR⟩,?_⟩;refine kL (K:=K) (a:=R) (xs:=ys) (λi σ' H'=>∃v1 v2 v3,σ'=[some (.ref u),v1,v2,v3]/\SpJ H0 H' u l1 R l2 [.int st.aQ,.bl st.closed,.ref l1,.ref R,.ref l2] ys (1001+i))
   ⟨_,_,_,rfl,j1⟩ (λi σ' H' _ ⟨_,_,_,_,j⟩=>SqL.of j.hR) ?_ ?_
  ·rintro i y σ' H2 hi ⟨v1,v2,v3,rfl,j⟩;refine aL λGq gq=>?_
   have il:=(List.getElem?_eq_some_iff.mp hi).1;obtain⟨u',l',a,b,rfl,h1,h2,h3,xs,h4,h5⟩:=j.asd y (RV hi);refine gq ?_;refine⟨u',_,rfl,SqT.of h1,rfl,a,_,rfl,b,_,rfl,.ref l',_,rfl,rfl,?_⟩;exact⟨_,rfl,.inl ⟨rfl,_,SqL.of h4⟩,l',_,_,rfl,rfl,h4,by omega,_,_,_,rfl,j.app h4 h5 h2 h3⟩
  ·rintro σ' H2 ⟨v1,v2,v3,rfl,j⟩;refine ixv rfl (SqT.of j.hu) rfl ⟨.inl ⟨rfl,_,SqL.of j.hR⟩,R,_,_,rfl,rfl,j.hR,by omega,?_⟩
   refine aL λGq gq=>?_
   obtain⟨xs,h4,h5⟩:=j.b2;have hu3:(upd H2 R (.lst (ys++[V.int 0]))) u=_:=(ao λz=>by have h:=j.hu;rw[z,j.hR]at h;cases h).trans j.hu
   have h23:(upd H2 R (.lst (ys++[V.int 0]))) l2=some (.lst xs):=(ao S.ne2).trans h4;refine gq ?_;exact ixv rfl (SqT.of hu3) rfl ⟨.inl ⟨rfl,_,SqL.of h23⟩,l2,_,_,rfl,rfl,h23,by omega,q _ ((j.sm.own S.nR).own S.n2)⟩
end
theorem LH {X:Cx}(hu:X.A.units+64 < cLine):OpR X (SH .NotEq) (λx y H Q=>∃a b xs,x=.ref a/\y=.ref b/\SqL X.K H a xs/\SqL X.K H b []/\Q (.bl (!xs.isEmpty)) H):=by
 intro pins s σ H x y v u Q I rx ry h;obtain⟨a,b,xs,rfl,rfl,ha,hb,q⟩:=h;cases xs with
 |nil =>
  have d1:DV X.K H (.list []) (.ref a):=by unfold DV;exact⟨a,[],rfl,ha,by unfold DVs;rfl⟩
  have d2:DV X.K H (.list []) (.ref b):=by unfold DV;exact⟨b,[],rfl,hb,by unfold DVs;rfl⟩
  obtain⟨as,r1⟩:=DV.reads I _ d1 rx;obtain⟨bs,r2⟩:=DV.reads I _ d2 ry;exact PyProof.Rows.ne_dataH r1 r2 rfl rfl hu ⟨.bl _,H,I,rfl,q⟩
 |cons x0 r0 =>
  cases rx;cases ry;obtain⟨i1,r1,p1,z1⟩:=I.list ha;obtain⟨i2,r2,p2,z2⟩:=I.list hb;have l1:=r1.length;have l2:=r2.length;exact PySem.EqBoolInt.of_rcne (PySem.SeqAt.RcNeAt.lists_lengths p1.isList p2.isList (by simp only[kf];rw[<-l1,<-l2];rfl) (by omega)) ⟨.bl _,H,I,rfl,q⟩
def z9 (A:Adr)(i:Nat):Sp:=λvs H Q _=>∃(o:Addr) (c:Col) (st:Ch),vs=[.ref o]/\cV A i c H o st/\∀l,H l=none->Q (.ref l) (upd H l (.lst (st.rows.map V.str)))
section
variable{P:kr}{w:World}{K:bo}{mg:Str->Option Value}{base:Heap}{A:Adr}
theorem EX (T:Txt w.params K mg A){i:Nat}:aX P w K mg base CX0 1 A.dR A.dD ["self"] (z9 A i):=by
 refine T.rT.ok ql (λvs H Q E h=>?_) (λcdv A' outer s H vs Q E hr h=>?_)
 ·obtain⟨o,c,st,rfl,_⟩:=h;rfl
 ·obtain⟨o,c,st,rfl,hc,q⟩:=h;obtain⟨dx,aM,aP,aA,aD,aF,aE,aR,ms,ds,ws,fs,es,X⟩:=hc.ex;refine⟨_,(ai (aI (bD bA (by rfl) T.eQ cW (aa (a9 (pv 0) rfl) af)))),?_⟩
  try dsimp only[bt]
  exact cU rfl X.ob T.aq T.cH ou ⟨aR,_,rfl,.inl (SqL.of X.rows.2),q⟩
end
theorem MnT.dv {K:bo}{c:Col}{H:Hp}{m:Mn}{t:Addr}(h:MnT c H m t):DV K H (mnD m) (.ref t):=by
 obtain⟨_,v,ht,hv⟩:=h
 by_cases h0:m.k=0
 ·obtain⟨tx,rfl⟩:∃tx,m=.mat tx:=by cases m <;> first | exact⟨_,rfl⟩ | exact absurd h0 (by simp[Mn.k])
  obtain⟨p,rfl,hp⟩:=hv;unfold mnD DV;refine⟨t,_,rfl,SqT.of ht,?_⟩;unfold DVs;refine⟨_,_,rfl,by unfold DV;rfl,?_⟩
  unfold DVs;exact⟨_,_,rfl,vj (SqL.of hp.2),by unfold DVs;rfl⟩
 ·exact N1 (by omega) hv (SqT.of ht)
def Dj (K:bo)(i:Nat):Sp:=λvs H Q _=>∃(m:Addr) (c:Col) (st:Ch),vs=[.ref m]/\fv i c H m st/\st.aG.length < 64 /\
 ∀(ns:List Int) (u:Addr) (H':Hp),Tx ns (st.aG.map λx=>(x.1:Int))->ns.Pairwise (·<=·)->bc H H'->DV K H' (stD st ns) (.ref u)->Q (.ref u) H'
section
variable{P:kr}{w:World}{K:bo}{mg:Str->Option Value}{base:Heap}{A:Adr}
theorem EY (T:Txt w.params K mg A){i:Nat}:aX P w K mg base CX0 1 A.vv A.mq ["_law_m"] (Dj K i):=by
 refine T.zF.ok qt (λvs H Q E h=>?_) (λcdv A' outer s H vs Q E hr h=>?_)
 ·obtain⟨m,c,st,rfl,_⟩:=h;rfl
 ·obtain⟨m,c,st,rfl,hm,hal,q⟩:=h;obtain⟨aP,aA,aD,aM,ds,ws,es,X⟩:=hm.ex;have hu1:=hr.u1;have lim:fe=16777216:=by decide
  refine⟨_,(ah (aZ (i:=1) qt.nd rfl (ma rfl) (bq af))
 (ah (ng Tj rfl (eW (bQ (l8 hr.hd) (by rfl) T.xo sX (aa (aY hu1 (pv 0) aj (λ_ _=>rfl)) af))) (ck (i:=2) qt.nd rfl (ma rfl))
 (ai (bh (bW fu ko kq bu (pv 1) (aa (a8 (aa (pv 2) (aa (aH aK (aY hu1 (aY hu1 (pv 0) aj (λ_ _=>rfl)) (pv 2) (λ_ _=>rfl)) ag (λ_ _=>rfl)) (aa (bD bA (by rfl) T.eQ cW (aa (aH aK (aY hu1 (aY hu1 (pv 0) aj (λ_ _=>rfl)) (pv 2) (λ_ _=>rfl)) ag (λ_ _=>rfl)) af)) af)))) af)))))
 (ai (aI (a8 (aa (aY hu1 (pv 0) aj (λ_ _=>rfl)) (aa (aY hu1 (pv 0) aj (λ_ _=>rfl)) (aa (bD bA (by rfl) T.eQ cW (aa (aY hu1 (pv 0) aj (λ_ _=>rfl)) af)) (aa (pv 1) (aa (bD bA (by rfl) T.eQ cW (aa (aY hu1 (pv 0) aj (λ_ _=>rfl)) af)) af)))))))))),?_⟩
  try dsimp only[bt]
  refine⟨Sl _,λR hR=>?_⟩
  have s0:=ax (o:=.lst []) hR;have X0:=X.same s0;refine dgv rfl X0.ga ⟨aA,_,_,rfl,X0.aG.2,yp st.aG ws X.wait.len,by rw[ba];exact hal,λl ns pm so hl=>⟨l,rfl,⟨_,SqL.of ae⟩,?_⟩⟩
  have nl:ns.length=st.aG.length:=by rw[pm.length_eq,ba]
  have nRl:R≠l:=az ae hl;refine kL (K:=K) (a:=l) (xs:=ns.map V.int) (λj σ H2=>∃(ys:List V) (v2:Option V),σ=[some (.ref m),some (.ref R),v2]/\bc H H2/\H2 l=some (.lst (ns.map V.int))/\H2 R=some (.lst ys)/\br (yN H2 R) ((ns.take j).map (iT st)) ys)
   ⟨[],_,rfl,s0.new hl,ae,(ao nRl).trans ae,.nil⟩ (λj σ H2 _ ⟨_,_,_,_,h,_⟩=>SqL.of h) ?_ ?_
  ·rintro j y σ H2 hy ⟨ys,v2,rfl,s2,hl2,hR2,ha⟩;refine aL λGq gq=>?_
   obtain⟨n,hn1,rfl⟩:∃n,ns[j]?=some n/\V.int n=y:=by
    rw[R0]at hy;cases ht:ns[j]? with
    |none=>rw[ht]at hy;cases hy
    |some t=>rw[ht]at hy;exact⟨t,rfl,si hy⟩
   have EG:n∈st.aG.map λx=>(x.1:Int):=pm.mem_iff.mp (RV hn1)
   obtain⟨x0,hx0,e0⟩:=List.mem_map.mp EG;obtain⟨x,hx⟩:∃x,at1 x0.1 st.aG=some x:=by
    cases z:at1 x0.1 st.aG with
    |some x=>exact⟨x,rfl⟩
    |none=>exact absurd (List.mem_map_of_mem hx0) (ox z)
   have e0':((x0.1:Nat):Int)=n:=e0;subst e0';have X2:=X.same s2;have ea:iT st ((x0.1:Nat):Int)=x:=by unfold iT;rw[Tz,hx];rfl
   obtain⟨t,p,hv,ht,hlp⟩:=X2.waitOf hx;have yl:ys.length<=64:=by
    rw[<-ha.len,ba,Sj];omega
   refine gq ?_;refine⟨_,rfl,.inl ⟨rfl,_,SqL.of hR2⟩,_,rfl,_,rfl,m,_,rfl,X2.ga,_,rfl,aA,_,rfl,.inl ⟨_,ki (x0.1:Int),.inl X2.aG.2,rfl,hv.symm⟩,t,_,_,_,rfl,rfl,ht.sq,rfl,?_⟩;refine⟨_,rfl,m,_,rfl,X2.ga,_,rfl,aA,_,rfl,.inl ⟨_,ki (x0.1:Int),.inl X2.aG.2,rfl,hv.symm⟩,t,_,_,_,rfl,rfl,ht.sq,rfl,p,_,rfl,.inl (SqL.of hlp.2),λl3 hl3=>⟨(sl 3),λu hu=>?_⟩⟩
   have s3:=(ax (o:=.lst (x.2.2.map nV)) hl3).new (o:=.tup [nV x0.1,.int x.2.1,.ref l3]) hu;have nul:u≠l3:=λz=>by rw[z,ae]at hu;cases hu
   have hu0:H2 u=none:=by rw[ao nul]at hu;exact hu
   have nuR:u≠R:=λz=>by rw[z,hR2]at hu0;cases hu0
   have nlR:l3≠R:=λz=>by rw[z,hR2]at hl3;cases hl3
   have hR3:=s3 _ _ hR2;refine⟨R,ys,.ref u,rfl,rfl,hR3,by omega,?_⟩
   have a1:yN (upd (upd H2 l3 (.lst (x.2.2.map nV))) u (.tup [nV x0.1,.int x.2.1,.ref l3])) R x (.ref u):=by
    refine⟨u,l3,rfl,nuR,nlR,?_,(ao (R4 nul)).trans ae⟩;rw[(eZ hx).1];exact ae
   refine⟨ys++[.ref u],_,rfl,(s2.trans s3).own hR,(ao nRl.symm).trans (s3 _ _ hl2),ae,?_⟩;rw[SY,hn1,kg];refine br.snoc (ha.imp λ_ _ z=>(z.same s3).upd) ?_
   rw[ea];exact a1.upd
  ·rintro σ H2 ⟨ys,v2,rfl,s02,hl2,hR2,ha⟩;rw[ba,SW]at ha;have X2:=X.same s02;refine dgv rfl X2.gs (dgv rfl X2.gc (dgv rfl X2.gp ⟨aP,_,rfl,.inl (SqL.of X2.av.2),λl1 hl1=>?_⟩))
   have s3:=ax (o:=.lst (st.av.map nV)) hl1;have X3:=X2.same s3;refine⟨_,rfl,dgv rfl X3.gd ⟨aD,_,rfl,.inl (SqL.of X3.dec.2),λl2 hl2=>⟨(sl 5),λu hu=>?_⟩⟩⟩
   have s4:=ax (o:=.lst (ds.map V.ref)) hl2;have s5:=ax (o:=.tup [V.int st.aQ,.bl st.closed,.ref l1,.ref R,.ref l2]) hu;refine q ns u _ pm so (((s02.trans s3).trans s4).trans s5) ?_;have X5:=X3.same (s4.trans s5);unfold stD DV;refine⟨u,_,rfl,SqT.of ae,?_⟩;unfold DVs;refine⟨_,_,rfl,by unfold DV;rfl,?_⟩
   unfold DVs;refine⟨_,_,rfl,by unfold DV;rfl,?_⟩
   unfold DVs;refine⟨_,_,rfl,fb (SqL.of ((s4.trans s5) _ _ ae)),?_⟩;unfold DVs;refine⟨_,_,rfl,?_,?_⟩
   ·unfold DV;refine⟨R,ys,rfl,SqL.of (((s3.trans s4).trans s5) _ _ hR2),?_⟩;rw[show (ns.map λn=>asD (iT st n))=(ns.map (iT st)).map asD by rw[TC];rfl]
    exact br.dvs (λx v h=>h.dv) (ha.imp λ_ _ z=>z.same ((s3.trans s4).trans s5))
   ·unfold DVs;refine⟨_,_,rfl,?_,by unfold DVs;rfl⟩
    unfold DV;refine⟨l2,_,rfl,SqL.of (s5 _ _ ae),?_⟩;refine br.dvs (R:=λ(x:Nat×Str) v=>∃t,v=.ref t/\TupAt c _ t [nV x.1,.str x.2]) ?_ (br.mapR (X5.iy.imp λx t h=>⟨t,rfl,h⟩))
    rintro x v ⟨t,rfl,h⟩;unfold dcD DV;refine⟨t,_,rfl,h.sq,?_⟩;unfold DVs;refine⟨_,_,rfl,by unfold DV;rfl,?_⟩
    unfold DVs;exact⟨_,_,rfl,by unfold DV;rfl,by unfold DVs;rfl⟩
end
theorem FV (n:Int):Inv 0 (hZ n) :=
 ⟨gn 0,gn 0,gn 0,gn 0,(λ_ h=>nomatch h),⟨by show (1:Int)<=1;decide,by show (1:Int)<=_;decide⟩,(λ_ h=>nomatch h),(λ_ h=>nomatch h),List.nodup_nil,.nil,(λ_ h=>nomatch h),rfl,rfl,(λ_ h=>nomatch h)⟩
theorem Aa {W:Option (Nat×Rl)->Prop}(n:¬W none){c c':Col}{H1 H2:Hp}{x dx:Addr}{o:HO}(hx:H1 x=none)(hdx:H1 dx=none)(hk:∀a v,(upd (upd H1 dx (.own x)) x o) a=some v->a≠x->H2 a=some v/\c' a=c a):Step W c c' H1 H2:=by
 have old:∀a v,H1 a=some v->H2 a=some v/\c' a=c a:=λa v h =>
  hk a v ((ao (az h hx)).trans ((ao (az h hdx)).trans h)) (az h hx)
 exact⟨n,λa v h _=>(old a v h).1,λa v h=>⟨v,(old a v h).1⟩,λa v h _=>(old a v h).2⟩
theorem fv.other {i j:Nat}(n:i≠j){c c':Col}{H H':Hp}{m:Addr}{st:Ch}(s:Step (cz j) c c' H H')(h:fv i c H m st):fv i c' H' m st:=h.free (λr=>cm n r) s
theorem Dk (st:Ch)(m:Mn):(st.carry m).bN=st.bN:=by
 unfold Ch.carry;split
 ·split
  ·split <;> rfl
  ·rfl
 ·split
  ·split <;> rfl
  ·rfl
 ·split <;> rfl
 ·rfl
 ·split <;> rfl
 ·rfl
 ·rfl
theorem sF (st:Ch):st.opened.bN=st.bN:=by unfold Ch.opened;rfl
theorem Dl {st:Ch}{d:R.cK}(h:oE d):(bO st d).2.bN=st.bN:=by
 cases h with
 |Bo =>
  rw[gK];unfold jE;split
  ·rfl
  ·split
   ·rfl
   ·show ((if _ then _ else _:Ch).qS _).bN=_
    unfold Ch.qS;rw[show ∀(x:Ch) (r:List Str),({ x.opened with rows:=r }:Ch).bN=x.opened.bN from λ_ _=>rfl,sF]
    split
    ·rw[Dk];rfl
    ·rfl
 |drop =>
  rw[gL];unfold jT;split
  ·rfl
  ·show ((_:Ch).qS _).bN=_;unfold Ch.qS;rw[show ∀(x:Ch) (r:List Str),({ x.opened with rows:=r }:Ch).bN=x.opened.bN from λ_ _=>rfl,sF]
   rfl
 |take =>
  rw[gM];unfold stepT;split
  ·split
   ·rfl
   ·split <;> rfl
  ·rfl
 |move h =>
  rw[gN h];unfold jU;split <;> rfl
structure Base (A:Adr)(l o m:Addr)(cs:List V)(c:Col)(H:Hp)(st:Ch):Prop where
 cl:c l=none
 hl:H l=some (.lst cs)
 one:cV A 1 c H o st
 two:fv 2 c H m st
theorem Base.free {A:Adr}{l o m:Addr}{cs:List V}{c c':Col}{H H':Hp}{st:Ch}{W:Option (Nat×Rl)->Prop}(h1:∀r,¬W (some (1,r)))(h2:∀r,¬W (some (2,r)))(s:Step W c c' H H')(b:Base A l o m cs c H st):Base A l o m cs c' H' st :=
 ⟨(bp s b.cl b.hl).1,(bp s b.cl b.hl).2,b.one.free h1 s,b.two.free h2 s⟩
def FW (K:bo):Sp:=λvs H Q _=>∃(a:Addr) (ns:List Int),vs=[.ref a]/\SqL K H a (ns.map V.int)/\ns.length<=63/\∀H',Q (.bl true) H'
theorem oK {ι:Type}{P:kr}{w:World}{K:bo}{mg:Str->Option Value}{base:Heap}{CX:CXT}{k:Nat}{f:Addr}{fd:fi}{ps:List Str}{sp:ι->Sp}(h:∀i,aX P w K mg base CX k f fd ps (sp i)):aX P w K mg base CX k f fd ps (λvs H Q E=>∃i,sp i vs H Q E) :=
 ⟨λvs H Q E ⟨i,z⟩=>(h i).len vs H Q E z,λA outer s H args us vs Q E hr he hb hv ⟨i,z⟩=>(h i).run A outer s H args us vs Q E hr he hb hv z⟩
def Oj (x:Option (Nat×Rl)):Prop:=x≠none
theorem FX:¬Oj none:=λh=>h rfl
theorem Step.wall {W:Option (Nat×Rl)->Prop}{c c':Col}{H H':Hp}(s:Step W c c' H H'):Step Oj c c' H H':=s.mono (λx h e=>s.nn (e▸h)) FX
def Sty (K:bo)(c:Col)(H:Hp)(d:PyData)(v:V):Prop:=∀c' H',Step Oj c c' H H'->DV K H' d v
theorem Sty.step {K:bo}{W:Option (Nat×Rl)->Prop}{c c':Col}{H H':Hp}{d:PyData}{v:V}(s:Step W c c' H H')(h:Sty K c H d v):Sty K c' H' d v:=λc2 H2 s2=>h c2 H2 (s.wall.trans s2)
theorem Sty.dv {K:bo}{c:Col}{H:Hp}{d:PyData}{v:V}(h:Sty K c H d v):DV K H d v:=h c H (Step.refl FX)
theorem Df.sty {K:bo}{c:Col}{H:Hp}{st:Ch}{ns:List Int}{u:Addr}(h:Df c H st ns u):Sty K c H (stD st ns) (.ref u):=λc' H' s=>by
 obtain⟨l1,R,l2,ys,ds,S⟩:=h.step s;exact S.dv
theorem FY {K:bo}{c:Col}{H:Hp}{p:Addr}{ws:List Str}(h:xU c H p ws):Sty K c H (.list (ws.map SU)) (.ref p):=λc' H' s=>vj (SqL.of (h.step s).2)
def HeldAt (K:bo)(c:Col)(H:Hp)(v:V):Prop:=∃p a b d,v=.ref p/\(c p=none/\H p=some (.tup [a,b]))/\Sty K c H d a/\Sty K c H d b/\d.canLay0=true/\d.depth<=64
theorem HeldAt.step {K:bo}{W:Option (Nat×Rl)->Prop}{c c':Col}{H H':Hp}{v:V}(s:Step W c c' H H'):HeldAt K c H v->HeldAt K c' H' v
 |⟨p,a,b,d,e,h1,h2,h3,h4⟩=>⟨p,a,b,d,e,bp s h1.1 h1.2,h2.step s,h3.step s,h4⟩
def put2 {α:Type}(f:Nat->α)(k:Nat)(x:α):Nat->α:=λj=>if j=k then x else f j
structure W21 (K:bo)(A:Adr)(c:Col)(H:Hp)(lS lC lM lH lR:Addr)(n:Nat->Int)(o m r:Nat->Addr)(sc sm:Nat->Ch)(rw:Nat->List Str)(hs:List V):Prop where
 S:c lS=none/\H lS=some (.lst [.int (n 0),.int (n 1)])
 C:c lC=none/\H lC=some (.lst [.ref (o 0),.ref (o 1)])
 M:c lM=none/\H lM=some (.lst [.ref (m 0),.ref (m 1)])
 R:c lR=none/\H lR=some (.lst [.ref (r 0),.ref (r 1)])
 h:c lH=some (5,.ob)/\H lH=some (.lst hs)
 held:∀v∈hs,HeldAt K c H v
 rr:∀k,k < 2->c (r k)=some (5,.b7 k)/\H (r k)=some (.lst ((rw k).map V.str))
 ch:∀k,k < 2->cV A (1+2 * k) c H (o k) (sc k)
 md:∀k,k < 2->fv (2+2 * k) c H (m k) (sm k)
section
variable{K:bo}{A:Adr}{c c':Col}{H H':Hp}{lS lC lM lH lR:Addr}{n:Nat->Int}{o m r:Nat->Addr}{sc sm:Nat->Ch}{rw:Nat->List Str}{hs:List V}{W:Option (Nat×Rl)->Prop}
theorem qg (s:Step W c c' H H'){a:Addr}{x:Nat×Rl}{v:HO}(n:¬W (some x))(h:c a=some x/\H a=some v):c' a=some x/\H' a=some v:=by
 have hn:¬W (c a):=by rw[h.1];exact n
 exact⟨by rw[s.col a _ h.2 hn];exact h.1,s.keep _ _ h.2 hn⟩
theorem W21.free (s:Step W c c' H H')(f:∀i r,i<=5->¬W (some (i,r)))(w:W21 K A c H lS lC lM lH lR n o m r sc sm rw hs):W21 K A c' H' lS lC lM lH lR n o m r sc sm rw hs :=
 ⟨bp s w.S.1 w.S.2,bp s w.C.1 w.C.2,bp s w.M.1 w.M.2,bp s w.R.1 w.R.2,qg s (f _ _ (by decide)) w.h,λv hv=>(w.held v hv).step s,λk hk=>qg s (f _ _ (by decide)) (w.rr k hk),
  λk hk=>(w.ch k hk).free (λr=>f _ r (by omega)) s,λk hk=>(w.md k hk).free (λr=>f _ r (by omega)) s⟩
theorem W21.same (s:bc H H')(w:W21 K A c H lS lC lM lH lR n o m r sc sm rw hs):W21 K A (bz c H) H' lS lC lM lH lR n o m r sc sm rw hs:=w.free (W:=λ_=>False) (Step.cl id s) λ_ _ _=>id
theorem W21.chS {k:Nat}{st:Ch}(hk:k < 2)(s:Step (cz (1+2 * k)) c c' H H')(hc:cV A (1+2 * k) c' H' (o k) st)(w:W21 K A c H lS lC lM lH lR n o m r sc sm rw hs):W21 K A c' H' lS lC lM lH lR n o m r (put2 sc k st) sm rw hs :=
 ⟨bp s w.S.1 w.S.2,bp s w.C.1 w.C.2,bp s w.M.1 w.M.2,bp s w.R.1 w.R.2,qg s (cm (by omega) _) w.h,λv hv=>(w.held v hv).step s,λj hj=>qg s (cm (by omega) _) (w.rr j hj),λj hj=>by
  unfold put2
  by_cases z:j=k
  ·rw[if_pos z,z];exact hc
  ·rw[if_neg z];exact(w.ch j hj).free (λr=>cm (by omega) r) s,λj hj=>(w.md j hj).free (λr=>cm (by omega) r) s⟩
theorem W21.mdS {k:Nat}{st:Ch}(hk:k < 2)(s:Step (cz (2+2 * k)) c c' H H')(hc:fv (2+2 * k) c' H' (m k) st)(w:W21 K A c H lS lC lM lH lR n o m r sc sm rw hs):W21 K A c' H' lS lC lM lH lR n o m r sc (put2 sm k st) rw hs :=
 ⟨bp s w.S.1 w.S.2,bp s w.C.1 w.C.2,bp s w.M.1 w.M.2,bp s w.R.1 w.R.2,qg s (cm (by omega) _) w.h,λv hv=>(w.held v hv).step s,λj hj=>qg s (cm (by omega) _) (w.rr j hj),λj hj=>(w.ch j hj).free (λr=>cm (by omega) r) s,λj hj=>by
  unfold put2
  by_cases z:j=k
  ·rw[if_pos z,z];exact hc
  ·rw[if_neg z];exact(w.md j hj).free (λr=>cm (by omega) r) s⟩
theorem W21.hold {v:V}(hv:HeldAt K c H v)(w:W21 K A c H lS lC lM lH lR n o m r sc sm rw hs):W21 K A c (upd H lH (.lst (hs++[v]))) lS lC lM lH lR n o m r sc sm rw (hs++[v]):=by
 have s:Step (λx=>x=some (5,.ob)) c c H (upd H lH (.lst (hs++[v]))):=Step.upd (λz=>nomatch z) w.h.1
 refine⟨bp s w.S.1 w.S.2,bp s w.C.1 w.C.2,bp s w.M.1 w.M.2,bp s w.R.1 w.R.2,⟨w.h.1,ae⟩,λu hu=>?_,λk hk=>qg s (λz=>by cases z) (w.rr k hk),λk hk=>(w.ch k hk).free (λr z=>by have:=congrArg (λx=>match x with | some (a,_)=>a | none=>0) z;simp at this;omega) s,λk hk=>(w.md k hk).free (λr z=>by have:=congrArg (λx=>match x with | some (a,_)=>a | none=>0) z;simp at this;omega) s⟩
 rcases List.mem_append.mp hu with hu | hu
 ·exact(w.held u hu).step s
 ·rw[R3]at hu;rw[hu];exact hv.step s
theorem W21.row {k:Nat}{z:Str}(hk:k < 2)(w:W21 K A c H lS lC lM lH lR n o m r sc sm rw hs):W21 K A c (upd H (r k) (.lst ((rw k).map V.str++[.str z]))) lS lC lM lH lR n o m r sc sm (put2 rw k (rw k++[z])) hs:=by
 have s:Step (λx=>x=some (5,.b7 k)) c c H (upd H (r k) (.lst ((rw k).map V.str++[.str z]))):=Step.upd (λz=>nomatch z) (w.rr k hk).1
 have no:∀i r,i<=4->¬(some (i,r):Option (Nat×Rl))=some (5,.b7 k):=λi r h z=>by
  have:=congrArg (λx=>match x with | some (a,_)=>a | none=>0) z
  simp at this;omega
 refine⟨bp s w.S.1 w.S.2,bp s w.C.1 w.C.2,bp s w.M.1 w.M.2,bp s w.R.1 w.R.2,qg s (λz=>by cases z) w.h,λv hv=>(w.held v hv).step s,λj hj=>?_,λj hj=>(w.ch j hj).free (λr=>no _ r (by omega)) s,λj hj=>(w.md j hj).free (λr=>no _ r (by omega)) s⟩
 unfold put2
 by_cases e:j=k
 ·subst e;rw[if_pos rfl,kg];exact⟨(w.rr j hj).1,ae⟩
 ·rw[if_neg e];exact qg s (λz=>e (by cases z;rfl)) (w.rr j hj)
end
theorem uj {m:Nat->Addr}{k:Nat}(hk:k < 2):atI [V.ref (m 0),V.ref (m 1)] (k:Int)=some (.ref (m k)):=by
 rcases Nat.lt_or_ge k 1 with h | h
 ·rw[show k=0 by omega];rfl
 ·rw[show k=1 by omega];rfl
theorem Qg {m:Nat->Int}{k:Nat}(hk:k < 2):atI [V.int (m 0),V.int (m 1)] (k:Int)=some (.int (m k)):=by
 rcases Nat.lt_or_ge k 1 with h | h
 ·rw[show k=0 by omega];rfl
 ·rw[show k=1 by omega];rfl
theorem Step.Ol {c:Col}{H H':Hp}{L:Addr}{x:Option (Nat×Rl)}(s:bc H H')(h:H L=none):Step (λ_=>False) c (aw (bz c H) L x) H H' :=
 ⟨id,λa v q _=>s a v q,λa v q=>⟨v,s a v q⟩,λa v q _=>(au (az q h)).trans (Jq q)⟩
def dnB:Rs->Bool
 | .exc _=>false
 |_=>true
theorem Mm:∀r:Rs,atI (dnT r) 0=some (.bl (dnB r))
 | .num _=>rfl
 | .txt _=>rfl
 | .exc _=>rfl
theorem Qh:∀r:Rs,∃z,atI (rsT r) 0=some (.str z)/\decide (V.str z=V.str (ar "told"))=dnB r
 | .num _=>⟨_,rfl,decide_eq_true rfl⟩
 | .txt _=>⟨_,rfl,decide_eq_true rfl⟩
 | .exc x=>⟨(xcC x).1,rfl,by cases x <;> (show decide (V.str (ar _)=_)=false) <;> trivial⟩
theorem EZ (st:Ch)(m:Mn):(st.carry m).rows=st.rows:=by
 unfold Ch.carry;split
 ·split
  ·split <;> rfl
  ·rfl
 ·split
  ·split <;> rfl
  ·rfl
 ·split <;> rfl
 ·rfl
 ·split <;> rfl
 ·rfl
 ·rfl
theorem Ab {st:Ch}{d:R.cK}(hd:oE d){x:Xc}(h:(bO st d).1=.exc x):(bO st d).2=st:=by
 cases hd with
 |Bo =>
  rw[gK]at h ⊢;unfold jE at h ⊢;split
  ·rfl
  ·rename_i n hn;rw[hn]at h;dsimp only at h;split
   ·rfl
   ·rename_i z;rw[if_neg z]at h;cases h
 |drop =>
  rw[gL]at h ⊢;unfold jT at h ⊢;split
  ·rfl
  ·rename_i n hn;rw[hn]at h;cases h
 |take =>
  rw[gM]at h ⊢;unfold stepT at h ⊢;split
  ·rename_i hp;rw[if_pos hp]at h;split
   ·rfl
   ·rename_i y hy;rw[hy]at h;dsimp only at h;split
    ·rfl
    ·rename_i z;rw[if_neg z]at h;cases h
  ·rfl
 |move hm =>
  rw[gN hm]at h ⊢;unfold jU at h ⊢;split
  ·rfl
  ·rename_i hc;rw[hc]at h;cases h
theorem Dm {N:Nat}{st:Ch}(I:Inv N st){d:R.cK}(hd:oE d)(h:dnB (bO st d).1=true):R.DOk d/\(bO st d).2.rows=st.rows++[R.lQ d]:=by
 have e10:(10:Int) ^ 10=10000000000:=by decide
 cases hd with
 | @Bo a b ha hb =>
  rw[gK]at h ⊢;refine⟨⟨by show (ar "vote",2)∈R.cM;trivial,λi hi=>?_⟩,?_⟩
  ·rcases List.mem_cons.mp hi with e | hi
   ·rw[e];exact ha
   ·rw[R3]at hi;rw[hi];exact hb
  ·unfold jE at h ⊢;cases hg:st.av.getLast? with
   |none=>rw[hg]at h;cases h
   |some n =>
    rw[hg]at h;dsimp only at h ⊢
    by_cases hs:a+b > st.bN
    ·rw[if_pos hs]at h;cases h
    ·rw[if_neg hs];have e:∀(b:Bool) (s1 s2:Ch),s1.rows=st.rows->s2.rows=st.rows->(if b=true then s1 else s2:Ch).rows=st.rows:=by
      intro b s1 s2 h1 h2;cases b
      ·exact h2
      ·exact h1
     have k:=e (g9 (My.nd (st.mo n).k) a b) ((st.popped st.av.dropLast n (mK (g9 (My.nd (st.mo n).k) a b))).carry (st.mo n)) (st.popped st.av.dropLast n (mK (g9 (My.nd (st.mo n).k) a b))) (EZ _ _) rfl;show (if _ then _ else _:Ch).rows++_=_
     rw[k]
 |drop =>
  rw[gL]at h ⊢;refine⟨⟨by show (ar "drop",0)∈R.cM;trivial,λi hi=>nomatch hi⟩,?_⟩
  unfold jT at h ⊢;cases hg:st.av.getLast? with
  |none=>rw[hg]at h;cases h
  |some n=>rfl
 | @take z z0 z1 =>
  rw[gM]at h ⊢;unfold stepT at h ⊢
  by_cases hp:st.av=[]
  ·rw[if_pos hp]at h ⊢;cases hx:at1 z.toNat st.aG with
   |none=>rw[hx]at h;cases h
   |some x =>
    have zp:0<=z:=by
     rcases Int.lt_or_le z 0 with q | q
     ·have e:z.toNat=0:=by omega
      rw[e,I.no0]at hx;cases hx
     ·exact q
    rw[hx]at h;dsimp only at h ⊢
    by_cases hs:st.aQ < x.2.1
    ·rw[if_pos hs]at h;cases h
    ·rw[if_neg hs];refine⟨⟨by show (ar "take",1)∈R.cM;trivial,λi hi=>by rw[R3]at hi;rw[hi];exact⟨zp,z1⟩⟩,?_⟩
     show st.rows++[R.lQ (.nums (ar "take") [((z.toNat:Nat):Int)])]=_;rw[Int.toNat_of_nonneg zp]
  ·rw[if_neg hp]at h;cases h
 |move hm =>
  rw[gN hm]at h ⊢;unfold jU at h ⊢;cases hc:gJ st (cT d) with
  |some x=>rw[hc]at h;cases h
  |none=>exact⟨Jz I hm hc,rfl⟩
theorem StF.same {H0 H H':Hp}{st:Ch}{ns:List Int}{u:Addr}(s:bc H H'):StF H0 H st ns u->StF H0 H' st ns u
 |⟨l1,R,l2,ys,ds,S⟩=>⟨l1,R,l2,ys,ds,s _ _ S.hu,S.n1,s _ _ S.h1,S.nR,s _ _ S.hR,S.asd.imp λ_ _ ⟨u,l,e,a,b,h1,h2⟩=>⟨u,l,e,a,b,s _ _ h1,s _ _ h2⟩,S.n2,s _ _ S.h2,S.ne1,S.ne2,S.dl⟩
theorem LI (m:Nat):R.Asc (R.num ((m:Nat):Int)):=λc hc=>by
 have sg:=PySem.W.KIN.signs_num m;have hc':c∈(Nat.toDigits 10 m).map Char.toNat:=by rw[<-sg];exact hc
 obtain⟨ch,hch,e⟩:=List.mem_map.mp hc';have r:=PyProof.Rows.digit_range (Nat.isDigit_of_mem_toDigits (by decide) (by decide) hch)
 rw[<-e];have:=r.2;omega
theorem Dn {i:Int}(h:0<=i):R.Asc (R.num i):=by
 obtain⟨m,rfl⟩:=Int.eq_ofNat_of_zero_le h;exact LI m
theorem LJ {d:R.cK}(o:R.DOk d):Sg (R.lQ d)=true:=by
 have lit:∀x∈([R.bl1,ar "matter",R.sl1,R.kEd true,R.kEd false,R.kn 0,R.kn 1,R.kn 2,ar "point"]:List Str),∀c∈x.cps.toList,c < 128:=by trivial
 have RH:∀x∈R.cM,∀c∈x.1.cps.toList,c < 128:=by trivial
 refine R.Asc.ok (R.js (lit _ (by simp)) _ λw hw=>?_)
 rcases List.mem_cons.mp hw with rfl | hw
 ·cases d with
  |mat cs=>exact lit _ (by simp[R.eF])
  |ed m k j ws=>cases m <;> exact lit _ (by simp[R.eF])
  |pt ws=>exact lit _ (by simp[R.eF])
  |nums kd ns=>exact RH _ o.1
 ·cases d with
  |nums kd ns =>
   obtain⟨i,hi,rfl⟩:=List.mem_map.mp (show w∈ns.map R.num from hw)
   exact Dn (o.2 i hi).1
  |mat cs =>
   obtain⟨ws,h1,h2⟩:=List.mem_flatMap.mp (show w∈cs.flatMap λws=>R.sl1::ws from hw)
   rcases List.mem_cons.mp h2 with rfl | h2
   ·exact lit _ (by simp)
   ·exact((o.2 ws h1).wd w h2).asc
  |pt ws=>exact(o.wd w hw).asc
  |ed m k j ws =>
   rcases List.mem_cons.mp (show w∈R.kn k::R.num j::(if k=1 then [] else ws) from hw) with rfl | h2
   ·rcases o.1 with rfl | rfl | rfl <;> exact lit _ (by simp)
   ·rcases List.mem_cons.mp h2 with rfl | h2
    ·exact Dn o.2.1.1
    ·split at h2
     ·cases h2
     ·exact(o.2.2.1.wd w h2).asc
def E1 (st:Ch):Prop:=∀r∈st.rows,Sg r=true
theorem E1.step {N:Nat}{st:Ch}(I:Inv N st){d:R.cK}(hd:oE d)(h:E1 st):E1 (bO st d).2:=by
 cases hb:dnB (bO st d).1 with
 |false =>
  cases hr:(bO st d).1 with
  |num n=>rw[hr]at hb;cases hb
  |txt n=>rw[hr]at hb;cases hb
  |exc x=>rw[Ab hd hr];exact h
 |true =>
  obtain⟨o,e⟩:=Dm I hd hb;intro r hr;rw[e]at hr;rcases List.mem_append.mp hr with hr | hr
  ·exact h r hr
  ·rw[R3]at hr;rw[hr];exact LJ o
section
variable{P:kr}{w:World}{K:bo}{mg:Str->Option Value}{base:Heap}{A:Adr}
set_option maxHeartbeats 20000000 in
theorem Om {f:Addr}{fd:fi}(F:Fun K "law" "law" zv f fd)(T:Txt w.params K mg A):aX P w K mg base CX0 20 f fd ["_law_script"] (FW K):=by
 have J5:aX P w K mg base CX0 3 A.AV A.o9 ["_law_m","_law_cell","_law_seats_here"] (λvs H Q E=>∃i,C8 i vs H Q E):=oK λi=>GZ T
 have LK:aX P w K mg base CX0 5 A.Fl A.rO ["_law_m","_law_deed_here","_law_seats_here"] (λvs H Q E=>∃i,Mj i vs H Q E):=oK λi=>JT T
 have J6:aX P w K mg base CX0 8 A.wR A.lu ["_law_chamber","_law_deed_here"] (λvs H Q E=>∃i,EN A i vs H Q E):=oK λi=>G1 T
 have sy:aX P w K mg base CX0 1 A.Ce A.nK ["_law_m","_law_number"] (λvs H Q E=>∃i,Bq i vs H Q E):=oK λi=>ib T
 have G6:aX P w K mg base CX0 1 A.vv A.mq ["_law_m"] (λvs H Q E=>∃i,Dj K i vs H Q E):=oK λi=>EY T
 have LL:aX P w K mg base CX0 2 A.Fm A.rP ["_law_deed_here"] (R.tY K):=R.J4 T;have vf:aX P w K mg base CX0 2 A.eY A.ez ["self"] (λvs H Q E=>∃i,Dg A i vs H Q E):=oK λi=>G2 T
 have j2:aX P w K mg base CX0 1 A.dR A.dD ["self"] (λvs H Q E=>∃i,z9 A i vs H Q E):=oK λi=>EX T
 have uk:aX P w K mg base (CXX P w) 3 A.eA A.dQ ["self","number"] (λvs H Q E=>∃i,z8 A i vs H Q E):=oK λi=>EU T
 refine F.ok fg (λvs H Q E h=>?_) (λcdv A' outer s H vs Q E hr h=>?_)
 ·obtain⟨a,ns,rfl,_⟩:=h;rfl
 ·obtain⟨a,ns,rfl,hS,hlen,q⟩:=h;have hu1:=hr.u1;have iO:=hr.units;refine⟨_,(ah (vM (i:=1) (scope:=zw) Ig rfl rfl (ma rfl) (oN rfl T.vx (aa ag af)) (λ_ _ _ _ _=>(aU (EO T) (hr.mono (by decide)) rfl T.GF T.zG.kp T.GG .nil aV (aa (aU (Bp T) (hr.mono (by decide)) rfl T.Cj T.uJ.kp T.Ck .nil aV (aa (pv 1) (aa (pv 0) af))) af))))
 (ah (aZ (i:=2) fg.nd rfl (ma rfl) (bq (aa (dP T.zJ (JC T) (hr.mono (by decide)) rfl T.zI T.n6 .nil aV (aa (aH a7 (pv 1) ag (λ_ _=>rfl)) af)) (aa (dP T.zJ (JC T) (hr.mono (by decide)) rfl T.zI T.n6 .nil aV (aa (aH a7 (pv 1) ag (λ_ _=>rfl)) af)) af))))
 (ah (aZ (i:=3) fg.nd rfl (ma rfl) (bq (aa (BA (C6 T) (hr.mono (by decide)) rfl T.Fn T.AZ.kp T.Fo .nil aV) (aa (BA (C6 T) (hr.mono (by decide)) rfl T.Fn T.AZ.kp T.Fo .nil aV) af))))
 (ah (aZ (i:=4) fg.nd rfl (ma rfl) (bq af))
 (ah (aZ (i:=5) fg.nd rfl (ma rfl) (bq (aa (bq af) (aa (bq af) af))))
 (ah (ng Tj rfl (eW (i4 q9 (pv 0) (jJ ag) (jJ ag))) (ck (i:=6) fg.nd rfl (ma rfl))
 (ah (aZ (i:=7) fg.nd rfl (ma rfl) (aW bH (pv 6) ag))
 (ah (aZ (i:=8) fg.nd rfl (ma rfl) (aU J5 (hr.mono (by decide)) rfl T.IT T.Cz.kp T.IU .nil aV (aa (aH a7 (pv 3) (pv 7) (λ_ _=>rfl)) (aa (aW bU (pv 6) ag) (aa (aH a7 (pv 1) (pv 7) (λ_ _=>rfl)) af)))))
 (ah (aZ (i:=9) fg.nd rfl (ma rfl) (aU (Di T) (hr.mono (by decide)) rfl T.Ei T.xn.kp T.Ej .nil aV (aa (pv 8) af)))
 (ah (aZ (i:=10) fg.nd rfl (ma rfl) (aU J6 (hr.mono (by decide)) rfl T.IV T.CA.kp T.IW .nil aV (aa (aH a7 (pv 2) (pv 7) (λ_ _=>rfl)) (aa (pv 9) af))))
 (ah (a4 (aC bf (aH aK (pv 8) ag (λ_ _=>rfl)) aj (aN _))
 (ai (bh (DH fu PySem.F.slot_list_clear PySem.F.type_list_clear Hu (aH aK (pv 9) ag (λ_ _=>rfl)))))
 aJ)
 (ah (a4 (aC um (aH aK (pv 10) ag (λ_ _=>rfl)) (gO bf (aH aK (aU LK (hr.mono (by decide)) rfl T.KP T.Fp.kp T.KQ .nil aV (aa (aH a7 (pv 3) (pv 7) (λ_ _=>rfl)) (aa (pv 8) (aa (aH a7 (pv 1) (pv 7) (λ_ _=>rfl)) af)))) ag (λ_ _=>rfl)) aj (aN _)) (aN _))
 (ai (aI gb))
 aJ)
 (ah (a4 (j3 (aH aK (pv 10) ag (λ_ _=>rfl)))
 (ai (bh (bW fu ko kq bu (aH a7 (pv 5) (pv 7) (λ_ _=>rfl)) (aa (aU LL (hr.mono (by decide)) rfl T.KR T.Fq.kp T.KS .nil aV (aa (pv 8) af)) af))))
 aJ)
 (ah (bh (bW fu ko kq bu (cA (aH a7 (pv 2) (pv 7) (λ_ _=>rfl)) T.aq T.jQ j2 (hr.mono (by decide)) T.jR .nil aV) (aa aj af)))
 (ah (ng Tj rfl (eW (bq (aa (aW bH (aW bU (pv 6) ag) ag) (aa (aW i3 ag (aW bH (aW bU (pv 6) ag) ag)) af)))) (ck (i:=11) fg.nd rfl (ma rfl))
 (ah (aZ (i:=12) fg.nd rfl (ma rfl) (cA (aH a7 (pv 2) (pv 11) (λ_ _=>rfl)) T.aq T.u6 vf (hr.mono (by decide)) T.vc .nil aV))
 (ah (a4 (aC (sO iO) (pv 12) (aU G6 (hr.mono (by decide)) rfl T.GC T.zF.kp T.GD .nil aV (aa (aH a7 (pv 3) (pv 11) (λ_ _=>rfl)) af)) (aN _))
 (ai (aI gb))
 aJ)
 (ai (a4 (aC bf (aW bH (aW bU (pv 6) ag) ag) ag (aN _))
 (ai (bh (aU (EW T) (hr.mono (by decide)) rfl T.GH T.zH.kp T.GI .nil aV (aa (pv 12) af))))
 (ai (bh (bW fu ko kq bu (pv 4) (aa (a8 (aa (pv 12) (aa (aU (G5 T) (hr.mono (by decide)) rfl T.IZ T.CB.kp T.I9 .nil aV (aa (pv 12) af)) af))) af)))))))))
 (ah (aZ (i:=13) fg.nd rfl (ma rfl) (cA (aH a7 (pv 2) (pv 7) (λ_ _=>rfl)) T.aq T.jq (uR T) (hr.mono (by decide)) T.jr .nil aV))
 (ah (bh (bW fu ko kq bu (pv 4) (aa (a8 (aa (pv 13) (aa (bD bA (by rfl) T.eQ cW (aa (pv 13) af)) af))) af)))
 (ah (bh (bW fu ko kq bu (cA (aH a7 (pv 2) (pv 7) (λ_ _=>rfl)) T.aq T.jq (uR T) (hr.mono (by decide)) T.jr .nil aV) (aa aj af)))
 (ai (a4 (aC (LH iO) (aY hu1 (aH a7 (pv 3) (pv 7) (λ_ _=>rfl)) aj (λ_ _=>rfl)) (bq af) (aN _))
 (ah (aZ (i:=14) fg.nd rfl (ma rfl) (aW cF ag (aW bH (aW bU (pv 6) ag) (bQ b9 (by rfl) T.mY ic (aa (aY hu1 (aH a7 (pv 3) (pv 7) (λ_ _=>rfl)) aj (λ_ _=>rfl)) af)))))
 (ah (aZ (i:=15) fg.nd rfl (ma rfl) (fH (aH a7 (pv 2) (pv 7) (λ_ _=>rfl)) T.aq T.tQ uk (hr.mono (by decide)) T.tT .nil DN (aa (pv 14) af)))
 (ah (a4 (aC (sO iO) (pv 15) (aU sy (hr.mono (by decide)) rfl T.gQ T.fS.kp T.gR .nil aV (aa (aH a7 (pv 3) (pv 7) (λ_ _=>rfl)) (aa (pv 14) af))) (aN _))
 (ai (aI gb))
 aJ)
 (ai (a4 (aC bf (aH aK (pv 15) ag (λ_ _=>rfl)) aj (aN _))
 (ai (bh (bW fu ko kq bu (aH aK (pv 15) ag (λ_ _=>rfl)) (aa aj af))))
 aJ)))))
 aJ)))))))))))))))
 (ah (a4 (aC (sO iO) (oW (scope:=zx) Ih rfl (eW (pv 2)) (λ_ _ _ _ _=>(cA (pv 0) T.aq T.jQ j2 (hr.mono (by decide)) T.jR .nil aV))) (pv 5) (aN _))
 (ai (aI gb))
 aJ)
 (ai (aI (bQ (HF rfl) (by rfl) T.Pe MT (aa (PEX.pe (HU (scope:=zy) ⟨rfl,rfl⟩ wM rfl (eW (pv 4)) (λ_ _ _ _ _=>(Ff (K:=K) (n:=2) rfl rfl (cY (ck (i:=0) wM.nd2 rfl (ma rfl)) (cY (ck (i:=1) wM.nd2 rfl (ma rfl)) q0)))) (λ_ _ _ _ _=>(px (gO (KA (K:=K) rfl iO) (pv 0) (pv 1) (aN _)))))) af))))))))))),?_⟩
  try dsimp only[bt]
  have sz:fe=16777216:=by decide
  refine⟨2,rfl,(by decide),(by decide),λlS hlS=>?_⟩
  refine vN (lo:=0) (n:=2) (λi ys H2=>∃ks:List Int,ys=ks.map V.int/\ks.length=i/\(∀k∈ks,1<=k/\k<=1000000000)/\bc H H2/\H2 lS=some (.lst ys)) ⟨[],rfl,rfl,(λ_ h=>nomatch h),ax hlS,ae⟩ (by omega) ?_ ?_ ?_
  ·rintro i ys H2 hi ⟨ks,rfl,rfl,_,_,h2⟩;exact⟨h2,ba _⟩
  ·rintro i ys H2 hi ⟨ks,rfl,hl,hk,s2,h2⟩;refine⟨_,rfl,_,rfl,a,ns,_,rfl,s2.seq hS,(by omega),λz=>⟨z,rfl,λn n1 n2=>?_⟩⟩
   refine bS.mk hi h2 ⟨ks++[n],by rw[kg];rfl,by rw[ka,hl];rfl,λk hkm=>?_,s2.own hlS,ae⟩
   rcases List.mem_append.mp hkm with h | h
   ·exact hk k h
   ·rw[R3]at h;rw[h];exact⟨n1,n2⟩
  ·rintro ys H1 ⟨ks,rfl,hl,hk,s1,hS1⟩;refine aL λGq gq=>?_
   obtain⟨n0,n1,rfl⟩:∃n0 n1,ks=[n0,n1]:=by
    match ks,hl with
    |[x,y],_=>exact⟨x,y,rfl⟩
   have b0:=hk n0 (by simp)
   have b1:=hk n1 (by simp)
   refine gq ?_
   try dsimp only[cf]
   have S1:(λ_=>none:Col) lS=none/\H1 lS=some (.lst [V.int n0,.int n1]):=⟨rfl,hS1⟩
   refine ixv rfl (SqL.of hS1) rfl (λo0 d0 ho0 hd0 ne0=>⟨o0,d0,n0,rfl,ae,λH2 h2=>⟨rfl,?_⟩⟩)
   refine aL λGq gq=>?_
   obtain⟨c1,k1,ch1⟩:=h2 1 (λ_=>none)
   have e1:Step (λ_=>False) (λ_=>none) c1 H1 H2:=Aa id ho0 hd0 k1
   have S2:=bp e1 S1.1 S1.2;have sm2:bc H H2:=s1.trans λa v h=>e1.keep a v h id
   clear k1 ho0 hd0 ne0 h2 e1 S1 s1 hS1;refine gq ?_;refine ixv rfl (SqL.of S2.2) rfl (λo1 d1 ho1 hd1 ne1=>⟨o1,d1,n1,rfl,ae,λH3 h3=>⟨rfl,?_⟩⟩)
   refine aL λGq gq=>?_
   obtain⟨c2,k2,ch2⟩:=h3 3 c1;have e2:Step (λ_=>False) c1 c2 H2 H3:=Aa id ho1 hd1 k2
   have S3:=bp e2 S2.1 S2.2;have C1:=ch1.free (λ_=>id) e2
   have sm3:bc H H3:=sm2.trans λa v h=>e2.keep a v h id
   clear k2 ho1 hd1 ne1 h3 e2 S2 sm2 ch1;refine gq ?_;refine⟨(sl 2),λlC hlC=>?_⟩
   have e3:Step (λ_=>False) c2 (aw c2 lC none) H3 (upd H3 lC (.lst [.ref o0,.ref o1])):=Step.new id hlC
   have hC4:aw c2 lC none lC=none/\(upd H3 lC (.lst [.ref o0,.ref o1])) lC=some (.lst [.ref o0,.ref o1]):=⟨aS,ae⟩;have S4:=bp e3 S3.1 S3.2;have C1':=C1.free (λ_=>id) e3
   have C2':=ch2.free (λ_=>id) e3
   have sm4:bc H _:=sm3.trans (ax (o:=.lst [V.ref o0,.ref o1]) hlC);generalize aw c2 lC none=c4 at hC4 S4 C1' C2';generalize upd H3 lC (.lst [.ref o0,.ref o1])=H4 at hC4 S4 C1' C2' sm4 ⊢;clear e3 hlC S3 C1 ch2 sm3
   try dsimp only[cf]
   refine⟨rfl,λm0 H5 h5=>?_⟩
   refine aL λGq gq=>?_
   obtain⟨c5,e5,md5⟩:=h5 2 c4 n0;refine gq ?_;refine⟨rfl,λm1 H6 h6=>?_⟩
   refine aL λGq gq=>?_
   obtain⟨c6,e6,md6⟩:=h6 4 c5 n1;refine gq ?_;refine⟨(sl 2),λlM hlM=>?_⟩
   have e7:Step (λ_=>False) c6 (aw c6 lM none) H6 (upd H6 lM (.lst [.ref m0,.ref m1])):=Step.new id hlM
   have hM7:aw c6 lM none lM=none/\(upd H6 lM (.lst [.ref m0,.ref m1])) lM=some (.lst [.ref m0,.ref m1]):=⟨aS,ae⟩;have e47:=(e5.trans e6).trans e7;have S7:=bp e47 S4.1 S4.2;have C7:=bp e47 hC4.1 hC4.2;have LM:=C1'.free (λ_=>id) e47
   have LN:=C2'.free (λ_=>id) e47
   have LO:=md5.free (λ_=>id) (e6.trans e7)
   have LP:=md6.free (λ_=>id) e7
   have sm7:bc H (upd H6 lM (.lst [.ref m0,.ref m1])):=sm4.trans λa v h=>e47.keep a v h id
   generalize aw c6 lM none=c7 at hM7 S7 C7 LM LN LO LP;generalize upd H6 lM (.lst [.ref m0,.ref m1])=H7 at hM7 S7 C7 LM LN LO LP sm7 ⊢;clear e47 e7 e6 e5 md5 md6 h5 h6 hlM C1' C2' S4 hC4 sm4
   try dsimp only[cf]
   refine⟨(sl 0),λlH hlH=>?_⟩
   try dsimp only[cf]
   refine⟨(sl 0),λr0 hr0=>⟨(sl 0),λr1 hr1=>⟨(sl 2),λlR hlR=>?_⟩⟩⟩
   have nH0:lH≠r0:=az ae hr0;have nH1:lH≠r1:=az ((ao nH0).trans ae) hr1;have n01:r0≠r1:=az ae hr1;have nHR:lH≠lR:=az ((ao nH1).trans ((ao nH0).trans ae)) hlR;have n0R:r0≠lR:=az ((ao n01).trans ae) hlR;have n1R:r1≠lR:=az ae hlR;have e8:Step (λ_=>False) c7 (aw (aw (aw (aw c7 lH (some (5,.ob))) r0 (some (5,.b7 0))) r1 (some (5,.b7 1))) lR none) H7 (upd (upd (upd (upd H7 lH (.lst [])) r0 (.lst [])) r1 (.lst [])) lR (.lst [.ref r0,.ref r1])) :=
    (((Step.new id hlH).trans (Step.new id hr0)).trans (Step.new id hr1)).trans (Step.new id hlR)
   have Qi:(dX (ns.map V.int) (some 2) (some 42)).length<=40:=by
    unfold dX;rw[show (2:Int)=((2:Nat):Int) from rfl,show (42:Int)=((42:Nat):Int) from rfl,HT.oQ,HT.oQ,Sj,To]
    omega
   have two:∀ {p:Nat->Prop},p 0->p 1->∀k,k < 2->p k:=λp0 p1 k hk=>by
    rcases Nat.lt_or_ge k 1 with h | h
    ·rw[show k=0 by omega];exact p0
    ·rw[show k=1 by omega];exact p1
   have W0:W21 K A (aw (aw (aw (aw c7 lH (some (5,.ob))) r0 (some (5,.b7 0))) r1 (some (5,.b7 1))) lR none) (upd (upd (upd (upd H7 lH (.lst [])) r0 (.lst [])) r1 (.lst [])) lR (.lst [.ref r0,.ref r1])) lS lC lM lH lR (λk=>if k=0 then n0 else n1) (λk=>if k=0 then o0 else o1) (λk=>if k=0 then m0 else m1) (λk=>if k=0 then r0 else r1) (λk=>if k=0 then hZ n0 else hZ n1) (λk=>if k=0 then hZ n0 else hZ n1) (λ_=>[]) [] :=
    ⟨bp e8 S7.1 S7.2,bp e8 C7.1 C7.2,bp e8 hM7.1 hM7.2,⟨aS,ae⟩,⟨(au nHR).trans ((au nH1).trans ((au nH0).trans aS)),(ao nHR).trans ((ao nH1).trans ((ao nH0).trans ae))⟩,(λ_ h=>nomatch h),
     two ⟨(au n0R).trans ((au n01).trans aS),(ao n0R).trans ((ao n01).trans ae)⟩ ⟨(au n1R).trans aS,(ao n1R).trans ae⟩,
     two (LM.free (λ_=>id) e8) (LN.free (λ_=>id) e8),two (LO.free (λ_=>id) e8) (LP.free (λ_=>id) e8)⟩
   have sm8:bc H _:=sm7.trans λa v h=>e8.keep a v h id
   generalize aw (aw (aw (aw c7 lH (some (5,.ob))) r0 (some (5,.b7 0))) r1 (some (5,.b7 1))) lR none=c8 at W0;generalize upd (upd (upd (upd H7 lH (.lst [])) r0 (.lst [])) r1 (.lst [])) lR (.lst [.ref r0,.ref r1])=H8 at W0 sm8 ⊢;clear e8 S7 C7 hM7 LM LN LO LP sm7 hlH hr0 hr1 hlR nH0 nH1 n01 nHR n0R n1R;generalize hn:(λk=>if k=0 then n0 else n1:Nat->Int)=nn at W0
   generalize (λk=>if k=0 then o0 else o1:Nat->Addr)=oo at W0
   generalize (λk=>if k=0 then m0 else m1:Nat->Addr)=mm at W0
   generalize (λk=>if k=0 then r0 else r1:Nat->Addr)=rr at W0
   have bn:∀k,k < 2->1<=nn k/\nn k<=1000000000:=by rw[<-hn];exact two b0 b1
   have I0:∀k,k < 2->Inv (3 * 0) ((λk=>if k=0 then hZ n0 else hZ n1:Nat->Ch) k)/\((λk=>if k=0 then hZ n0 else hZ n1:Nat->Ch) k).bN=nn k/\E1 ((λk=>if k=0 then hZ n0 else hZ n1:Nat->Ch) k):=by rw[<-hn];exact two ⟨FV n0,rfl,λ_ h=>nomatch h⟩ ⟨FV n1,rfl,λ_ h=>nomatch h⟩
   have rw0:∀k,k < 2->((λk=>if k=0 then hZ n0 else hZ n1:Nat->Ch) k).rows=[]:=two rfl rfl
   generalize (λk=>if k=0 then hZ n0 else hZ n1:Nat->Ch)=s00 at W0 I0 rw0
   try dsimp only[cf]
   refine⟨_,rfl,_,rfl,_,rfl,a,_,rfl,sm8.seq hS,λl hl=>⟨l,rfl,⟨_,SqL.of ae⟩,?_⟩⟩
   have isI:∀x∈dX (ns.map V.int) (some 2) (some 42),∃z,x=V.int z:=λx hx=>by
    obtain⟨z,_,e⟩:=List.mem_map.mp (Lr hx);exact⟨z,e.symm⟩
   have e9:Step (λ_=>False) c8 (aw c8 l none) H8 (upd H8 l (.lst (dX (ns.map V.int) (some 2) (some 42)))):=Step.new id hl
   have W9:=W0.free e9 λ_ _ _=>id
   have hl9:aw c8 l none l=none/\(upd H8 l (.lst (dX (ns.map V.int) (some 2) (some 42)))) l=some (.lst (dX (ns.map V.int) (some 2) (some 42))):=⟨aS,ae⟩;generalize aw c8 l none=c9 at W9 hl9;generalize upd H8 l (.lst (dX (ns.map V.int) (some 2) (some 42)))=H9 at W9 hl9 ⊢;have W9z:W21 K A c9 H9 lS lC lM lH lR nn oo mm rr s00 s00 (λk=>(s00 k).rows) []:=⟨W9.S,W9.C,W9.M,W9.R,W9.h,W9.held,λk hk=>by rw[rw0 k hk];exact W9.rr k hk,W9.ch,W9.md⟩
   clear e9 W0 W9 sm8 hl b0 b1 hn;generalize dX (ns.map V.int) (some 2) (some 42)=cs at Qi isI hl9 ⊢;refine kL (K:=K) (a:=l) (xs:=cs) (λj σ Hj=>∃(v6 v7 v8 v9 v10 v11 v12 v13 v14 v15:Option V),σ=[some (.ref a),some (.ref lS),some (.ref lC),some (.ref lM),some (.ref lH),some (.ref lR),v6,v7,v8,v9,v10,v11,v12,v13,v14,v15]/\∃(c:Col) (ss:Nat->Ch) (hs:List V),W21 K A c Hj lS lC lM lH lR nn oo mm rr ss ss (λk=>(ss k).rows) hs/\(c l=none/\Hj l=some (.lst cs))/\(∀k,k < 2->Inv (3 * j) (ss k)/\(ss k).bN=nn k/\E1 (ss k))/\hs.length<=3 * j)
    ⟨_,_,_,_,_,_,_,_,_,_,rfl,c9,s00,[],W9z,hl9,I0,gn _⟩ (λj σ Hj _ ⟨_,_,_,_,_,_,_,_,_,_,_,_,_,_,_,h,_⟩=>SqL.of h.2) ?_ ?_
   ·rintro j y σ Hj hy ⟨v6,v7,v8,v9,v10,v11,v12,v13,v14,v15,rfl,c,ss,hs,w,hlc,hI,hhs⟩;refine aL λGq gq=>?_
    obtain⟨z,rfl⟩:=isI _ (RV hy);have jl:j < cs.length:=(List.getElem?_eq_some_iff.mp hy).1;have hN:3 * j<=800:=by omega
    refine gq ?_;refine⟨_,rfl,_,_,rfl,rfl,(by show (0:Int) < 2;decide),?_⟩
    refine aL λGq gq=>?_
    obtain⟨kk,hk,ek⟩:∃kk:Nat,kk < 2/\z % 2=(kk:Int):=⟨(z % 2).toNat,by omega,by omega⟩
    refine gq ?_;show cf 7 (V.int (z % 2)) _ _ _;rw[ek];dsimp only[cf];refine aL λGq gq=>?_
    obtain⟨I,es,ro⟩:=hI kk hk;refine gq ?_;refine⟨_,rfl,.int (kk:Int),rfl,lM,_,_,_,rfl,rfl,SqL.of w.M.2,uj hk,_,rfl,_,_,rfl,rfl,⟨by decide,by decide⟩,_,rfl,.int (kk:Int),rfl,lS,_,_,_,rfl,rfl,SqL.of w.S.2,Qg hk,2+2 * kk,mm kk,_,nn kk,c,ss kk,3 * j,rfl,w.md kk hk,I,by omega,(bn kk hk).1,(bn kk hk).2,λd t H5 hd hz s5=>?_⟩
    have w5:=w.same s5;have hl5:=bp (Step.cl (W:=λ_=>False) id s5) hlc.1 hlc.2
    generalize bz c Hj=c5 at w5 hl5 hz;clear s5 w hlc;dsimp only[cf];refine dG (λσ' H'=>∃t' c',σ'=[some (.ref a),some (.ref lS),some (.ref lC),some (.ref lM),some (.ref lH),some (.ref lR),some (.int z),some (.int (kk:Int)),some (.ref t),some (.ref t'),v10,v11,v12,v13,v14,v15]/\W21 K A c' H' lS lC lM lH lR nn oo mm rr ss ss (λk=>(ss k).rows) hs/\(c' l=none/\H' l=some (.lst cs))/\jG c' H' d t/\lX (1+2 * kk) c' H' d t'/\∀cl,d=.mat cl->∃L',(c' t'=none/\H' t'=some (.tup [.str (ar "matter"),.ref L']))/\c' L'=some (6,.ob)/\H' L'=some (.lst ((cl.map (ky R.bl1)).map V.str))) ?r1 (λN' nN=>?f1)
    case f1 =>
     refine⟨_,rfl,t,c5,d,rfl,hd,hz,λcl e t' L' H6 s6 nt nL ne ht' hL'=>nN _ _ ?_,λhne=>nN _ _ ⟨t,c5,rfl,w5,hl5,hz,hz.c,λcl e=>absurd e (hne cl)⟩⟩
     have e6:Step (λ_=>False) c5 (aw (bz c5 H5) L' (some (6,.ob))) H5 H6:=Step.Ol s6 nL
     have ct:aw (bz c5 H5) L' (some (6,.ob)) t'=none:=(au ne).trans (bx nt);refine⟨t',_,rfl,w5.free e6 (λ_ _ _=>id),bp e6 hl5.1 hl5.2,hz.step e6,?_,λcl' e'=>?_⟩
     ·rw[e];exact⟨L',⟨by rw[ct];exact aT,ht'⟩,by rw[aS];exact cm (by omega) _,hL'⟩
     ·rw[e]at e';cases e';exact⟨L',⟨ct,ht'⟩,aS,hL'⟩
    case r1 =>
     rintro σ' H6 ⟨t',c6,rfl,w6,hl6,hz6,hc6,hL6⟩;clear w5 hl5 hz;refine⟨_,rfl,.int (kk:Int),rfl,lC,_,_,_,rfl,rfl,SqL.of w6.C.2,uj hk,_,rfl,1+2 * kk,oo kk,t',c6,ss kk,3 * j,d,rfl,w6.ch kk hk,I,hN,hd,hc6,λc7 H7 u7 s7 ch7 cu7 hu7=>?_⟩
     have w7:=w6.chS hk s7 ch7;have hl7:=bp s7 hl6.1 hl6.2;have hz7:=hz6.step s7;have hL7:∀cl,d=.mat cl->∃L',(c7 t'=none/\H7 t'=some (.tup [.str (ar "matter"),.ref L']))/\c7 L'=some (6,.ob)/\H7 L'=some (.lst ((cl.map (ky R.bl1)).map V.str)):=λcl e=>by
      obtain⟨L',h1,h2⟩:=hL6 cl e;exact⟨L',bp s7 h1.1 h1.2,qg s7 (cm (by omega) _) h2⟩
     clear s7 w6 hl6 hz6 hc6 hL6;dsimp only[cf];refine dG (λσ' H'=>σ'=[some (.ref a),some (.ref lS),some (.ref lC),some (.ref lM),some (.ref lH),some (.ref lR),some (.int z),some (.int (kk:Int)),some (.ref t),some (.ref t'),some (.ref u7),v11,v12,v13,v14,v15]/\∃c',W21 K A c' H' lS lC lM lH lR nn oo mm rr (put2 ss kk (bO (ss kk) d).2) ss (λk=>(ss k).rows) hs/\(c' l=none/\H' l=some (.lst cs))/\jG c' H' d t/\c' u7=none/\H' u7=some (.tup (dnT (bO (ss kk) d).1))) ?r2 (λN' nN=>?f2)
     case f2 =>
      obtain⟨xs,hkd⟩:=hz7.kind;refine ixv rfl (SqT.of hkd) (show atI (V.str (R.eF d)::xs) 0=some (.str (R.eF d)) from cq (j:=0) rfl) ⟨rfl,_,rfl,?_⟩
      cases hv:decide (V.str (R.eF d)=V.str (ar "matter")) with
      |false=>exact bK (nN _ _ ⟨rfl,c7,w7,hl7,hz7,cu7,hu7⟩)
      |true =>
       refine aL λGq gq=>?_
       obtain⟨cl,e⟩:=J3 hd hv;obtain⟨L',h1,h2,h3⟩:=hL7 cl e;refine gq ?_;refine cC (ixv rfl (SqT.of h1.2) rfl ⟨.inl ⟨rfl,_,SqL.of h3⟩,L',_,rfl,rfl,h3,nN _ _ ⟨rfl,c7,?_⟩⟩);have e8:Step (λx=>x=some (6,.ob)) c7 c7 H7 (upd H7 L' (.lst [])):=Step.upd (λz=>nomatch z) h2
       refine⟨w7.free e8 (λi r hi z=>?_),bp e8 hl7.1 hl7.2,hz7.step e8,bp e8 cu7 hu7⟩
       have:=congrArg (λx=>match x with | some (a,_)=>a | none=>0) z
       simp at this;omega
     case r2 =>
      rintro σ' H8 ⟨rfl,c8,w8,hl8,hz8,cu8,hu8⟩;refine aL λGq gq=>?_
      clear w7 hl7 hz7 cu7 hu7 hL7;obtain⟨zt,hzt,hzd⟩:=Qh (bO (ss kk) d).1;refine gq ?_;refine ixv rfl (SqT.of hu8) (Mm _) ⟨_,rfl,.int (kk:Int),rfl,lM,_,_,_,rfl,rfl,SqL.of w8.M.2,uj hk,_,rfl,_,rfl,.int (kk:Int),rfl,lS,_,_,_,rfl,rfl,SqL.of w8.S.2,Qg hk,2+2 * kk,mm kk,t,c8,ss kk,3 * j,d,by rw[es];rfl,w8.md kk hk,I,hN,hd,hz8,λc9 H9 u9 s9 md9 cu9 hu9=>?_⟩
      have w9:=w8.mdS hk s9 md9;have hl9:=bp s9 hl8.1 hl8.2;have hz9:=hz8.step s9;have Qj:=bp s9 cu8 hu8;refine⟨u9,_,_,_,rfl,rfl,SqT.of hu9,hzt,rfl,?_⟩;refine⟨rfl,tsf (by rw[hzd];simp) ?_⟩
      clear w8 hl8 hz8 cu8 hu8 hzt hzd md9 cu9 hu9 s9;dsimp only[Bz];have I8:=I.bO hN hd;have es8:(bO (ss kk) d).2.bN=nn kk:=(Dl hd).trans es;refine dG (λσ' H'=>σ'=[some (.ref a),some (.ref lS),some (.ref lC),some (.ref lM),some (.ref lH),some (.ref lR),some (.int z),some (.int (kk:Int)),some (.ref t),some (.ref t'),some (.ref u7),v11,v12,v13,v14,v15]/\∃c',W21 K A c' H' lS lC lM lH lR nn oo mm rr (put2 ss kk (bO (ss kk) d).2) (put2 ss kk (bO (ss kk) d).2) (λk=>(put2 ss kk (bO (ss kk) d).2 k).rows) hs/\(c' l=none/\H' l=some (.lst cs))) ?r3 (λN' nN=>?f3)
      case f3 =>
       have fin:∀(c':Col) (H':Hp) (rw:Nat->List Str),(∀k,k < 2->rw k=(put2 ss kk (bO (ss kk) d).2 k).rows)->W21 K A c' H' lS lC lM lH lR nn oo mm rr (put2 ss kk (bO (ss kk) d).2) (put2 ss kk (bO (ss kk) d).2) rw hs->W21 K A c' H' lS lC lM lH lR nn oo mm rr (put2 ss kk (bO (ss kk) d).2) (put2 ss kk (bO (ss kk) d).2) (λk=>(put2 ss kk (bO (ss kk) d).2 k).rows) hs:=λc' H' rw e w' =>
        ⟨w'.S,w'.C,w'.M,w'.R,w'.h,w'.held,λk hk=>by rw[<-e k hk];exact w'.rr k hk,w'.ch,w'.md⟩
       refine ixv rfl (SqT.of Qj.2) (Mm _) ⟨_,rfl,?_⟩;cases hb:dnB (bO (ss kk) d).1 with
       |false =>
        have e8:(bO (ss kk) d).2=ss kk:=by
         cases hr':(bO (ss kk) d).1 with
         |num n=>rw[hr']at hb;cases hb
         |txt n=>rw[hr']at hb;cases hb
         |exc x=>exact Ab hd hr'
        refine bK (nN _ _ ⟨rfl,c9,fin _ _ _ (λk _=>?_) w9,hl9⟩)
        unfold put2;split
        ·rename_i z';rw[e8,z']
        ·rfl
       |true =>
        obtain⟨dok,RI⟩:=Dm I hd hb;refine cC ⟨_,rfl,.int (kk:Int),rfl,lR,_,_,_,rfl,rfl,SqL.of w9.R.2,uj hk,.inl ⟨rfl,_,SqL.of (w9.rr kk hk).2⟩,_,rfl,t,d,rfl,(hz9.c (i:=0)).at,dok,λH10 s10=>?_⟩
        have w10:=w9.same s10;have E2:=bp (Step.cl (W:=λ_=>False) id s10) hl9.1 hl9.2
        have rl:(ss kk).rows.length<=800:=ku I.lr hN;refine⟨rr kk,_,_,rfl,rfl,(w10.rr kk hk).2,by rw[ba];omega,nN _ _ ⟨rfl,_,fin _ _ _ (λk _=>?_) (w10.row hk),?_⟩⟩
        ·unfold put2;split
         ·rename_i z';rw[RI]
         ·rfl
        ·have nl:l≠rr kk:=λz'=>by
          have h1:=E2.1;rw[z',(w10.rr kk hk).1]at h1;cases h1
         exact⟨E2.1,(ao nl).trans E2.2⟩
      case r3 =>
       rintro σ' H10 ⟨rfl,c10,w10,E2⟩;clear w9 hl9 hz9 Qj;have hI8:∀k,k < 2->Inv (3 * (j+1)) (put2 ss kk (bO (ss kk) d).2 k)/\(put2 ss kk (bO (ss kk) d).2 k).bN=nn k/\E1 (put2 ss kk (bO (ss kk) d).2 k):=λk hk'=>by
        unfold put2;split
        ·rename_i z';rw[z'];exact⟨I8,es8,ro.step I hd⟩
        ·exact⟨(hI k hk').1.mono (by omega),(hI k hk').2⟩
       generalize put2 ss kk (bO (ss kk) d).2=s8 at w10 hI8;clear I es ro hI I8 es8 hd;refine aL λGq gq=>?_
       obtain⟨dx1,aM1,aP1,aA1,aD1,aF1,aE1,aR1,ms1,ds1,ws1,fs1,es1,X1⟩:=(w10.ch kk hk).ex;have rl:(s8 kk).rows.length<=800:=ku (hI8 kk hk).1.lr (by omega)
       refine gq ?_;refine⟨_,rfl,.int (kk:Int),rfl,lC,_,_,_,rfl,rfl,SqL.of w10.C.2,uj hk,oo kk,dx1,_,rfl,X1.ob,bV (by trivial),1+2 * kk,oo kk,c10,s8 kk,rfl,w10.ch kk hk,λlm hlm=>⟨.inl ⟨rfl,_,SqL.of ae⟩,lm,_,_,rfl,rfl,ae,by rw[ba];omega,?_⟩⟩
       have s11:=(ax (o:=.lst ((s8 kk).rows.map V.str)) hlm).own (o:=.lst ((s8 kk).rows.map V.str++[V.str (ar "x")])) hlm;have w11:=w10.same s11;have G7:=bp (Step.cl (W:=λ_=>False) id s11) E2.1 E2.2
       generalize bz c10 H10=c11 at w11 G7;generalize upd (upd H10 lm (.lst ((s8 kk).rows.map V.str))) lm (.lst ((s8 kk).rows.map V.str++[V.str (ar "x")]))=H11 at w11 G7 ⊢;refine aL λGq gq=>?_
       clear s11 hlm X1 w10 E2;obtain⟨qq,hq2,eq⟩:∃qq:Nat,qq < 2/\z / 40 % 2=(qq:Int):=⟨(z / 40 % 2).toNat,by omega,by omega⟩
       refine gq ?_;refine⟨_,rfl,_,_,rfl,rfl,⟨by decide,by decide⟩,_,_,rfl,rfl,(by show (0:Int) < 2;decide),_,rfl,_,_,rfl,rfl,⟨by decide,by decide⟩,_,_,rfl,rfl,(by show (0:Int) < 2;decide),_,_,rfl,rfl,(sl 2),λlq hlq=>?_⟩
       refine⟨lq,rfl,⟨_,SqL.of ae⟩,?_⟩;refine kL (K:=K) (a:=lq) (xs:=[V.int (z / 40 % 2),V.int (1 - z / 40 % 2)]) (λi σ' H'=>∃v11 v12,σ'=[some (.ref a),some (.ref lS),some (.ref lC),some (.ref lM),some (.ref lH),some (.ref lR),some (.int z),some (.int (kk:Int)),some (.ref t),some (.ref t'),some (.ref u7),v11,v12,v13,v14,v15]/\∃(c:Col) (hs':List V),W21 K A c H' lS lC lM lH lR nn oo mm rr s8 s8 (λk=>(s8 k).rows) hs'/\(c l=none/\H' l=some (.lst cs))/\(c lq=none/\H' lq=some (.lst [V.int (z / 40 % 2),V.int (1 - z / 40 % 2)]))/\hs'.length<=3 * j+i)
        ⟨_,_,rfl,aw c11 lq none,hs,w11.free (Step.new (W:=λ_=>False) id hlq) λ_ _ _=>id,bp (Step.new (W:=λ_=>False) id hlq) G7.1 G7.2,⟨aS,ae⟩,hhs⟩ (λi σ' H' _ ⟨_,_,_,_,_,_,_,h,_⟩=>SqL.of h.2) ?_ ?_
       ·clear w11 G7 hlq;rintro i y σ' H12 hy ⟨v11,v12,rfl,c12,hs',w12,Bs,J7,Qk⟩;refine aL λGq gq=>?_
        have il:=(List.getElem?_eq_some_iff.mp hy).1;have i2:i < 2:=il;obtain⟨k1,hk1,rfl⟩:∃k1:Nat,k1 < 2/\y=V.int (k1:Int):=by
         have hm:=RV hy;simp only[TK,Ta,or_false]at hm;rcases hm with rfl | rfl
         ·exact⟨qq,hq2,by rw[eq]⟩
         ·exact⟨1 - qq,by omega,by rw[eq];congr 1;omega⟩
        obtain⟨I1,RJ⟩:=hI8 k1 hk1;have al:=I1.CT;have lm1:=I1.lm;obtain⟨dx1,aM1,aP1,aA1,aD1,aF1,aE1,aR1,ms1,ds1,ws1,fs1,es1,X1⟩:=(w12.ch k1 hk1).ex;refine gq ?_;refine⟨_,rfl,.int (k1:Int),rfl,lC,_,_,_,rfl,rfl,SqL.of w12.C.2,uj hk1,oo k1,dx1,_,rfl,X1.ob,bV (by trivial),1+2 * k1,oo k1,c12,s8 k1,rfl,w12.ch k1 hk1,by omega,λnsA uA HA pmA soA sA atA sfA=>?_⟩
        refine aL λGq gq=>?_
        have wA:=w12.same sA;have SA:=id atA;obtain⟨l1,_,l2,ys,ds,SA⟩:=SA;have nl:nsA.length<=1000:=by rw[pmA.length_eq,ba];omega
        have shA:=iZ (ES I1 nsA) (JW (s8 k1) nsA);refine gq ?_;dsimp only[cf];refine⟨_,rfl,_,rfl,.int (k1:Int),rfl,lM,_,_,_,rfl,rfl,SqL.of wA.M.2,uj hk1,2+2 * k1,mm k1,_,s8 k1,rfl,wA.md k1 hk1,by omega,λnsB uB HB pmB soB sB dvB=>?_⟩
        have en:nsB=nsA:=uQ (pmB.trans pmA.symm) soB soA;rw[en]at dvB;refine⟨stD (s8 k1) nsA,stD (s8 k1) nsA,DV.same sB _ SA.dv,dvB,shA,shA,_,rfl,DK (eqv_refl _ (ES I1 nsA)) ?_⟩;have sAB:=sA.trans sB;clear dvB;dsimp only[Bz];refine⟨_,rfl,_,_,rfl,rfl,⟨by decide,by decide⟩,_,_,rfl,rfl,(by show (0:Int) < 3;decide),rfl,_,rfl,dc (λ_=>?_) (λ_=>?_)⟩
        ·have pl8:(s8 k1).av.length<=8:=by have:=I1.pil.yL;rw[ba]at this;exact this
         refine⟨_,rfl,uA,H12,s8 k1,nsA,rfl,sAB,sfA.same sB,nl,by omega,ku I1.ld (by omega),λx hx=>?_,λHC sC=>?_⟩
         ·have hm:=(Dh I1 pmA).mem_iff.mp hx;have:=(I1.asd x hm).1.yL;rw[ba]at this;omega
         ·exact⟨_,_,rfl,bz c12 H12,hs',w12.same sC,bp (Step.cl (W:=λ_=>False) id sC) Bs.1 Bs.2,bp (Step.cl (W:=λ_=>False) id sC) J7.1 J7.2,by omega⟩
        ·have eAB:Step (λ_=>False) (bz c12 H12) (bz (bz c12 H12) HA) HA HB:=Step.cl id sB
         have e12:Step (λ_=>False) c12 (bz c12 H12) H12 HA:=Step.cl id sA
         have wB:=wA.free eAB λ_ _ _=>id
         have atB:=atA.step eAB;have hlB:=bp (e12.trans eAB) Bs.1 Bs.2;have hqB:=bp (e12.trans eAB) J7.1 J7.2;generalize bz (bz c12 H12) HA=cB at wB atB hlB hqB;clear eAB e12 wA atA sfA sA sB sAB w12 Bs J7;refine⟨_,rfl,.inl ⟨rfl,_,SqL.of wB.h.2⟩,_,rfl,_,rfl,uA,cB,s8 k1,nsA,rfl,atB,nl,λuC HC sC atC=>⟨(sl 2),λp hp=>?_⟩⟩
         have eC:Step (λ_=>False) cB (bz cB HB) HB HC:=Step.cl id sC
         have eP:Step (λ_=>False) (bz cB HB) (aw (bz cB HB) p none) HC (upd HC p (.tup [.ref uA,.ref uC])):=Step.new id hp
         have wP:=(wB.free eC λ_ _ _=>id).free eP λ_ _ _=>id
         have hlP:=bp (eC.trans eP) hlB.1 hlB.2;have hqP:=bp (eC.trans eP) hqB.1 hqB.2;have hd:HeldAt K (aw (bz cB HB) p none) (upd HC p (.tup [.ref uA,.ref uC])) (.ref p):=⟨p,.ref uA,.ref uC,stD (s8 k1) nsA,rfl,⟨aS,ae⟩,(atB.sty.step (eC.trans eP)),atC.sty.step eP,ES I1 nsA,JW _ _⟩;have nlH:l≠lH:=λz'=>by
          have h1:=hlP.1;rw[z',wP.h.1]at h1;cases h1
         have nqH:lq≠lH:=λz'=>by
          have h1:=hqP.1;rw[z',wP.h.1]at h1;cases h1
         refine⟨lH,hs',.ref p,rfl,rfl,wP.h.2,by omega,_,_,rfl,_,hs'++[.ref p],wP.hold hd,⟨hlP.1,(ao nlH).trans hlP.2⟩,⟨hqP.1,(ao nqH).trans hqP.2⟩,by rw[ka];show _+1<=_;omega⟩
       ·rintro σ' H12 ⟨v11,v12,rfl,c12,hs',w12,Bs,_,Qk⟩;refine aL λGq gq=>?_
        clear w11 G7 hlq;have RO:hs'.length<=3 * j+2:=Qk;obtain⟨I1,RJ⟩:=hI8 kk hk;obtain⟨dx1,aM1,aP1,aA1,aD1,aF1,aE1,aR1,ms1,ds1,ws1,fs1,es1,X1⟩:=(w12.ch kk hk).ex;refine gq ?_;refine⟨_,rfl,.int (kk:Int),rfl,lC,_,_,_,rfl,rfl,SqL.of w12.C.2,uj hk,oo kk,dx1,_,rfl,X1.ob,bV (by trivial),1+2 * kk,oo kk,c12,s8 kk,3 * (j+1),rfl,w12.ch kk hk,I1,λRk H13 nR sR hR=>?_⟩
        have Ql:∀x∈eR (s8 kk).closed ((s8 kk).av.map (s8 kk).mo) 8,Sg x=true:=λx hx=>by
         obtain⟨q',hq',e⟩:=List.mem_map.mp hx;have:=List.mem_range.mp (List.mem_filter.mp hq').1;rw[<-e];exact rW q' this
        have ksl:(eR (s8 kk).closed ((s8 kk).av.map (s8 kk).mo) 8).length<=8:=by
         unfold eR;rw[ba];exact ku (SM _ _) (by rw[List.length_range];exact gn _)
        generalize eR (s8 kk).closed ((s8 kk).av.map (s8 kk).mo) 8=kw at hR Ql ksl;have w13:=w12.same sR;have LQ:=bp (Step.cl (W:=λ_=>False) id sR) Bs.1 Bs.2
        have tR:xU (bz c12 H12) H13 Rk kw:=⟨bx nR,hR⟩;generalize bz c12 H12=c13 at w13 LQ tR;clear sR X1 w12 Bs;dsimp only[cf];refine⟨_,rfl,.inl ⟨rfl,_,SqL.of w13.h.2⟩,_,rfl,_,rfl,Rk,_,rfl,.inl (SqL.of hR),λl2 hl2=>⟨(sl 2),λp hp=>?_⟩⟩
        have eL:Step (λ_=>False) c13 (aw c13 l2 none) H13 (upd H13 l2 (.lst (kw.map V.str))):=Step.new id hl2
        have tL:xU (aw c13 l2 none) (upd H13 l2 (.lst (kw.map V.str))) l2 kw:=⟨aS,ae⟩;have eP:Step (λ_=>False) (aw c13 l2 none) (aw (aw c13 l2 none) p none) (upd H13 l2 (.lst (kw.map V.str))) (upd (upd H13 l2 (.lst (kw.map V.str))) p (.tup [.ref Rk,.ref l2])):=Step.new id hp
        have wP:=w13.free (eL.trans eP) λ_ _ _=>id
        have hlP:=bp (eL.trans eP) LQ.1 LQ.2;have hd:HeldAt K (aw (aw c13 l2 none) p none) (upd (upd H13 l2 (.lst (kw.map V.str))) p (.tup [.ref Rk,.ref l2])) (.ref p):=⟨p,.ref Rk,.ref l2,.list (kw.map SU),rfl,⟨aS,ae⟩,(FY tR).step (eL.trans eP),(FY tL).step eP,yq Ql,ku (yt kw) (by decide)⟩
        have nlH:l≠lH:=λz'=>by
         have h1:=hlP.1;rw[z',wP.h.1]at h1;cases h1
        refine⟨lH,hs',.ref p,rfl,rfl,wP.h.2,by omega,?_⟩
        have w14:=wP.hold hd;have J8:aw (aw c13 l2 none) p none l=none/\(upd (upd (upd H13 l2 (.lst (kw.map V.str))) p (.tup [.ref Rk,.ref l2])) lH (.lst (hs'++[.ref p]))) l=some (.lst cs):=⟨hlP.1,(ao nlH).trans hlP.2⟩;generalize aw (aw c13 l2 none) p none=c14 at w14 J8;generalize upd (upd (upd H13 l2 (.lst (kw.map V.str))) p (.tup [.ref Rk,.ref l2])) lH (.lst (hs'++[.ref p]))=H14 at w14 J8 ⊢;clear hd wP hlP eP eL tL tR hl2 hp LQ w13 hR nR;have Qm:(hs'++[V.ref p]).length<=3 * (j+1):=by rw[ka];show _+1<=_;omega
        generalize hs'++[V.ref p]=hs4 at w14 Qm;refine aL λGq gq=>?_
        obtain⟨dx1,aM1,aP1,aA1,aD1,aF1,aE1,aR1,ms1,ds1,ws1,fs1,es1,X1⟩:=(w14.ch kk hk).ex;refine gq ?_;refine⟨_,rfl,.int (kk:Int),rfl,lC,_,_,_,rfl,rfl,SqL.of w14.C.2,uj hk,oo kk,dx1,_,rfl,X1.ob,bV (by trivial),1+2 * kk,oo kk,c14,s8 kk,3 * (j+1),rfl,w14.ch kk hk,I1,λRk2 H15 nR2 sR2 hR2=>?_⟩
        have k2:(eR (s8 kk).closed ((s8 kk).av.map (s8 kk).mo) 8).length<=8:=by
         unfold eR;rw[ba];exact ku (SM _ _) (by rw[List.length_range];exact gn _)
        refine⟨.inl ⟨rfl,_,SqL.of hR2⟩,Rk2,_,_,rfl,rfl,hR2,by rw[ba];omega,?_⟩
        have s16:=sR2.own (o:=.lst ((eR (s8 kk).closed ((s8 kk).av.map (s8 kk).mo) 8).map V.str++[V.str (ar "x")])) nR2;have w16:=w14.same s16;have LR:=bp (Step.cl (W:=λ_=>False) id s16) J8.1 J8.2
        generalize bz c14 H14=c16 at w16 LR;generalize upd H15 Rk2 (.lst ((eR (s8 kk).closed ((s8 kk).av.map (s8 kk).mo) 8).map V.str++[V.str (ar "x")]))=H16 at w16 LR ⊢;clear s16 sR2 hR2 nR2 X1 w14 J8 k2;dsimp only;refine aL λGq gq=>?_
        have fin:∀(v14 v15:Option V) (H':Hp),bc H16 H'->∃(w6 w7 w8 w9 w10 w11 w12 w13 w14 w15:Option V),[some (.ref a),some (.ref lS),some (.ref lC),some (.ref lM),some (.ref lH),some (.ref lR),some (.int z),some (.int (kk:Int)),some (.ref t),some (.ref t'),some (.ref u7),v11,v12,some (.ref Rk),v14,v15]=[some (.ref a),some (.ref lS),some (.ref lC),some (.ref lM),some (.ref lH),some (.ref lR),w6,w7,w8,w9,w10,w11,w12,w13,w14,w15]/\∃(c:Col) (ss:Nat->Ch) (hs:List V),W21 K A c H' lS lC lM lH lR nn oo mm rr ss ss (λk=>(ss k).rows) hs/\(c l=none/\H' l=some (.lst cs))/\(∀k,k < 2->Inv (3 * (j+1)) (ss k)/\(ss k).bN=nn k/\E1 (ss k))/\hs.length<=3 * (j+1):=λv14 v15 H' s' =>
         ⟨_,_,_,_,_,_,_,_,_,_,rfl,bz c16 H16,s8,hs4,w16.same s',bp (Step.cl (W:=λ_=>False) id s') LR.1 LR.2,hI8,Qm⟩
        obtain⟨aP2,aA2,aD2,aM2,ds2,ws2,es2,X2⟩:=(w16.md kk hk).ex;obtain⟨dx1,aM1,aP1,aA1,aD1,aF1,aE1,aR1,ms1,ds1,ws1,fs1,es1,X1⟩:=(w16.ch kk hk).ex;refine gq ?_;refine⟨_,rfl,.int (kk:Int),rfl,lM,_,_,_,rfl,rfl,SqL.of w16.M.2,uj hk,mm kk,_,rfl,X2.gm,(sl 0),λp17 RK=>?_⟩
        have s17:=ax (o:=.lst []) RK;have X2p:=X2.same s17;have X1p:=X1.same s17;refine⟨aM2,p17,es2,rfl,rfl,SqL.of X2p.ia.2,SqL.of ae,_,rfl,?_⟩;generalize upd H16 p17 (.lst [])=H17 at X1p X2p s17 ⊢;have el:es2.length=(s8 kk).made.length:=by rw[<-X2p.ent.len,jF]
        cases ee:es2.isEmpty with
        |true=>exact bK (fin _ _ _ s17)
        |false =>
         have e0:0 < es2.length:=by
          cases es2 with
          |nil=>cases ee
          |cons _ _=>exact Nat.succ_pos _
         refine cC ⟨_,rfl,_,_,rfl,rfl,⟨by decide,by decide⟩,_,rfl,.int (kk:Int),rfl,lM,_,_,_,rfl,rfl,SqL.of (s17 _ _ w16.M.2),uj hk,mm kk,_,rfl,X2p.gm,aM2,_,rfl,.inl (SqL.of X2p.ia.2),_,_,rfl,rfl,(by show (0:Int) < (es2.length:Int);omega),_,_,rfl,rfl,?_⟩
         have x0:0<=z / 240 % (es2.length:Int):=SS _ (by omega)
         have x1:z / 240 % (es2.length:Int) < (es2.length:Int):=Sy _ (by omega)
         obtain⟨k',ek'⟩:∃k':Nat,1+z / 240 % (es2.length:Int)=(k':Int):=⟨(1+z / 240 % (es2.length:Int)).toNat,by omega⟩
         show cf 14 (V.int (1+z / 240 % (es2.length:Int))) _ _ _;rw[ek'];dsimp only[cf];have hno:cy (s8 kk) k':=⟨by omega,by omega⟩
         refine⟨_,rfl,.int (kk:Int),rfl,lC,_,_,_,rfl,rfl,SqL.of (s17 _ _ w16.C.2),uj hk,oo kk,dx1,_,rfl,X1p.ob,bV (by trivial),_,rfl,1+2 * kk,oo kk,k',c16,s8 kk,rfl,X1p.at,hno,λu8 H18 s18 mn8 fr8=>?_⟩
         have X2q:=X2p.same s18;have Qn:=s17.trans s18;have hmo:=I1.sj hno;have shm:=iZ (J0 hmo) (Of ((s8 kk).mo k'));dsimp only[cf];refine⟨_,rfl,_,rfl,.int (kk:Int),rfl,lM,_,_,_,rfl,rfl,SqL.of (Qn _ _ w16.M.2),uj hk,_,rfl,2+2 * kk,mm kk,k',c16,s8 kk,rfl,X2q.at,hno,λt9 ht9=>?_⟩
         refine⟨mnD _,mnD _,mn8.dv,ht9.dv,shm,shm,_,rfl,DK (eqv_refl _ (J0 hmo)) ?_⟩;dsimp only[Bz];refine aL λGq gq=>?_
         obtain⟨_,v8,RL,_⟩:=mn8;refine gq ?_;refine ixv rfl (SqT.of RL) cv ⟨rfl,_,rfl,?_⟩
         by_cases h0:((s8 kk).mo k').k=0
         ·obtain⟨tx,etx⟩:∃tx,(s8 kk).mo k'=.mat tx:=by
           generalize (s8 kk).mo k'=m' at h0;cases m' <;> first | exact⟨_,rfl⟩ | exact absurd h0 (by simp[Mn.k])
          refine aL λGq gq=>?_
          obtain⟨p9,f1,f2,f3⟩:=fr8 tx etx;rw[etx]at hmo;have txl:tx.length<=12+3 * (j+1):=hmo.1;refine gq ?_;refine pM ((qR _ (Mn.k8 _)).trans (decide_eq_true h0)) (ixv rfl (SqT.of f1) rfl ⟨.inl ⟨rfl,_,SqL.of f3⟩,p9,_,_,rfl,rfl,f3,by rw[ba];omega,?_⟩)
          exact fin _ _ _ (s17.trans (s18.own f2))
         ·exact pN ((qR _ (Mn.k8 _)).trans (decide_eq_false h0)) (fin _ _ _ Qn)
   ·rintro σ Hj ⟨v6,v7,v8,v9,v10,v11,v12,v13,v14,v15,rfl,c,ss,hs,w,hlc,hI,hhs⟩;have lim:fe=16777216:=by decide
    refine⟨_,rfl,lC,rfl,⟨_,SqL.of w.C.2⟩,λD hD=>?_⟩
    refine oX (K:=K) (a:=lC) (xs:=[.ref (oo 0),.ref (oo 1)]) (λi ys H2=>bc Hj H2/\H2 D=some (.lst ys)/\ys.length=i/\br (λ(ws:List Str) v=>∃p,v=V.ref p/\p≠D/\H2 p=some (.lst (ws.map V.str))) (([(ss 0).rows,(ss 1).rows]).take i) ys)
     ⟨ax hD,ae,rfl,.nil⟩ (show 2<=fe by omega) ?_ ?_ ?_
    ·rintro i ys H2 hi ⟨s2,h2,e,_⟩;exact⟨SqL.of (s2 _ _ w.C.2),h2,e⟩
    ·rintro i x ys H2 hx ⟨s2,h2,e,ha⟩;refine aL λGq gq=>?_
     have i2:i < 2:=(List.getElem?_eq_some_iff.mp hx).1;obtain rfl:V.ref (oo i)=x:=si ((two (p:=λk=>[V.ref (oo 0),V.ref (oo 1)][k]?=some (V.ref (oo k))) rfl rfl i i2).symm.trans hx)
     have er:=two (p:=λk=>[(ss 0).rows,(ss 1).rows][k]?=some (ss k).rows) rfl rfl i i2
     have w2:=w.same s2;obtain⟨dx1,aM1,aP1,aA1,aD1,aF1,aE1,aR1,ms1,ds1,ws1,fs1,es1,X1⟩:=(w2.ch i i2).ex;refine gq ?_;refine⟨_,rfl,oo i,dx1,_,rfl,X1.ob,bV (by trivial),1+2 * i,oo i,bz c Hj,ss i,rfl,w2.ch i i2,λl2 hl2=>?_⟩
     have nD:D≠l2:=az h2 hl2;refine bS.mk i2 ((ao nD).trans h2) ⟨(s2.new hl2).own hD,ae,by rw[ka,e];rfl,?_⟩
     rw[SY,er];refine br.snoc (ha.imp λws v ⟨p,e',np,hp⟩=>⟨p,e',np,(ao np).trans ((ao (az hp hl2)).trans hp)⟩) ⟨l2,rfl,nD.symm,(ao nD.symm).trans ae⟩
    ·rintro ys H2 ⟨s2,h2,_,ha⟩;have ha':br (λ(ws:List Str) v=>∃p,v=V.ref p/\p≠D/\H2 p=some (.lst (ws.map V.str))) [(ss 0).rows,(ss 1).rows] ys:=ha
     have d1:DV K H2 (.list ([(ss 0).rows,(ss 1).rows].map λws=>.list (ws.map SU))) (.ref D):=by
      unfold DV;exact⟨D,ys,rfl,SqL.of h2,br.dvs (λws v ⟨p,e,_,hp⟩=>by rw[e];exact vj (SqL.of hp)) ha'⟩
     have d2:DV K H2 (.list ([(ss 0).rows,(ss 1).rows].map λws=>.list (ws.map SU))) (.ref lR):=by
      unfold DV;refine⟨lR,_,rfl,SqL.of (s2 _ _ w.R.2),br.dvs (R:=λ(ws:List Str) v=>∃p,v=V.ref p/\H2 p=some (.lst (ws.map V.str))) (λws v ⟨p,e,hp⟩=>by rw[e];exact vj (SqL.of hp)) (.cons ⟨_,rfl,s2 _ _ (w.rr 0 (by decide)).2⟩ (.cons ⟨_,rfl,s2 _ _ (w.rr 1 (by decide)).2⟩ .nil))⟩
     have ly:(PyData.list ([(ss 0).rows,(ss 1).rows].map λws=>.list (ws.map SU))).canLay0=true:=by
      simp only[R8];refine sD λws hws=>yq ?_
      simp only[TK,Ta,or_false]at hws;rcases hws with rfl | rfl
      ·exact(hI 0 (by decide)).2.2
      ·exact(hI 1 (by decide)).2.2
     have dp:(PyData.list ([(ss 0).rows,(ss 1).rows].map λws=>.list (ws.map SU))).depth<=64:=by
      have:=lZ (f:=λws:List Str=>PyData.list (ws.map SU)) yt [(ss 0).rows,(ss 1).rows]
      simp only[Sr];omega
     refine⟨_,rfl,_,_,d1,d2,iZ ly dp,iZ ly dp,_,rfl,DK (eqv_refl _ ly) ?_⟩;clear d1 d2 ly dp ha ha';dsimp only[Bz];refine⟨_,rfl,lH,rfl,⟨_,SqL.of (s2 _ _ w.h.2)⟩,λD2 hD2=>?_⟩
     refine DU (K:=K) (a:=lH) (xs:=hs) (λj ys H4=>ys=(Tc j true).map V.bl/\bc H2 H4/\H4 D2=some (.lst ys)) ⟨rfl,ax hD2,ae⟩ (by omega) ?_ ?_ ?_
     ·rintro j ys H4 hj ⟨rfl,s4,h4⟩;exact⟨SqL.of (s4 _ _ (s2 _ _ w.h.2)),h4,by rw[ba,SK]⟩
     ·rintro j y ys H4 hj ⟨rfl,s4,h4⟩;refine aL λGq gq=>?_
      obtain⟨p,v1,v2,d,rfl,hp,sa,sb,ly,dp⟩:=w.held y (RV hj);have s24:=s2.trans s4;refine gq ?_;refine⟨p,_,_,rfl,SqT.of (s24 _ _ hp.2),_,rfl,_,rfl,d,d,DV.same s24 _ sa.dv,DV.same s24 _ sb.dv,iZ ly dp,iZ ly dp,?_⟩;rw[eqv_refl d ly];refine bS.mk (List.getElem?_eq_some_iff.mp hj).1 h4 ⟨?_,s4.own hD2,ae⟩;rw[List.replicate_succ',kg];rfl
     ·rintro ys H4 ⟨rfl,s4,h4⟩;refine⟨D2,_,rfl,SqL.of h4,?_⟩;have ea:(Tc hs.length true).all id=true:=by simp
      rw[ea];exact q _
end
end My
namespace L2
open PySem PySem.Spec PyProof.Rows
theorem RM {p:Nat->Prop}(h0:p 0)(h1:p 1)(h2:p 2)(h3:p 3)(h4:p 4)(h5:p 5)(h6:p 6)(h7:p 7):∀k,k < 8->p k
 | 0,_=>h0 | 1,_=>h1 | 2,_=>h2 | 3,_=>h3 | 4,_=>h4 | 5,_=>h5 | 6,_=>h6 | 7,_=>h7 | n+8,h=>absurd h (by omega)
theorem three {p:Nat->Prop}(a:p 4)(b:p 5)(c:p 6):∀k,k=4\/k=5\/k=6->p k
 |_,.inl rfl=>a | _,.inr (.inl rfl)=>b | _,.inr (.inr rfl)=>c
section
variable{K:bo}{fd:fi}{a b c:Str}
theorem bd0 (h:bindArgs fd ⟨[],[]⟩=pure []):Binds K fd [] []:=.all λus hl=>match us,hl with | [],_=>h
theorem bd1 (h:∀u,bindArgs fd ⟨[u],[]⟩=pure [(a,u)]):Binds K fd [a] []:=.all λus hl=>match us,hl with | [u],_=>h u
theorem bd2 (h:∀u v,bindArgs fd ⟨[u,v],[]⟩=pure [(a,u),(b,v)]):Binds K fd [a,b] []:=.all λus hl=>match us,hl with | [u,v],_=>h u v
theorem bd4 {d:Str}(h:∀u v w x,bindArgs fd ⟨[u,v,w,x],[]⟩=pure [(a,u),(b,v),(c,w),(d,x)]):Binds K fd [a,b,c,d] []:=.all λus hl=>match us,hl with | [u,v,w,x],_=>h u v w x
theorem bd3 (h:∀u v w,bindArgs fd ⟨[u,v,w],[]⟩=pure [(a,u),(b,v),(c,w)]):Binds K fd [a,b,c] []:=.all λus hl=>match us,hl with | [u,v,w],_=>h u v w
theorem Qo {C:Addr}(h:RU K (.ref C) a=some none):cn K C a:=h
theorem Oo {P:Params}{t:Addr}{es:Array DictEntry}{n:Nat}(h:K.lookup t=some ⟨.type "dict",none,.dict es n,#[]⟩)(k:PySem.W.KeysLit P es.toList):Kq P K t:=⟨_,_,h,k⟩
end
section
variable{K:bo}{C:Addr}{v nm q:Str}
theorem Qp {cd:ClassData}(g:RU K (.ref C) "__getattribute__"=some (some (.builtin "BaseException.__getattribute__")))(k:RU K (.ref C) "__getattr__"=some none)(b:TV K C (.type "BaseException")=some true)
  (c:PySem.W.clsIn K C=some cd) (h:RU K (.ref C) "__class__"=some (some (.builtin "object.__class__"))) (n:PySem.W.specialIn K (.builtin "object.__class__") "__get__"=some (some (.builtin "getset_descriptor.__get__"))) (t:PySem.W.takesIn K (.builtin "object.__class__")=some true)
  (o:TV K C (.type "object")=some true):OZ K C:=⟨⟨g,k,b⟩,by rw[c];rfl,h,n,t,o⟩
theorem Qq (g:RU K (.ref C) "__getattribute__"=some (some (.builtin "BaseException.__getattribute__")))(k:RU K (.ref C) "__getattr__"=some none)(b:TV K C (.type "BaseException")=some true)
  (n:RU K (.ref C) v=some none) (d:PySem.W.hasDictIn K C=true):Q5 K C v:=⟨⟨g,k,b⟩,n,d⟩
variable{N D M f:Addr}{bs su:List Value}{hd ab:Bool}{sn:List Str}{co:Option Bool}{dd d1 d2 d3:Option Addr}{k0 k1 k2 k3 k5:Option Value}{o1 o2 o3:Value}{e1 e2:Array DictEntry}{n1 n2:Nat}{s1 s2 s3:Array (Option Value)}{cl:ClassData}
theorem Qr (l:K.lookup C=some (Td nm q C N bs (.ref D::Fd) hd sn su ab co dd k0 k1 k2 k3 k5 "ValueError.__new__"))(a:K.lookup N=some ⟨o1,d1,.dict e1 n1,s1⟩)(b:strKeys e1=true)(c:Tb K N "__init__"=some none)
  (m:K.lookup D=some ⟨o2,d2,.cls cl,s2⟩) (e:cl.ns=M) (x:K.lookup M=some ⟨o3,d3,.dict e2 n2,s3⟩) (y:strKeys e2=true) (z:Tb K M "__init__"=some none):Ax K C:=by
 subst e;exact⟨⟨_,_,_,_,_,_,_,_,_,_,_,_,_,_,_,_,l,⟨⟨_,_,_,_,_,a,b⟩,c⟩,.own m ⟨⟨_,_,_,_,_,x,y⟩,z⟩ .base⟩⟩
theorem Qs (l:K.lookup C=some (Td nm q C N bs (.ref D::Fd) true sn su ab co dd k0 k1 k2 k3 k5 "ValueError.__new__"))(a:K.lookup N=some ⟨o1,d1,.dict e1 n1,s1⟩)(b:strKeys e1=true)(c:Tb K N "__init__"=some (some (.ref f)))
  (m:K.lookup D=some ⟨o2,d2,.cls cl,s2⟩) (e:cl.ns=M) (x:K.lookup M=some ⟨o3,d3,.dict e2 n2,s3⟩) (y:strKeys e2=true) (z:Tb K M "__init__"=some none)
  (g:PySem.W.isFn K (.ref f)=true) (h:RU K (.ref C) "__setattr__"=some (some (.builtin "object.__setattr__"))) (n:RU K (.ref C) v=some none):vS K C f v:=by
 subst e;exact⟨⟨_,_,_,_,_,_,_,_,_,_,_,_,_,_,_,_,l,.own m ⟨⟨_,_,_,_,_,x,y⟩,z⟩ .base,rfl,⟨⟨_,_,_,_,_,a,b⟩,c⟩⟩,g,h,n⟩
end
theorem Qt {K:bo}{P:Params}{t:Addr}{es:Array DictEntry}{n:Nat}{t0 t1 t2 t3 t4 t5 t6 t7:Tok}(h:K.lookup t=some ⟨.type "dict",none,.dict es n,#[]⟩)(k:PySem.W.KeysLit P es.toList)(m:es.toList.map DictEntry.key=[.str (ar "matter") t0,.str (ar "change") t1,.str (ar "mend") t2,.str (ar "put off") t3,.str (ar "close") t4,.str (ar "lay") t5,.str (ar "rest") t6,.str (ar "point") t7])(l:(t == Ti)=false):rA P K t [ar "matter",ar "change",ar "mend",ar "put off",ar "close",ar "lay",ar "rest",ar "point"]:=⟨⟨es,n,h,k,vQ (xs:=[(ar "matter",t0),(ar "change",t1),(ar "mend",t2),(ar "put off",t3),(ar "close",t4),(ar "lay",t5),(ar "rest",t6),(ar "point",t7)]) m⟩,by trivial,l⟩
end L2
namespace My
open PySem L2
theorem fin {l:PySem.W.OpenLaw}{w:World}{K:bo}{mg:Str->Option Value}{fa:Addr}{A:Adr}(hfa:mg "law"=some (.ref fa))(T:Txt w.params K mg A):∃fd:fi,(∀(s:Shared) (v:Value),BindsTo s fd ⟨[v],[]⟩ [("_law_script",v)])/\∀base:Heap,K.In base->base.Ns mainGlobals mg->aX l.prog w K mg base CX0 20 fa fd ["_law_script"] (FW K):=by
 have e:=hfa.symm.trans T.Pa;cases e;exact⟨_,T.Pc,λbase _ _=>Om T.Pb T⟩
theorem walk {l:PySem.W.OpenLaw}{q:kr}{loose:List Str}{XP:(Str->Option Value)->Heap->Prop}{YP:World->Heap->Prop}{d:DefRec}{K:Params->bo}(hn:l.most=some 63)(hdf:d.params.defaults=[])
  (hY:∀(w:World) (h:Heap),YP w h->(K w.params).In h)
  (F:∀(w:World) (mg:Str->Option Value) (fa:Addr) (h:Heap),(K w.params).In h->h.Ns mainGlobals mg->mg d.name=some (.ref fa) ->
   ∃fd:fi,(∀(s:Shared) (u:Value),BindsTo s fd ⟨[u],[]⟩ [("_law_script",u)])/\∀base:Heap,(K w.params).In base->base.Ns mainGlobals mg->aX l.prog w (K w.params) mg base CX0 20 fa fd ["_law_script"] (FW (K w.params))) :
  PySem.W.WalkO q loose XP YP l.row.toRowW d [] (λf vs=>PySem.call f vs) :=
 L2.Ko (n:=63) (k:=20) (x:="_law_script") (CX:=λ_=>CX0) (sp:=λw=>FW (K w.params)) hn (by decide) hdf ⟨rfl,by decide,by decide,rfl⟩ hY F (λ_ _ a ns hl _ hS=>⟨a,ns,rfl,hS,hl,λ_=>rfl⟩) λ_ _ _ _ _ z=>z
end My
structure PySem.W.Fast:Prop where(tw17713710988070893097 tw17579662881226293493 tw2585902952421083049 tw13649805383118751609 tw7477823365547111268 tw13147010497567838415 tw14262508648304110010 tw13666956095713818100 tw1056538762458175858 tw15122360760409325897 tw9394583611236753790 tw13232436359871496602 tw9100087549092535232 tw10553703991144958963 tw4950373710701421823 tw7518932709726164222 tw9272133109303255373 tw16684703966366781332 tw5632057577657700677 tw694548779225635709 tw17724185635611266393 tw8597805829506745339 tw17707549460883055279 tw7357300854135295115 tw5587258778071769969 tw6511779096562961325 tw3615879584492638899 tw7066561989052750969 tw216736475723931571 tw6842742541311670135 tw4007990385918489802 tw2198462646021851912 tw17379900100017084276 tw12808890209998599274 tw6345727700543616859 tw7907153474952024322 tw14498482505395692061 tw9220787361093143308 tw11641572450998349406 tw17025186715115132624 tw12274052258450672260 tw9181461470307622774 tw18308746730975760963 tw13790866372866762664 tw13667584981453534287 tw5786529543402034049 tw15538084793066568630 tw13207181273301863459 tw17813365797126731842 tw10940125913099547361 tw18100050032783612550 tw15738378857552811156 tw455886836012883702 tw3032960415704447359 tw18208614766427159650 tw12213300826266646229 tw14384736662891011739 tw8349640953109102644 tw4358602588857781059 tw3777055034557235345 tw3598778642192358292 tw12875243950437831003 tw14590463545916792598 tw16732375951752903872 tw11613865736458348632 tw5055777983687243417 tw1328649752850077273 tw9777250348906857193 tw3944076262635334902 tw17881863583143792845 tw13284491072415570571 tw4501021351050863905 tw3022823885782605331 tw16987282603369770063 tw12279968634461780084 tw5394819106833010092 tw302406169272499615 tw10587024435503431527 tw11765936832451808655 tw10582442880462780804 tw1001789096899102583 tw6653744977986396358 tw16628040363931644107 tw2594877627099538820 tw17594628731455512213 tw15032204455777320094 tw7576823265627629685 tw18041406642461843656 tw10072903320059266164 tw13869162245869948863 tw16925362983977063529 tw5711681533789153434 tw15730533560735280592 tw4535814662647888109 tw12811122391470587328 tw1764275880633705772 tw11186148421842774051 tw7036056700519694073 tw16041183171871433714 tw17266881546741772146 tw8314123061230794609 tw925908819799951948 tw1273459564699940848 tw4984266774477584991 tw18379294430431573691 tw2760385015424160869 tw5708848381584656005 tw11189334970517271802 tw8422958171156564664 tw16814826570700391750 tw2860882527874383239 tw16729474200553139756 tw16849471214175153613 tw17989881381480128407 tw15265558631476699855 tw15351891657515736690 tw13377193497103789721 tw16431377872880139187 tw12505384559987464454 tw11747975069338355610 tw16290856402453628831 tw11931858684410266198 tw7780545072900934597 tw4194400658080748082 tw8562553440958006055 tw16915853639850777135 tw14865535239375014732 tw3755653795352938327 tw9877214877391219516 tw12241146463902030019 tw3519298242942713091 tw10545369246256513978 tw8559656747133873488 tw1959113759386506008 tw13933694219472523033 tw14612544451816669264 tw5115456880345206809 tw1300557057647268733 tw3445845529338223440 tw8791466100463657892 tw4333288182739858896 tw8223359021268235635 tw8990018596102878023 tw10749827197944039769 tw17955764103065472455 tw4445695053749591545 tw1671193275223919064 tw16066619835751311334 tw802446106051323799 tw11807394320756698394 tw5206913728412520677 tw4666496101588274212 tw2092220676060990612 tw4448870283051850304 tw18196052101514490756 tw7010838974228448608 tw16696767452591580582 tw5717929171509321228 tw8100541294032385041 tw9907835676912523918 tw12710530371158406931 tw18096735248318080161 tw9588706959003670704 tw5751001801018396560 tw16128030421674546717 tw4325619539412811588 tw12004708819583501987 tw5186994195042080249 tw4614945278766200380 tw5436071555783370640 tw6198120187292488442 tw13965969051316378009 tw13264565750725184881 tw10857593859222941686 tw13510706079095144542 tw4035986151643752694 tw8090909817770617092 tw11518992522278568408 tw5113608708580946615 tw9871195934246447306 tw18083364536953646442 tw1940988397218200886 tw3186464247274195976 tw3126031350772432085 tw18339671729876480158 tw15666493330448966407 tw3994023721313454378 tw15779255309773214624 tw6194876692850270084 tw18379303890108327328 tw10845279925286401432 tw10282205934481560518 tw8417906985528046945 tw5830991204255427415 tw8573055881822819962 tw16518217982221977167 tw2577575709596213756 tw1773064960604676678 tw14687258977729369221 tw11906404633763261088 tw16012248214187801383 tw17748090523282228506 tw2384355030594344927 tw14527620126694590113 tw3956678483343304438 tw1757392127662456515 tw4728982792122572557 tw7408778400815600017 tw3449470936955852669 tw4734926611813573428 tw15392901746567812463 tw1887306825769461199 tw11832789629421199782 tw13672724311252507917 tw8126583052936997332 tw14118552743251751253 tw12782936779605616040 tw5245789512885641558 tw8641423962980660855 tw8260185309035004627 tw4974060010718895624 tw2774305198771124766 tw14947631636140051046 tw13088049892621662469 tw13561354114378486923 tw17967264260662247401 tw12268720417705724338 tw18243658525540183004 tw1312984221996608658 tw3348195987753048199 tw8470498842348500792 tw8574006282949390693 tw12653522719756443716 tw8368903703354900169 tw1347301190669349507 tw14294406674088691443 tw12289521055982773020 tw6075756632632782200 tw12340159136207669278 tw15206513998696843301 tw18384839284212009355 tw9854318406249088175 tw2518132261340746297 tw8729209914282521673 tw3735978865719879561 tw3250803811108498374 tw8452267330463912377 tw16312278115596035035 tw9957733634510360795 tw2624871373954562792 tw7701734441377534811 tw1221201478728768095 tw11743788085810587663 tw9337392739305316787 tw937932071034235649 tw7963168127161147540 tw16088805075570260984 tw3543290997217496451 tw10755088934652840747 tw16085585476546479766 tw66664101120959488 tw266775684738784202 tw13628053881766167556 tw1298774583966401444 tw11600266069451208594 tw13540203213213868343 tw10093530257919956196 tw5798428769508418663 tw7380291056578988790 tw15059016106602831781 tw5550656691197058746 tw14510440273510703993 tw16110494833634343547 tw6657755451538217011 tw7611460153192433783 tw3992382883658084131 tw12712693988213471118 tw5388040635576437510 tw2575010059779314169 tw7581393606008098703 tw3606523965430018985 tw41755141233672598 tw3526028232752376518 tw15512633851531627998 tw5964914772313891407 tw140327554490567440 tw17194524387589442289 tw5116578103658263539 tw13611776344522363710 tw2712688569012295558 tw14853255111951423516 tw11190671583213268640 tw5266537876467259396 tw17205530713399329680 tw11550150394958082112 tw10799227650704660565 tw7823115601456574523 tw1842569471054370952 tw3926281459959455385 tw17385043209258629616 tw14753899631809897521 tw15373910467351870201 tw10810753558908705356 tw4258980175831325255 tw3392712039520457428 tw15783111987233279218 tw14652680743592598874 tw2535958637639639134 tw12817232870985375354 tw14139699023945684020 tw13586394955672442555 tw17483432900823682927 tw6985615084159057537 tw4035241173077642190 tw7365811481323550329 tw12566276124744607041 tw5574405061487211375 tw3650629965427811361 tw14815141487837992017 tw15133016502907835215 tw7493296929487217628 tw6705692932343074478 tw17145679485314111016 tw322892523553463805 tw13618009083738059070 tw11079215227244013241 tw15077471540422952384 tw8283408992688176899 tw12030233211751629051 tw10823682104711170806 tw3503563689666573552 tw16396848754375219960 tw6747524261215498676 tw17874745831030901178 tw5531878616073844216 tw16793231367552295513 tw5058007077500186701 tw8576889460647288709 tw16805916587652986338 tw15686808884929116261 tw5838788678101264639 tw7021712969123516912 tw3011533413332220106 tw14086819287844084299 tw5348385114599837466 tw9591386024819704807 tw17077908854336029312 tw5917926160055547511 tw14701580620925418337 tw2908848110250708660 tw4158015705956035638 tw5729616039726535260 tw84103713733776253 tw267521046775834713 tw10480302380728527044 tw11797861158687383106 tw15036370206668428395 tw12491349735195195537 tw7106104909911058537 tw5170288723770179414 tw12420001063750116223 tw15934866712244064243 tw16213373909554867131 tw17229305661671446526 tw11270295942896608505 tw5824457584752118474 tw1064542695148536468 tw1098705170163639034 tw12683269193055310503 tw1062556196413317362 tw5525243731889052472 tw8105770113896371679 tw1158726752670927943 tw2666077346153018861 tw10543793045230147203 tw8479581144083682730 tw2123937103668133089 tw9507524578727871995 tw7141422249543245009 tw5850262523796153386 tw8610401647920704581 tw17606542731138957115 tw3351450437397045666 tw17855192267294027513 tw6385521729576838621 tw14490891039871103147 tw5105592519853036623 tw6223722291243127140 tw17579445164197572065 tw4736811652392787790 tw18352382151008799935 tw16281852267296022185 tw7872603011492294988 tw6132231861195933078 tw3426434773734849413 tw1092821696216664687 tw5591892981026732457 tw14609323216736997790 tw7357646988998797949 tw7222535440518632933 tw16042899301368075877 tw731396310983600573 tw11465028345964358515 tw11840442003508428279 tw14162906115660027716 tw10275494987832974513 tw7194538653491546105 tw1761857925062084043 tw10699198781745501221 tw8892017029445202595 tw6280619663203225076 tw11279504318427791932 tw16149836860580941418 tw1703617709429206231 tw5536296828113720802 tw10269445000740415602 tw3201919589411182808 tw1793706618828613509 tw6234835818445607764 tw10011639789792785185 tw15771876118672838956 tw8241249483552014564 tw15343847704399065262 tw5269773758755609694 tw1525404221130975359 tw761940989941650972 tw5212834216721319882 tw9124858551432685222 tw1265795628515294287 tw605617751746776232 tw4371923702990072193 tw17354485806890159227 tw7836871422325692143 tw752742167889581121 tw18444933421684802973 tw10258475745440013350 tw9914269335311503592 tw15124840205782624545 tw4805466253379292350 tw8905865599942553020 tw12917217345699124114 tw4704648150976870395 tw373791396307152044 tw280853327957791342 tw12074957363423405067 tw13853538280731919524 tw11550172504482494979 tw1455930090966590168 tw10641291596638125775 tw12512516432445622776 tw5819011848016489659 tw4890452618297920111 tw15805090733667430246 tw15345705151546115115 tw6041543886382025662 tw5321812992431679116 tw11382422018758473698 tw14167162785844133038 tw14691973475403727182 tw6625542552857664556 tw14944998825073399306 tw12097181722077467596 tw8886141157406314691 tw15302102200096092198 tw5215631020129685330 tw7116459597852340242 tw12325035941962208579 tw18531667222091950 tw529803259976794676 tw17747158823697679230 tw1458628284335804769 tw16658648967724415105 tw1597364104325108934 tw16736123158615952486 tw1361019395869270244 tw10826471662430008724 tw6942769857659179 tw1821507687430769945 tw13997105587780602779 tw13801414042985078580 tw9750329707500921127 tw3717168536765839539 tw2399655526917708123 tw11187378831770394523 tw13379546306325438623 tw10077145226435978924 tw15099808998301383807 tw2629598866815056970 tw10112712686873601112 tw15847701228989170643 tw2210362713015864829 tw4938037070538905137 tw12814975540536126410 tw15408628938462939296 tw9421439455190463083 tw14315187008381487137 tw13152521306323824117 tw16438954802299607417 tw11545350893120442352 tw2913223500800916208 tw18347431055789071759 tw3247992597832149264 tw8514958163284582683 tw2006996101078233881 tw14422059471502564671 tw3802166130774780618 tw10310561017233367682 tw11810641603046876400 tw956490761115083270 tw3814341504013990903 tw13478805141417333079 tw4818056190519071343 tw16406496452659096591 tw4080676836270329571 tw14886945259731829638 tw12677205906616006319 tw5552397396127168484 tw14476874108485677897 tw18392402342486571525 tw6907457907940074852 tw13979608873957015600 tw11367694354396853990 tw17149126214861699020 tw12929698759749997089 tw14026462531424797572 tw6113051434960289072 tw8240967242786507778 tw18102354624907498238 tw9238653688146206696 tw16896505657388050994 tw15240758638964648076 tw9826530966560558802 tw97537502205328297 tw1359021582899515603 tw9980356198444884586 tw17895670547180433299 tw8983024157518768235 tw9876907593390677793 tw12409397283942164989 tw9103669840970753336 tw9295164252954872064 tw2671365651693780860 tw14494476148756912107 tw14429826938680551255 tw8684191356234817779 tw6807496029504996411 tw6080767688731389661 tw14309645341058456208 tw4899348282495955383 tw5933765835925321020 tw11270489982269382443 tw5290540421679287016 tw15425018887966049194 tw12135541390950477883 tw11511694281727792697 tw1064793678595262886 tw3637381865118038135 tw15239416472722133081 tw9116928565341596808 tw13375714567988265266 tw378335043652773142 tw16686134015281861476 tw15028226494142879327 tw14833390587729194303 tw3932131021400237666 tw8810459560922735459 tw12722552446030287309 tw16129592213510950055 tw14894860045503069753 tw16084914649178906625 tw15091328914353370480 tw2017556346063834409 tw9489434010850022415 tw15473735298179403536 tw11262181708239675805 tw9151510162628960069 tw13507309418916601025 tw31182615320679889 tw10169995572440678724 tw4769671511630118917 tw6809747276082297412 tw613553201579969594 tw11933651030516554713 tw6014151519794611590 tw15299798081533905200 tw9461840799147913809 tw15349337324625891655 tw11091159305041725660 tw10375740664493809791 tw18132548160646424824 tw1765511478007242031 tw15020989378089725122 tw1225407493343719700 tw11953565891125596730 tw2322326800775097791 tw16170851391730516076 tw9046197407043939877 tw4994570842722062075 tw11145234303683318638 tw13607201747903222116 tw3630006246275146543 tw13296261344146752878 tw1884092770559771930 tw856626118826161108 tw7326042322910681206 tw11680805331846908537 tw9816055634517006106 tw99737315294044858 tw17929267227539712897 tw3252818955390217806 tw11744426134237783998 tw17900935269106635729 tw8058655415491110055 tw4624198453311636700 tw2366662158984895950 tw1625043589807981103 tw9973640156358750777 tw9606486605170177727 tw8871448943090860437 tw13651056945084449447 tw939888527475058144 tw10640304780625451820 tw17582455701513788995 tw16108953624989048897 tw17857802315097120095 tw17534794772387957101 tw7988306189418684701 tw10495264535817316125 tw10794293626595171648 tw6956828638530874751 tw7954436519848557022 tw12983062366562543272 tw17341753369378053322 tw17747104500088433724 tw10679083817895411544 tw189142336731633490 tw2946852008421499799 tw11660659109507653066 tw16370860297427652425 tw6289747453955413799 tw11091391831868396335 tw11159620407048512912 tw13261980510564728450 tw10458809906388882790 tw12175367629081804295 tw6702369491366625304 tw133841826419830044 tw6716900422242738842 tw16200969607589681819 tw8640997181990004608 tw16218464655470813765 tw3918084156915363041 tw1275706058244048184 tw576414378018145088 tw6468171656858255116 tw6482760057066291570 tw12515743843997007654 tw10861363978459065783 tw10579647791607283041 tw1457292636730942994 tw3751400135013604578 tw13404271475547978815 tw238448024178487693 tw10355873095669402884 tw2052346943025089877:True)
open PySem PySem.W PyProof.Rows
set_option maxRecDepth 100000 in
set_option maxHeartbeats 0 in
theorem PySem.Challenge.cw_moot_k21_two_chambers_holds : PySem.Challenge.rw_moot_k21_two_chambers.Holds := by
 w_on;o_law;k_head;(case hw=>w_witness2)
 k_fill;refine My.walk (l:=PySem.Challenge.rw_moot_k21_two_chambers) rfl rfl (λw h Y=>PySem.W.kIn_of Y) ?F
 case F =>
  intro w mg fa h KX G hmg;refine' My.fin (A:=.mk ..) hmg ?T
  case T =>
   apply My.Txt.mk
   all_goals try refine L2.RM ?_ ?_ ?_ ?_ ?_ ?_ ?_ ?_
   all_goals try refine L2.three ?_ ?_ ?_
   all_goals try (delta My.Adr.C My.Adr.fk My.Adr.fkd My.Adr.fn My.Adr.fnd My.Adr.ft My.Adr.ftd My.nm;simp only)
   all_goals try dsimp only
   all_goals first
    | (apply PySem.W.mg_of KX G;k_is)
    | (apply PySem.W.mg_none_of KX G;k_is)
    | (apply L2.MR <;> k_is)
    |exact L2.bd0 rfl
    |exact L2.bd1 λ_=>rfl
    |exact L2.bd2 λ_ _=>rfl
    |exact L2.bd3 λ_ _ _=>rfl
    |exact L2.bd4 λ_ _ _ _=>rfl
    | (apply L2.Qo;k_is)
    |exact⟨_,by k_is⟩
    | (apply L2.Oo;k_is;k_keys)
    | (apply L2.Qt;k_is;k_keys;rfl;rfl)
    |kts_exm
    |kit_is
    | (apply L2.Qp <;> k_is)
    | (apply L2.Qq <;> k_is)
    | (apply L2.Qr <;> first | k_is | with_unfolding_all rfl)
    | (apply L2.Qs <;> first | k_is | with_unfolding_all rfl)
    | (constructor <;> k_is)
    |exactλ_ _=>.of_eq rfl
